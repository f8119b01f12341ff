"""Closed tables: certificates that a sequent has no derivation."""

from wordfractions.sequents.sequent import balances_differ
from wordfractions.sequents.steps import last_steps
from wordfractions.sequents.text import format_sequent


def is_closed(table):
    """Tell whether the table is closed."""
    # Kinds nest too deep for keys, and unlike sequents have unlike texts.
    entries = {format_sequent(entry): True for entry in table}
    return all([_is_refused(entry, entries) for entry in table])


def closes(table, sequent):
    """Tell whether the table is closed and refuses the sequent."""
    return is_closed(table) and (balances_differ(sequent) or sequent in table)


def _is_refused(entry, entries):
    """Tell whether the entry may stand in a closed table with these entries."""
    if balances_differ(entry):
        return False
    for _, _, _, parts in last_steps(entry):
        # An axiom has no parts, so an entry p => p is never refused.
        if not any([_is_hopeless(part, entries) for part in parts]):
            return False
    return True


def _is_hopeless(part, entries):
    return format_sequent(part) in entries or balances_differ(part)

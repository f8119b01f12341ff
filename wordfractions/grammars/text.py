"""The texts of grammars, written and read."""

from wordfractions.errors import GrammarError
from wordfractions.grammars.grammar import Grammar, is_name, is_rule
from wordfractions.words.word import row_counts

START_PART = "start"
EQUALS_PART = "="


def format_grammar(grammar):
    """Return the text of the grammar."""
    rows = [f"{START_PART} {grammar.start}"]
    for head, body in grammar.rules:
        rows.append(" ".join([head, EQUALS_PART, *body]))
    return "\n".join(rows)


def parse_grammar(text):
    """Return the grammar that the text means."""
    rows = text.split("\n")
    start = None
    # The rules as keys, so that a repeated one is found at once.
    rules = {}
    for number, row in enumerate(rows, start=1):
        if not row_counts(row):
            continue
        parts = [part for part in row.split(" ") if part != ""]
        if start is None:
            start = _read_start(parts)
            good = start is not None
        else:
            good = _take_rule(parts, rules)
        if not good:
            raise GrammarError(number)
    if start is None:
        raise GrammarError(len(rows) + 1)
    return Grammar(start, tuple(rules))


def _read_start(parts):
    """Return the start, or None if this is not a good first row."""
    if len(parts) != 2 or parts[0] != START_PART or not is_name(parts[1]):
        return None
    return parts[1]


def _take_rule(parts, rules):
    """Add the rule of a row; return False if the row is bad."""
    if len(parts) < 3 or parts[1] != EQUALS_PART:
        return False
    rule = (parts[0], tuple(parts[2:]))
    if not is_rule(rule[0], rule[1]) or rule in rules:
        return False
    rules[rule] = True
    return True

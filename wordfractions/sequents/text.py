"""The texts of sequents, written and read."""

from wordfractions.errors import KindError, SequentError
from wordfractions.kinds.text import format_kind, parse_kind
from wordfractions.sequents.sequent import make_sequent

ARROW = "=>"


def format_sequent(sequent):
    """Return the text of the sequent."""
    premises, goal = sequent
    ahead = ", ".join([format_kind(kind) for kind in premises])
    return f"{ahead} {ARROW} {format_kind(goal)}"


def _read_piece(text):
    try:
        return parse_kind(text)
    except KindError as e:
        raise SequentError("a piece is not the text of a kind") from e


def parse_sequent(text):
    """Return the sequent that the text means."""
    if text.count(ARROW) != 1:
        raise SequentError("not exactly one arrow")
    ahead, _, behind = text.partition(ARROW)
    premises = [_read_piece(piece) for piece in ahead.split(",")]
    return make_sequent(premises, _read_piece(behind))

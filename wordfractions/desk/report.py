"""The report of a desk."""

from wordfractions.desk.desk import SEPARATOR
from wordfractions.kinds.text import format_kind
from wordfractions.words.text import format_kinds


def report(desk):
    """Return the text that tells the wish, the words, the watched phrases and the work."""
    entries = desk.dictionary.entries
    width = max([len(word) for word, _ in entries], default=0)
    rows = [f"wish {format_kind(desk.wish)}"]
    for word, kinds in entries:
        rows.append(f"{word.ljust(width)}  {format_kinds(kinds)}")
    rows.append(SEPARATOR)
    for words, verdict in desk.verdicts():
        answer = "yes" if verdict else "no "
        phrase = " ".join(words)
        rows.append(f"{answer}  {phrase}")
    rows.append(f"work {desk.work}")
    return "\n".join(rows)

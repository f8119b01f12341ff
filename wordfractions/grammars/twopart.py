"""Two-part forms of grammars, and the phrases that a grammar reads."""

from wordfractions.grammars.counting import count_spans
from wordfractions.grammars.grammar import Grammar, is_quoted
from wordfractions.words.phrase import check_phrase

NEW_NAME = "k"


def two_part_form(grammar):
    """Return the two-part grammar that reads the same phrases."""
    return Grammar(grammar.start, _form_rules(grammar))


def grammar_reads(grammar, words):
    """Tell whether the grammar reads the phrase."""
    check_phrase(words)
    # The rules of the form alone: as a grammar they might be too many.
    return (grammar.start, 0, len(words)) in count_spans(_form_rules(grammar), words)


def _form_rules(grammar):
    return _without_single_names(_split_rules(grammar))


def _is_single_name(body):
    return len(body) == 1 and not is_quoted(body[0])


def _split_rules(grammar):
    """Return the rules, with bodies of one item or of two names."""
    taken = {name: True for name in grammar.names}
    # The new name of each quoted word.
    word_names = {}
    rules = []
    for head, body in grammar.rules:
        if len(body) == 1:
            rules.append((head, body))
        else:
            names, word_rules = _name_words(body, word_names, taken)
            chain = _chain(head, names, taken)
            rules.extend(chain[:1] + word_rules + chain[1:])
    return rules


def _make_name(taken):
    """Return a new name, which is now taken, too."""
    number = 1
    while f"{NEW_NAME}{number}" in taken:
        number += 1
    name = f"{NEW_NAME}{number}"
    taken[name] = True
    return name


def _name_words(body, word_names, taken):
    """Return the body with names for its words, and the rules for the names that are made for it."""
    names = []
    rules = []
    for item in body:
        if is_quoted(item) and item not in word_names:
            word_names[item] = _make_name(taken)
            rules.append((word_names[item], (item,)))
        names.append(word_names.get(item, item))
    return tuple(names), rules


def _chain(head, names, taken):
    """Return rules with two names in each body that stand for a rule with more of them."""
    rules = []
    while len(names) > 2:
        rest = _make_name(taken)
        rules.append((head, (names[0], rest)))
        head, names = rest, names[1:]
    return [*rules, (head, names)]


def _without_single_names(rules):
    """Return the tuple of the rules with the bodies to which single names lead in their places."""
    taken = {}
    for head, body in rules:
        if _is_single_name(body):
            reached = _reach(body[0], rules)
            for other, other_body in rules:
                if other in reached and not _is_single_name(other_body):
                    taken[(head, other_body)] = True
        else:
            taken[(head, body)] = True
    return tuple(taken)


def _reach(name, rules):
    """Return a dict of the name and the names that are reached from it by bodies of one name."""
    reached = {name: True}
    waiting = [name]
    while waiting:
        head = waiting.pop()
        for other, body in rules:
            if other == head and _is_single_name(body) and body[0] not in reached:
                reached[body[0]] = True
                waiting.append(body[0])
    return reached

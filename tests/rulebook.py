"""Grammars judged in a plain way, and grammars made by chance."""

import itertools

from wordfractions.errors import FitError
from wordfractions.grammars.grammar import Grammar


def derived(grammar, words):
    """All (name, start, stop) that are derived: rule after rule, until nothing new is found."""
    found = set()
    spans = [(i, j) for i in range(len(words)) for j in range(i + 1, len(words) + 1)]

    def has(body, i, j):
        head, rest = body[0], body[1:]
        ends = [j] if not rest else range(i + 1, j)
        for k in ends:
            good = words[i:k] == (head[1:-1],) if head[0] == '"' else (head, i, k) in found
            if good and (not rest or has(rest, k, j)):
                return True
        return False

    while True:
        new = {(head, i, j) for head, body in grammar.rules for i, j in spans if has(body, i, j)}
        if new <= found:
            return found
        found |= new


def reads(grammar, words):
    return (grammar.start, 0, len(words)) in derived(grammar, words)


def phrases(words, most):
    for many in range(1, most + 1):
        yield from itertools.product(words, repeat=many)


def grammar_by_chance(rng, names, words, many, lengths=(1, 1, 2, 2, 3, 4), start=None):
    """A grammar with so many rules, or with fewer where two would be the same."""
    items = list(names) + ['"' + word + '"' for word in words]
    rules = {}
    for _ in range(many):
        rules[(rng.choice(names), tuple(rng.choice(items) for _ in range(rng.choice(lengths))))] = True
    return Grammar(start or names[0], tuple(rules))


def two_part_by_chance(rng, names, words, many):
    rules = {}
    for _ in range(many):
        body = (f'"{rng.choice(words)}"',) if rng.random() < 0.5 else (rng.choice(names), rng.choice(names))
        rules[(rng.choice(names), body)] = True
    try:
        return Grammar(names[0], tuple(rules))
    except FitError as why:
        raise AssertionError(rules) from why


def form_by_hand(grammar):
    """The rules of the two-part form, made as [75] tells."""
    names = set(grammar.names)

    def new_name():
        name = next(f"k{k}" for k in itertools.count(1) if f"k{k}" not in names)
        names.add(name)
        return name

    listed = []
    of_word = {}
    for head, body in grammar.rules:
        if len(body) == 1:
            listed.append((head, body))
            continue
        body = list(body)
        made = []
        for place, item in enumerate(body):
            if item[0] == '"':
                if item not in of_word:
                    of_word[item] = new_name()
                    made.append((of_word[item], (item,)))
                body[place] = of_word[item]
        later = []

        def split(body):
            if len(body) <= 2:
                return tuple(body)
            name = new_name()
            at = len(later)
            later.append(None)
            later[at] = (name, split(body[1:]))
            return (body[0], name)

        listed.append((head, split(body)))
        listed.extend(made + later)
    single = {(head, body[0]) for head, body in listed if len(body) == 1 and body[0][0] != '"'}
    reached = set(single)
    while True:
        more = {(x, z) for x, y in reached for w, z in single if w == y} - reached
        if not more:
            break
        reached |= more
    form = []
    real = [rule for rule in listed if len(rule[1]) > 1 or rule[1][0][0] == '"']
    for head, body in listed:
        if (head, body) in real:
            form.append((head, body))
        else:
            form.extend([(head, b) for z, b in real if z == body[0] or (body[0], z) in reached])
    return tuple(dict.fromkeys(form))


def trees_of(grammar, name, words):
    """All trees of the name over the words, in any order."""
    found = [(name, words[0])] if len(words) == 1 and (name, (f'"{words[0]}"',)) in grammar.rules else []
    for head, body in grammar.rules:
        if head == name and len(body) == 2:
            for k in range(1, len(words)):
                lefts = trees_of(grammar, body[0], words[:k])
                found.extend((name, left, right) for left in lefts for right in trees_of(grammar, body[1], words[k:]))
    return found


def words_of(tree):
    return (tree[1],) if len(tree) == 2 else words_of(tree[1]) + words_of(tree[2])


def tree_key(grammar, tree):
    """What puts trees into the order of [76]."""
    if len(tree) == 2:
        return (grammar.rules.index((tree[0], (f'"{tree[1]}"',))),)
    _, left, right = tree
    place = grammar.rules.index((tree[0], (left[0], right[0])))
    return (place, len(words_of(left)), tree_key(grammar, left), tree_key(grammar, right))


def corners_of_symbols(grammar):
    """All corner rules of all symbols, as [77] tells, kept or not: {symbol: rules in order}."""
    def beginnings(z):
        own = [(body[0][1:-1], (), (head, body)) for head, body in grammar.rules if head == z and body[0][0] == '"']
        far = [(body[0][1:-1], ((head, z),), (head, body)) for head, body in grammar.rules if body[0][0] == '"']
        return own + far

    table = {}
    for x in grammar.names:
        table[x] = [(x, w, rests, (r,)) for w, rests, r in beginnings(x)]
    for y in grammar.names:
        for x in grammar.names:
            rows = table.setdefault((y, x), [])
            for r in grammar.rules:
                if len(r[1]) == 2 and r[1][0] == y:
                    for w, rests, s in beginnings(r[1][1]):
                        if r[0] == x:
                            rows.append(((y, x), w, rests, (r, s, True)))
                        rows.append(((y, x), w, (*rests, (r[0], x)), (r, s, False)))
    return table


def kept_by_rounds(grammar):
    """The kept corner rules, as [78] tells."""
    table = corners_of_symbols(grammar)
    productive = set()
    while True:
        new = {symbol for symbol, rows in table.items() if any(set(row[2]) <= productive for row in rows)}
        if new == productive:
            break
        productive = new
    reached = {grammar.start}
    while True:
        new = reached | {rest for symbol in reached for row in table[symbol] if set(row[2]) <= productive for rest in row[2]}
        if new == reached:
            break
        reached = new
    return tuple(row for symbol, rows in table.items() if symbol in reached for row in rows if set(row[2]) <= productive)


def rows_that_fit(grammar, corners, most):
    """All tuples of these corner rules that fit, with at most so many words."""
    done = []
    waiting = [((), (grammar.start,))]
    while waiting:
        row, symbols = waiting.pop()
        if not symbols:
            done.append(row)
        elif len(row) + len(symbols) <= most:
            waiting.extend((row + (corner,), corner[2] + symbols[1:]) for corner in corners if corner[0] == symbols[0])
    return done

"""The corner rules of a two-part grammar, and which of them are kept."""

# Where the entries of a corner rule stand in it.
SYMBOL = 0
WORD = 1
RESTS = 2
LABEL = 3


def list_kept(grammar):
    """Return the list of the kept corner rules, in order, however many there are."""
    table = _corners_by_symbol(grammar)
    productive = _find_productive(table)
    fitting = {
        symbol: [corner for corner in corners if _are_all_in(corner[RESTS], productive)]
        for symbol, corners in table.items()
    }
    reached = _find_reached(fitting, grammar.start)
    return [corner for symbol, corners in fitting.items() if symbol in reached for corner in corners]


def _corners_by_symbol(grammar):
    """Return a dict of the corner rules of the start and of all rests, in the order of symbols.

    No other name is reached, or stands in a rest on its own.
    """
    beginnings = {name: _list_beginnings(grammar, name) for name in grammar.names}
    table = {grammar.start: [
        (grammar.start, word, rests, (rule,)) for word, rests, rule in beginnings[grammar.start]
    ]}
    for found in grammar.names:
        for wanted in grammar.names:
            table[(found, wanted)] = _corners_of_rest(grammar, (found, wanted), beginnings)
    return table


def _list_beginnings(grammar, name):
    """Return the triples (word, rests, rule) with which a tree of the name can begin."""
    word_rules = [(head, body) for head, body in grammar.rules if len(body) == 1]
    alone = [(_word_of(rule), (), rule) for rule in word_rules if rule[0] == name]
    return alone + [(_word_of(rule), ((rule[0], name),), rule) for rule in word_rules]


def _word_of(rule):
    """Return the word of a rule whose body is a quoted word."""
    return rule[1][0][1:-1]


def _corners_of_rest(grammar, rest, beginnings):
    found, wanted = rest
    corners = []
    for head, body in grammar.rules:
        if len(body) == 1 or body[0] != found:
            continue
        for word, rests, rule in beginnings[body[1]]:
            if head == wanted:
                corners.append((rest, word, rests, ((head, body), rule, True)))
            corners.append((rest, word, rests + ((head, wanted),), ((head, body), rule, False)))
    return corners


def _are_all_in(rests, symbols):
    return all([rest in symbols for rest in rests])


def _find_productive(table):
    """Return a dict of the symbols from which words alone can be had."""
    # Corner rules with the same rests count once.
    ways = {symbol: {corner[RESTS]: True for corner in corners} for symbol, corners in table.items()}
    productive = {}
    grown = True
    while grown:
        grown = False
        for symbol, rows in ways.items():
            if symbol not in productive and any([_are_all_in(rests, productive) for rests in rows]):
                productive[symbol] = True
                grown = True
    return productive


def _find_reached(fitting, start):
    """Return a dict of the symbols to which corner rules lead from the start."""
    reached = {start: True}
    waiting = [start]
    while waiting:
        symbol = waiting.pop()
        for corner in fitting[symbol]:
            for rest in corner[RESTS]:
                if rest not in reached:
                    reached[rest] = True
                    waiting.append(rest)
    return reached

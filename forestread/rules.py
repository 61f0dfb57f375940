"""Rules and grammars: what is one, its start, its heads, and the numbers of their rules."""

from forestread.errors import NoGrammar
from forestread.parts import is_name, is_part, is_whole

MOST_RULES = 60
MOST_PARTS = 6


def is_worth(thing):
    return is_whole(thing) and 0 <= thing <= 10 ** 60


def are_parts(thing):
    if not isinstance(thing, tuple):
        return False
    return len(thing) <= MOST_PARTS and all([is_part(part) for part in thing])


def is_rule(thing):
    if not isinstance(thing, tuple) or len(thing) != 3:
        return False
    return is_name(thing[0]) and are_parts(thing[1]) and is_worth(thing[2])


def is_grammar(thing):
    if not isinstance(thing, list):
        return False
    return len(thing) <= MOST_RULES and all([is_rule(rule) for rule in thing])


def checked(thing):
    # The thing itself is not put into the error's words: showing it could fail.
    if not is_grammar(thing):
        raise NoGrammar("no list of at most 60 rules")
    # Rules are tuples all through, so a new list alone makes it the asker's own.
    return list(thing)


def start_of(grammar):
    rules = checked(grammar)
    return rules[0][0] if rules else None


def heads_of(grammar):
    # A dict keeps the order in which its keys came first.
    heads = {}
    for rule in checked(grammar):
        heads[rule[0]] = True
    return list(heads)


def rules_of(grammar, head):
    return [number for number, rule in enumerate(checked(grammar)) if rule[0] == head]

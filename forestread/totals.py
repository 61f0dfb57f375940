"""What a wood comes to by a tally, and how many rows it has."""

from forestread.errors import Endless
from forestread.rings import walked_to_ring
from forestread.tallies import Many


def value_of_way(tally, known, way):
    if len(way) == 1:
        return known[way[0]]
    return tally.both(known[way[0]], known[way[1]])


def value_of_ways(tally, known, ways):
    value = tally.nothing()
    for way in ways:
        value = tally.either(value, value_of_way(tally, known, way))
    return value


def value_of_node(wood, rules, tally, known, node):
    ways = wood.ways(node)
    if ways != [()]:
        return value_of_ways(tally, known, ways)
    if len(node) == 4:
        return tally.of_rule(node[0], rules[node[0]][2])
    return tally.blank()


# A dict from each node of a wood without a ring to its value.
def values_of_nodes(wood, tally):
    walk = walked_to_ring(wood)
    if walk.met is not None:
        raise Endless("the wood has a ring")
    rules = wood.told_grammar()
    known = {}
    for node in walk.left:
        known[node] = value_of_node(wood, rules, tally, known, node)
    return known


def total(wood, tally):
    known = values_of_nodes(wood, tally)
    return tally.nothing() if wood.top() is None else known[wood.top()]


def how_many(wood):
    try:
        return total(wood, Many())
    except Endless:
        return None

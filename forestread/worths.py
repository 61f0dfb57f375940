"""Rows of a wood in the order of worth, and the prices of its nodes."""

from forestread.errors import NoNumber, NoRow, TooGreat
from forestread.needs import MOST_NUMBERS
from forestread.parts import is_whole
from forestread.rests import Rests
from forestread.rings import walked
from forestread.totals import value_of_node, value_of_ways

MOST_ROWS = 60


# Pairs of a worth and a number of rules, told as tallies are.
class Priced:
    def nothing(self):
        return None

    def blank(self):
        return (0, 0)

    def of_rule(self, number, worth):
        return (worth, 1)

    def either(self, one, other):
        if one is None:
            return other
        if other is None:
            return one
        return min(one, other)

    def both(self, one, other):
        if one is None or other is None:
            return None
        return (one[0] + other[0], one[1] + other[1])


# The nodes of a ring all stand over the same signs. So what leads to rings is done by spans, short ones first.
def ring_groups(walk):
    groups = {}
    for node in walk.left:
        if node in walk.leading:
            groups.setdefault((node[-1] - node[-2], node[-2]), []).append(node)
    return [groups[span] for span in sorted(groups)]


# What is not known yet, once all over fewer signs is done, stands over the same signs.
def hangs_on_group(known, way):
    return known[way[0]] is None or known[way[-1]] is None


# Ways that don't hang on the group come to the same in each round, so they are asked once.
def parted_ways(wood, known, group):
    found = []
    for node in group:
        ways = wood.ways(node)
        fixed = value_of_ways(Priced(), known, [way for way in ways if not hangs_on_group(known, way)])
        found.append((node, fixed, [way for way in ways if hangs_on_group(known, way)]))
    return found


# Each time round a ring takes one rule more, so prices stop falling.
def price_group(wood, known, group):
    priced = Priced()
    parted = parted_ways(wood, known, group)
    falling = True
    while falling:
        falling = False
        for node, fixed, ways in parted:
            price = priced.either(fixed, value_of_ways(priced, known, ways))
            if price != known[node]:
                known[node] = price
                falling = True


def prices(wood):
    walk = walked(wood)
    rules = wood.told_grammar()
    known = {}
    for node in walk.left:
        if node in walk.leading:
            known[node] = None
        else:
            known[node] = value_of_node(wood, rules, Priced(), known, node)
    for group in ring_groups(walk):
        price_group(wood, known, group)
    return known


# Beginnings of rows, each with the worth and the size of the best row that goes on from it. No rows are alike,
# and each beginning has a row of its own, so of those that come behind many others none is ever asked for.
class Search:
    def __init__(self, wood, many):
        self.rests = Rests(wood, Priced(), prices(wood))
        self.rules = wood.told_grammar()
        self.many = many
        self.rows = []
        self.waiting = []
        self.go_on([], 0, 0, self.rests.first_link(wood.top()))

    def go_on(self, row, spent, place, link):
        found = list(self.waiting)
        for number, price in self.rests.choices(place, link):
            worth = spent + price[0]
            size = len(row) + price[1]
            found.append((worth, size, row + [number], spent + self.rules[number][2], place, link))
        # The best rows stand in the order of their beginnings, as no beginning here goes on from another one.
        found = sorted(found, key=lambda state: state[:3])
        self.waiting = found[:self.many - len(self.rows)]

    def take_first(self):
        first = self.waiting[0]
        self.waiting = self.waiting[1:]
        row = first[2]
        if first[1] > MOST_NUMBERS:
            raise TooGreat("a row of more than 1000 numbers")
        behind = self.rests.behind_choice(first[4], first[5], row[-1])
        if behind[1] is None:
            self.rows.append(row)
        else:
            self.go_on(row, first[3], behind[0], behind[1])


def first_rows(wood, many):
    if wood.top() is None or many == 0:
        return []
    search = Search(wood, many)
    while search.waiting:
        search.take_first()
    return search.rows


def told(wood, many=60):
    if not is_whole(many) or not 0 <= many <= MOST_ROWS:
        raise NoNumber("no whole number from 0 to 60")
    return first_rows(wood, many)


def best(wood):
    rows = first_rows(wood, 1)
    if not rows:
        raise NoRow("no row has this text")
    return rows[0]

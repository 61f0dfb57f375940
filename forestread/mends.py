"""The least change that makes a text one of the grammar's."""

from forestread.errors import Barren, TooGreat
from forestread.needs import MOST_NUMBERS
from forestread.rules import checked
from forestread.tolls import tolls


# Goes down again by the tolls, each time by a way that comes to just the toll told.
class Mending:
    def __init__(self, rules, text, costs, known):
        self.rules = rules
        self.text = text
        self.costs = costs
        self.known = known
        self.deeds = []
        self.row = []

    def cut_signs(self, begin, end):
        self.deeds.extend([("cut", sign) for sign in self.text[begin:end]])

    def take_sign(self, node):
        sign = node[0][1]
        begin = node[1]
        end = node[2]
        found = self.text.find(sign, begin, end)
        # Where the sign isn't there, the first one is swapped for it, as any one might be.
        place = begin if found < 0 else found
        change = self.costs[2] if found < 0 else 0
        if begin == end or (end - begin - 1) * self.costs[1] + change != self.known[node][0]:
            self.cut_signs(begin, end)
            self.deeds.append(("put", sign))
            return
        self.cut_signs(begin, place)
        self.deeds.append(("swap", self.text[place], sign) if found < 0 else ("keep", sign))
        self.cut_signs(place + 1, end)

    def rule_for(self, node):
        for number, rule in enumerate(self.rules):
            whole = (number, len(rule[1]), node[1], node[2])
            if rule[0] == node[0] and self.known.get(whole) == self.known[node]:
                return whole
        return None

    def way_for(self, node):
        shorter = node[1] - 1
        part = self.rules[node[0]][1][shorter]
        for middle in range(node[2], node[3] + 1):
            one = (node[0], shorter, node[2], middle)
            other = (part, middle, node[3])
            first = self.known[one]
            second = self.known[other]
            if (first[0] + second[0], first[1] + second[1]) == self.known[node]:
                return (one, other)
        return None

    def go_down(self, top):
        waiting = [top]
        while waiting:
            node = waiting.pop()
            if len(node) == 3 and node[0].startswith("'"):
                self.take_sign(node)
            elif len(node) == 3:
                waiting.append(self.rule_for(node))
            elif node[1] == 0:
                self.row.append(node[0])
                self.cut_signs(node[2], node[3])
            else:
                waiting.extend(list(reversed(self.way_for(node))))


def mended(grammar, text, costs):
    known = tolls(grammar, text, costs)
    rules = checked(grammar)
    top = (rules[0][0], 0, len(text)) if rules else None
    if top not in known:
        raise Barren("a grammar without rows")
    if known[top][1] > MOST_NUMBERS:
        raise TooGreat("a row of more than 1000 numbers")
    mending = Mending(rules, text, costs, known)
    mending.go_down(top)
    return (known[top][0], mending.deeds, mending.row)

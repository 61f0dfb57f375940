"""The wood of a text: all its trees, which share the nodes that they have alike."""

from forestread.chart import standing
from forestread.parts import checked_text
from forestread.rules import checked


def numbers_by_head(rules):
    numbers = {}
    for number, rule in enumerate(rules):
        numbers.setdefault(rule[0], []).append(number)
    return numbers


# By rule, how many of its parts, and the place where they begin: where they end, rising.
def ends_of_beginnings(nodes):
    ends = {}
    for node in nodes:
        if len(node) == 4:
            ends.setdefault((node[0], node[1], node[2]), []).append(node[3])
    for key in list(ends):
        ends[key] = sorted(ends[key])
    return ends


class Wood:
    def __init__(self, grammar, text):
        heights = standing(grammar, text)
        self.rules = checked(grammar)
        self.text = checked_text(text)
        self.numbers = numbers_by_head(self.rules)
        self.root = self.find_root(heights)
        # First all nodes that stand, to walk down by them; then those that the walk has come to.
        self.found = heights
        self.ends = ends_of_beginnings(heights)
        self.found = self.walk_down()
        self.ends = ends_of_beginnings(self.found)

    def find_root(self, heights):
        if not self.rules:
            return None
        node = (self.rules[0][0], 0, len(self.text))
        return node if node in heights else None

    def walk_down(self):
        found = {}
        waiting = []
        if self.root is not None:
            found[self.root] = True
            waiting.append(self.root)
        while waiting:
            upper = waiting.pop()
            for way in self.ways(upper):
                for node in way:
                    if node not in found:
                        found[node] = True
                        waiting.append(node)
        return found

    def told_grammar(self):
        return list(self.rules)

    def told_text(self):
        return self.text

    def top(self):
        return self.root

    def nodes(self):
        return list(self.found)

    def ways(self, node):
        if node not in self.found:
            return []
        if len(node) == 4:
            return self.ways_of_beginning(node)
        if node[0].startswith("'"):
            return [()]
        return self.ways_of_name(node)

    def ways_of_name(self, node):
        found = []
        for number in self.numbers[node[0]]:
            whole = (number, len(self.rules[number][1]), node[1], node[2])
            if whole in self.found:
                found.append((whole,))
        return found

    def ways_of_beginning(self, node):
        number = node[0]
        shorter = node[1] - 1
        begin = node[2]
        end = node[3]
        if shorter < 0:
            return [()]
        part = self.rules[number][1][shorter]
        found = []
        for middle in self.ends[(number, shorter, begin)]:
            last = (part, middle, end)
            if last in self.found:
                found.append(((number, shorter, begin, middle), last))
        return found

"""The nodes that stand over a text, each with its height."""

from forestread.parts import checked_text
from forestread.rules import checked


# Nodes are found in the order of their heights, so the first way that leads to one is a lowest one.
class Growth:
    def __init__(self, rules):
        self.rules = rules
        self.heights = {}
        self.height = 0
        # Nodes that stand but have not been joined with others: of this height, and of the next one.
        self.fresh = []
        self.higher = []
        # By part and place: the beginnings of rules that go on there with this part, and where it ends.
        self.begun = {}
        self.ends = {}

    def stand(self, node):
        self.heights[node] = self.height
        self.fresh.append(node)

    def stand_higher(self, node):
        self.heights[node] = self.height + 1
        self.higher.append(node)

    def meet_part(self, node):
        key = (node[0], node[1])
        end = node[2]
        self.ends.setdefault(key, []).append(end)
        for number, done, begin in self.begun.get(key, []):
            longer = (number, done + 1, begin, end)
            if longer not in self.heights:
                self.stand(longer)

    def meet_beginning(self, node, part):
        number = node[0]
        done = node[1]
        begin = node[2]
        key = (part, node[3])
        self.begun.setdefault(key, []).append((number, done, begin))
        for end in self.ends.get(key, []):
            longer = (number, done + 1, begin, end)
            if longer not in self.heights:
                self.stand(longer)

    def meet(self, node):
        if len(node) == 3:
            self.meet_part(node)
            return
        rule = self.rules[node[0]]
        if node[1] < len(rule[1]):
            self.meet_beginning(node, rule[1][node[1]])
            return
        name = (rule[0], node[2], node[3])
        if name not in self.heights:
            self.stand_higher(name)

    def grow(self):
        while self.fresh:
            while self.fresh:
                self.meet(self.fresh.pop())
            self.fresh = self.higher
            self.higher = []
            self.height += 1


def standing(grammar, text):
    rules = checked(grammar)
    signs = checked_text(text)
    growth = Growth(rules)
    for place, sign in enumerate(signs):
        growth.stand(("'" + sign, place, place + 1))
    for number in range(len(rules)):
        for place in range(len(signs) + 1):
            growth.stand((number, 0, place, place))
    growth.grow()
    return growth.heights

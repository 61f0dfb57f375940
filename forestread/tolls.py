"""Tolls: what it costs at least to make signs of a text into a text of a node."""

from forestread.changes import checked_costs
from forestread.needs import least_sizes
from forestread.parts import checked_text
from forestread.rules import checked


# While they are reckoned, tolls are single numbers: the cost times 10 ** 60, and the number of rules. They add up
# and compare as the pairs do, for no toll has 10 ** 60 rules: in a least tree no head stands beneath itself over the
# same signs, so less than 10 ** 4 rules stand over signs, and beneath each are less than 6 ** 61 over none.
class Toller:
    def __init__(self, rules, text, costs):
        self.rules = rules
        self.text = text
        self.put = costs[0] * 10 ** 60
        self.cut = costs[1] * 10 ** 60
        self.swap = costs[2] * 10 ** 60
        # What heads cost that are made out of nothing; those without a tree are not there.
        self.bare = least_sizes(rules, self.put)
        # By part, end and begin: the toll of a part.
        self.over = {}
        # By rule, number of its parts, begin, and number of signs: the toll of a beginning of a rule.
        self.first = []
        self.lay_out()

    def lay_out(self):
        places = len(self.text) + 1
        for head in self.bare:
            self.over[head] = [[0] * (end + 1) for end in range(places)]
        for rule in self.rules:
            for part in rule[1]:
                if part.startswith("'") and part not in self.over:
                    self.over[part] = self.sign_table(part)
        for rule in self.rules:
            table = []
            for done in range(self.reach_of(rule) + 1):
                table.append([[] for begin in range(places)])
            self.first.append(table)

    # How many parts of a rule stand ahead of the first one that has no tree.
    def reach_of(self, rule):
        reach = 0
        for part in rule[1]:
            if not part.startswith("'") and part not in self.bare:
                break
            reach += 1
        return reach

    def sign_toll(self, sign, begin, end):
        many = end - begin
        toll = many * self.cut + self.put
        if many == 0:
            return toll
        change = 0 if sign[1] in self.text[begin:end] else self.swap
        return min(toll, (many - 1) * self.cut + change)

    def sign_table(self, sign):
        table = []
        for end in range(len(self.text) + 1):
            table.append([self.sign_toll(sign, begin, end) for begin in range(end + 1)])
        return table

    # For each number of parts of a rule the least toll of those that are parted from their last one within the
    # signs, not at an end of them: these hang on fewer signs alone. None where there is no such place.
    def inner_tolls(self, number, begin, end):
        found = [None]
        table = self.first[number]
        for done in range(1, len(table)):
            ahead = table[done - 1][begin][1:end - begin]
            behind = self.over[self.rules[number][1][done - 1]][end][begin + 1:end]
            found.append(min([one + other for one, other in zip(ahead, behind)], default=None))
        return found

    # The tolls of all beginnings of a rule over these signs, by the tolls of parts over them known so far.
    def line_of(self, number, begin, end, inner):
        table = self.first[number]
        line = [(end - begin) * self.cut + 1]
        for done in range(1, len(table)):
            part = self.over[self.rules[number][1][done - 1]][end]
            toll = line[-1] + part[end]
            if begin < end:
                toll = min(toll, table[done - 1][begin][0] + part[begin])
            if inner[done] is not None:
                toll = min(toll, inner[done])
            line.append(toll)
        return line

    # Tells whether a head has become cheaper by this.
    def lower_head(self, number, begin, end, line):
        rule = self.rules[number]
        if len(line) <= len(rule[1]) or line[-1] >= self.over[rule[0]][end][begin]:
            return False
        self.over[rule[0]][end][begin] = line[-1]
        return True

    # Heads may hang on one another over the same signs: this is done again until nothing changes. It goes to and
    # fro, as rules mostly stand in an order by which the ones hang on the others, or against it.
    def take_span(self, begin, end):
        for head in self.bare:
            self.over[head][end][begin] = self.bare[head] + (end - begin) * self.cut
        inner = [self.inner_tolls(number, begin, end) for number in range(len(self.rules))]
        order = list(range(len(self.rules)))
        lines = {}
        falling = True
        while falling:
            falling = False
            order = list(reversed(order))
            for number in order:
                lines[number] = self.line_of(number, begin, end, inner[number])
                if self.lower_head(number, begin, end, lines[number]):
                    falling = True
        for number in order:
            for done, toll in enumerate(lines[number]):
                self.first[number][done][begin].append(toll)

    def take_all(self):
        places = len(self.text) + 1
        for many in range(places):
            for begin in range(places - many):
                self.take_span(begin, begin + many)

    def told_tolls(self):
        found = {}
        for part in self.over:
            for end, line in enumerate(self.over[part]):
                for begin, toll in enumerate(line):
                    found[(part, begin, end)] = divmod(toll, 10 ** 60)
        for number, table in enumerate(self.first):
            for done, lines in enumerate(table):
                for begin, line in enumerate(lines):
                    for many, toll in enumerate(line):
                        found[(number, done, begin, begin + many)] = divmod(toll, 10 ** 60)
        return found


def tolls(grammar, text, costs):
    toller = Toller(checked(grammar), checked_text(text), checked_costs(costs))
    toller.take_all()
    return toller.told_tolls()

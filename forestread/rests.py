"""What can still follow a beginning of a row: the parts that wait, and what they come to."""

from forestread.wood import numbers_by_head


# What waits is a chain of links (part, rest, further): a part, what all behind it comes to, by the place where
# that begins, and the link behind (None where there is none). So beginnings of rows share what they have alike.
class Rests:
    def __init__(self, wood, tally, known):
        self.rules = wood.told_grammar()
        self.tally = tally
        self.known = known
        self.numbers = numbers_by_head(self.rules)
        # By part and the place where it ends: the places where it begins, each with the node's value.
        self.begins = {}
        for node in known:
            if len(node) == 3:
                self.begins.setdefault((node[0], node[2]), []).append((node[1], known[node]))

    def first_link(self, top):
        return (top[0], {top[2]: self.tally.blank()}, None)

    # What a part, and all behind it, comes to, by the place where the part begins, from this place on.
    def rest_with(self, part, rest, place):
        longer = {}
        for end in rest:
            for begin, value in self.begins.get((part, end), []):
                if begin >= place:
                    so_far = longer.get(begin, self.tally.nothing())
                    longer[begin] = self.tally.either(so_far, self.tally.both(value, rest[end]))
        return longer

    # Each rule with which the name that waits first can go on here, and what this rule and all behind it come to.
    def choices(self, place, link):
        found = []
        rest = link[1]
        for number in self.numbers[link[0]]:
            done = len(self.rules[number][1])
            value = None
            for end in rest:
                node = (number, done, place, end)
                if node in self.known:
                    so_far = self.tally.nothing() if value is None else value
                    value = self.tally.either(so_far, self.tally.both(self.known[node], rest[end]))
            if value is not None:
                found.append((number, value))
        return found

    # The place and the first link behind the choice of a rule and all signs that follow straight.
    def behind_choice(self, place, link, number):
        parts = self.rules[number][1]
        rest = link[1]
        first = link[2]
        for index in range(len(parts) - 1, -1, -1):
            first = (parts[index], rest, first)
            # Ahead of the first part nothing of this rule waits, so nobody asks for that.
            if index > 0:
                rest = self.rest_with(parts[index], rest, place)
        here = place
        while first is not None and first[0].startswith("'"):
            here += 1
            first = first[2]
        return (here, first)

"""Tallies: what a wood without a ring can be asked for, each reckoned from its leaves up."""


def least_of_two(one, other):
    if one is None:
        return other
    if other is None:
        return one
    return min(one, other)


def greatest_of_two(one, other):
    if one is None:
        return other
    if other is None:
        return one
    return max(one, other)


def sum_of_two(one, other):
    if one is None or other is None:
        return None
    return one + other


# Whether there is a tree.
class Tally:
    def nothing(self):
        return False

    def blank(self):
        return True

    def of_rule(self, number, worth):
        return True

    def either(self, one, other):
        return one or other

    def both(self, one, other):
        return one and other


# How many trees there are, or 10 ** 60: without a bound, such numbers could outgrow any memory.
class Many(Tally):
    def nothing(self):
        return 0

    def blank(self):
        return 1

    def of_rule(self, number, worth):
        return 1

    def either(self, one, other):
        return min(one + other, 10 ** 60)

    def both(self, one, other):
        return min(one * other, 10 ** 60)


# The least worth.
class Cheapest(Tally):
    def nothing(self):
        return None

    def blank(self):
        return 0

    def of_rule(self, number, worth):
        return worth

    def either(self, one, other):
        return least_of_two(one, other)

    def both(self, one, other):
        return sum_of_two(one, other)


# The greatest number of rules.
class Longest(Tally):
    def nothing(self):
        return None

    def blank(self):
        return 0

    def of_rule(self, number, worth):
        return 1

    def either(self, one, other):
        return greatest_of_two(one, other)

    def both(self, one, other):
        return sum_of_two(one, other)


# The numbers of the rules used. What is handed in is never given back itself: it is the asker's own.
class Used(Tally):
    def nothing(self):
        return None

    def blank(self):
        return []

    def of_rule(self, number, worth):
        return [number]

    def either(self, one, other):
        if one is None and other is None:
            return None
        if one is None:
            return sorted(set(other))
        if other is None:
            return sorted(set(one))
        return sorted(set(one + other))

    def both(self, one, other):
        if one is None or other is None:
            return None
        return sorted(set(one + other))


def begins_with(row, beginning):
    return row[:len(beginning)] == beginning


# Of sorted rows those from a place on that begin with the row there: whatever is put behind them, it comes ahead
# of what is put behind the rows that follow.
def group_from(rows, place):
    group = [rows[place]]
    for row in rows[place + 1:]:
        if not begins_with(row, group[0]):
            break
        group.append(row)
    return group


def longer_rows(group, behind):
    longer = []
    for row in group:
        longer.extend([row + more for more in behind])
    return sorted(longer)


# The first rows in the order of lists.
class Listed(Tally):
    def __init__(self, many=60):
        self.most = many

    def nothing(self):
        return []

    def blank(self):
        return [[]]

    def of_rule(self, number, worth):
        return [[number]]

    def either(self, one, other):
        return [list(row) for row in sorted(one + other)[:self.most]]

    # Not all pairs are made: where the groups ahead have rows enough, the rest can't come among the first ones.
    def both(self, one, other):
        ahead = sorted(one)
        behind = sorted(other)[:self.most]
        rows = []
        place = 0
        while place < len(ahead) and len(rows) < self.most:
            group = group_from(ahead, place)
            place += len(group)
            rows.extend(longer_rows(group, behind))
        return rows[:self.most]

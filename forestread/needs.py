"""Which rules are needed, how small trees can be, and a shortest row with a rule."""

from forestread.errors import NoRow, TooGreat
from forestread.parts import is_whole
from forestread.rules import checked

MOST_NUMBERS = 1000


def size_of_part(sizes, part, sign_size):
    return sign_size if part.startswith("'") else sizes.get(part)


def size_of_rule(sizes, rule, sign_size):
    size = 1
    for part in rule[1]:
        more = size_of_part(sizes, part, sign_size)
        if more is None:
            return None
        size += more
    return size


# Signs may count for something too: so the cost of making a tree out of nothing is reckoned likewise.
def least_sizes(rules, sign_size):
    sizes = {}
    shrinking = True
    while shrinking:
        shrinking = False
        for rule in rules:
            size = size_of_rule(sizes, rule, sign_size)
            if size is not None and (rule[0] not in sizes or size < sizes[rule[0]]):
                sizes[rule[0]] = size
                shrinking = True
    return sizes


def least(grammar):
    return least_sizes(checked(grammar), 0)


# From each head that stands beneath the start: how many other rules a row has at least that goes down to it,
# and the last step there, a pair of a rule and a place among its parts (None for the start).
def ways_down(rules, sizes):
    outer = {rules[0][0]: 0}
    steps = {rules[0][0]: None}
    shrinking = True
    while shrinking:
        shrinking = False
        for number, rule in enumerate(rules):
            size = size_of_rule(sizes, rule, 0)
            if size is None or rule[0] not in outer:
                continue
            for place, part in enumerate(rule[1]):
                if part.startswith("'"):
                    continue
                more = outer[rule[0]] + size - sizes[part]
                if part not in outer or more < outer[part]:
                    outer[part] = more
                    steps[part] = (number, place)
                    shrinking = True
    return (outer, steps)


# A dict from the number of each needed rule to the least number of rules of a row with it.
def sizes_with(rules, sizes):
    if not rules:
        return {}
    outer = ways_down(rules, sizes)[0]
    found = {}
    for number, rule in enumerate(rules):
        size = size_of_rule(sizes, rule, 0)
        if size is not None and rule[0] in outer:
            found[number] = outer[rule[0]] + size
    return found


def needed(grammar):
    rules = checked(grammar)
    return list(sizes_with(rules, least_sizes(rules, 0)))


# A rule of the least size has smaller trees beneath it, so going down by these ends.
def smallest_rules(rules, sizes):
    smallest = {}
    for number, rule in enumerate(rules):
        size = size_of_rule(sizes, rule, 0)
        if size is not None and size == sizes[rule[0]]:
            smallest[rule[0]] = number
    return smallest


def smallest_row(rules, smallest, parts):
    row = []
    waiting = list(reversed(parts))
    while waiting:
        part = waiting.pop()
        if not part.startswith("'"):
            row.append(smallest[part])
            waiting.extend(list(reversed(rules[smallest[part]][1])))
    return row


def steps_to(rules, steps, head):
    found = []
    step = steps[head]
    while step is not None:
        found.append(step)
        step = steps[rules[step[0]][0]]
    return list(reversed(found))


def row_down(rules, sizes, number):
    smallest = smallest_rules(rules, sizes)
    steps = ways_down(rules, sizes)[1]
    row = []
    behind = []
    for upper, place in steps_to(rules, steps, rules[number][0]):
        parts = rules[upper][1]
        row.append(upper)
        row.extend(smallest_row(rules, smallest, parts[:place]))
        behind.append(parts[place + 1:])
    row.append(number)
    row.extend(smallest_row(rules, smallest, rules[number][1]))
    for parts in reversed(behind):
        row.extend(smallest_row(rules, smallest, parts))
    return row


def row_with(grammar, number):
    rules = checked(grammar)
    sizes = least_sizes(rules, 0)
    found = sizes_with(rules, sizes)
    if not is_whole(number) or number not in found:
        raise NoRow("no number of a needed rule")
    if found[number] > MOST_NUMBERS:
        raise TooGreat("a row of more than 1000 numbers")
    return row_down(rules, sizes, number)

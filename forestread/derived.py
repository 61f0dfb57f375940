"""Rows: their texts, worths and spans, read by the rules of a grammar."""

from forestread.errors import NoRow
from forestread.parts import is_whole
from forestread.rules import checked


# What a row comes to while it is read: the signs taken, and of each number where its signs begin and end.
class Reading:
    def __init__(self, rules, row):
        self.rules = rules
        self.row = row
        self.signs = []
        self.begins = []
        self.stops = []

    def next_number(self, head):
        used = len(self.begins)
        if used == len(self.row):
            raise NoRow("numbers are lacking")
        number = self.row[used]
        if not is_whole(number) or not 0 <= number < len(self.rules):
            raise NoRow("no number of a rule")
        if self.rules[number][0] != head:
            raise NoRow("a rule of another head")
        return number

    def take_rule(self, head, waiting):
        number = self.next_number(head)
        # The use's own place waits behind its parts, to mark where its signs end.
        waiting.append(len(self.begins))
        waiting.extend(list(reversed(self.rules[number][1])))
        self.begins.append(len(self.signs))
        self.stops.append(len(self.signs))

    def take_all(self):
        waiting = [self.rules[0][0]]
        while waiting:
            first = waiting.pop()
            if is_whole(first):
                self.stops[first] = len(self.signs)
            elif first.startswith("'"):
                self.signs.append(first[1])
            else:
                self.take_rule(first, waiting)
        if len(self.begins) < len(self.row):
            raise NoRow("numbers are left over")


def read_row(rules, row):
    # The kind is asked first: of a thing of an unknown kind not even the length may be asked.
    if not isinstance(row, list) or not rules:
        raise NoRow("no row of the grammar")
    reading = Reading(rules, row)
    reading.take_all()
    return reading


def text_of(grammar, row):
    return "".join(read_row(checked(grammar), row).signs)


def worth_of(grammar, row):
    rules = checked(grammar)
    read_row(rules, row)
    return sum([rules[number][2] for number in row])


def spans_of(grammar, row):
    reading = read_row(checked(grammar), row)
    return list(zip(row, reading.begins, reading.stops))

"""Rows of a wood by their numbers in the order of lists."""

from forestread.derived import text_of
from forestread.errors import NoRow, TooGreat
from forestread.needs import MOST_NUMBERS
from forestread.parts import is_whole
from forestread.rests import Rests
from forestread.tallies import Many
from forestread.totals import values_of_nodes


def row_at(wood, number):
    known = values_of_nodes(wood, Many())
    if not is_whole(number) or not 0 <= number < known.get(wood.top(), 0):
        raise NoRow("no number of a row")
    rests = Rests(wood, Many(), known)
    row = []
    ahead = number
    place = 0
    link = rests.first_link(wood.top())
    while link is not None:
        if len(row) == MOST_NUMBERS:
            raise TooGreat("a row of more than 1000 numbers")
        chosen = None
        for rule, many in rests.choices(place, link):
            if ahead < many:
                chosen = rule
                break
            ahead -= many
        row.append(chosen)
        behind = rests.behind_choice(place, link, chosen)
        place = behind[0]
        link = behind[1]
    return row


def place_of(wood, row):
    known = values_of_nodes(wood, Many())
    if text_of(wood.told_grammar(), row) != wood.told_text():
        raise NoRow("a row of another text")
    rests = Rests(wood, Many(), known)
    ahead = 0
    place = 0
    link = rests.first_link(wood.top())
    for chosen in row:
        for rule, many in rests.choices(place, link):
            if rule < chosen:
                ahead += many
        behind = rests.behind_choice(place, link, chosen)
        place = behind[0]
        link = behind[1]
    return min(ahead, 10 ** 60)

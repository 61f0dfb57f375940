"""The desk: keeps a grammar, and answers rows of words about it."""

from forestread.changes import new_text
from forestread.derived import worth_of
from forestread.errors import NoGrammar, NoRule, NoWords
from forestread.mends import mended
from forestread.needs import needed
from forestread.notes import is_figures, read_rule, show_grammar
from forestread.numbered import row_at
from forestread.rules import MOST_RULES
from forestread.totals import how_many
from forestread.wood import Wood
from forestread.worths import best

# How many numbers follow a word, and whether a rule or a text follows behind.
FORMS = {
    "rule": (0, True),
    "drop": (1, False),
    "show": (0, False),
    "needed": (0, False),
    "count": (0, True),
    "row": (1, True),
    "best": (0, True),
    "mend": (3, True),
}


# The word, its numbers, and what follows them: a tuple of three.
def read_words(row):
    if not isinstance(row, str):
        raise NoWords("no text")
    word = row.partition(" ")[0]
    if word not in FORMS:
        raise NoWords("no such word")
    form = FORMS[word]
    # A text that follows may have blanks of its own, so no more are parted off than the form has.
    words = row.split(" ", form[0] + 1) if form[1] else row.split(" ")
    if len(words) != form[0] + 1 + (1 if form[1] else 0):
        raise NoWords("words are lacking or left over")
    figures = words[1:form[0] + 1]
    if not all([is_figures(number) for number in figures]):
        raise NoWords("no number")
    return (word, [int(number) for number in figures], words[-1])


def show_numbers(numbers):
    return " ".join([str(number) for number in numbers])


class Desk:
    def __init__(self):
        self.rules = []

    def say(self, row):
        words = read_words(row)
        word = words[0]
        numbers = words[1]
        rest = words[2]
        if word == "rule":
            return self.add_rule(rest)
        if word == "drop":
            return self.drop_rule(numbers[0])
        if word == "show":
            return show_grammar(self.rules)
        if word == "needed":
            return show_numbers(needed(self.rules))
        if word == "mend":
            return self.mend(rest, (numbers[0], numbers[1], numbers[2]))
        wood = Wood(self.rules, rest)
        if word == "count":
            many = how_many(wood)
            return "endless" if many is None else str(many)
        if word == "row":
            return show_numbers(row_at(wood, numbers[0]))
        return self.show_best(wood)

    def add_rule(self, written):
        rule = read_rule(written)
        if len(self.rules) >= MOST_RULES:
            raise NoGrammar("60 rules stand already")
        self.rules.append(rule)
        return str(len(self.rules) - 1)

    def drop_rule(self, number):
        if number >= len(self.rules):
            raise NoRule("no rule of this number")
        self.rules.pop(number)
        return "ok"

    def show_best(self, wood):
        row = best(wood)
        worth = worth_of(self.rules, row)
        numbers = show_numbers(row)
        return f"{worth}: {numbers}"

    def mend(self, text, costs):
        answer = mended(self.rules, text, costs)
        cost = answer[0]
        mended_text = new_text(answer[1])
        return f"{cost}: {mended_text}"

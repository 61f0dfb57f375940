"""Rules and grammars, written as texts and read again."""

from forestread.errors import NoGrammar, NoRule
from forestread.rules import MOST_RULES, checked, is_rule

MOST_FIGURES = 61


# Python's own reading of numbers would also take blanks, signs ahead and other figures than these.
def is_figures(thing):
    if not 1 <= len(thing) <= MOST_FIGURES or not all(["0" <= figure <= "9" for figure in thing]):
        return False
    return thing == "0" or not thing.startswith("0")


def show_part(part):
    return "'" if part == "' " else part


def show_rule(rule):
    words = [rule[0], str(rule[2]), "="] + [show_part(part) for part in rule[1]]
    return " ".join(words)


def show_grammar(grammar):
    return "\n".join([show_rule(rule) for rule in checked(grammar)])


def read_part(word):
    return "' " if word == "'" else word


def read_rule(text):
    if not isinstance(text, str):
        raise NoRule("no text")
    words = text.split(" ")
    if len(words) < 3 or not is_figures(words[1]) or words[2] != "=":
        raise NoRule("no head, worth and = ahead of the parts")
    rule = (words[0], tuple([read_part(word) for word in words[3:]]), int(words[1]))
    if not is_rule(rule):
        raise NoRule("no rule")
    return rule


def read_grammar(text):
    if not isinstance(text, str):
        raise NoGrammar("no text")
    if text == "":
        return []
    lines = text.split("\n")
    if len(lines) > MOST_RULES:
        raise NoGrammar("more than 60 rules")
    try:
        return [read_rule(line) for line in lines]
    except NoRule:
        raise NoGrammar("a line that writes no rule") from None

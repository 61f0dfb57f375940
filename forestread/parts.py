"""Whole numbers, texts, and the parts of which rules are made: signs and names."""

from forestread.errors import NoText

MOST_SIGNS = 60
MOST_LETTERS = 8

# The codes of the blank, of ~ and of the percent sign, which no text may have.
FIRST_CODE = 32
LAST_CODE = 126
PERCENT_CODE = 37


# Here and below, the kind is asked before anything else is done with a thing:
# a thing of an unknown kind may fail at any comparison, length or walk.
def is_whole(thing):
    return isinstance(thing, int) and not isinstance(thing, bool)


def stands_in_texts(sign):
    code = ord(sign)
    return FIRST_CODE <= code <= LAST_CODE and code != PERCENT_CODE


def is_sign(thing):
    return isinstance(thing, str) and len(thing) == 2 and thing[0] == "'" and stands_in_texts(thing[1])


def is_name(thing):
    if not isinstance(thing, str):
        return False
    return 1 <= len(thing) <= MOST_LETTERS and all(["A" <= letter <= "Z" for letter in thing])


def is_part(thing):
    return is_sign(thing) or is_name(thing)


def is_text(thing):
    if not isinstance(thing, str):
        return False
    return len(thing) <= MOST_SIGNS and all([stands_in_texts(sign) for sign in thing])


def checked_text(thing):
    # The thing itself is not put into the error's words: showing it could fail.
    if not is_text(thing):
        raise NoText("no text of at most 60 signs")
    return thing

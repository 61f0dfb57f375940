"""Changes of a text, deed by deed, and what they cost."""

from forestread.errors import NoChange, NoCosts
from forestread.parts import checked_text, is_whole, stands_in_texts


def is_cost(thing):
    return is_whole(thing) and 0 <= thing <= 10 ** 60


def checked_costs(thing):
    if not isinstance(thing, tuple) or len(thing) != 3 or not all([is_cost(cost) for cost in thing]):
        raise NoCosts("no tuple of three costs")
    return thing


def is_single_sign(thing):
    return isinstance(thing, str) and len(thing) == 1 and stands_in_texts(thing)


# The form alone: whether the signs are those of the text is another matter.
def is_deed(thing):
    if not isinstance(thing, tuple) or not 2 <= len(thing) <= 3 or not isinstance(thing[0], str):
        return False
    if not all([is_single_sign(sign) for sign in thing[1:]]):
        return False
    if len(thing) == 2:
        return thing[0] in ("keep", "cut", "put")
    return thing[0] == "swap" and thing[1] != thing[2]


def check_deeds(text, deeds):
    if not isinstance(deeds, list) or not all([is_deed(deed) for deed in deeds]):
        raise NoChange("no list of deeds")
    taken = [deed[1] for deed in deeds if deed[0] != "put"]
    if "".join(taken) != text:
        raise NoChange("deeds for another text")


def new_text(deeds):
    return "".join([deed[-1] for deed in deeds if deed[0] != "cut"])


def changed(text, deeds):
    check_deeds(checked_text(text), deeds)
    return new_text(deeds)


def cost_of_deed(deed, costs):
    if deed[0] == "keep":
        return 0
    return costs[("put", "cut", "swap").index(deed[0])]


def cost_of(text, deeds, costs):
    checked_text(text)
    checked_costs(costs)
    check_deeds(text, deeds)
    return sum([cost_of_deed(deed, costs) for deed in deeds])

"""Standings written as texts, and read from them."""

from cranefloor.errors import BadText
from cranefloor.floors import FEWEST_STACKS, MOST_STACKS, is_within

FIGURES = "0123456789"
BETWEEN_STACKS = "/"


def shown(standing):
    return BETWEEN_STACKS.join([stack_shown(stack) for stack in standing])


def read(text):
    if not has_signs_of_a_standing(text):
        raise BadText("a text has no signs but figures and strokes")
    stacks = text.split(BETWEEN_STACKS)
    if not is_within(len(stacks), FEWEST_STACKS, MOST_STACKS):
        raise BadText("a text has 2 to 4 stacks")
    if has_a_sign_twice("".join(stacks)):
        raise BadText("a crate stands twice in the text")
    return tuple([stack_read(stack) for stack in stacks])


def stack_shown(stack):
    return "".join([str(crate) for crate in stack])


def stack_read(figures):
    return tuple([int(figure) for figure in figures])


def has_signs_of_a_standing(text):
    return isinstance(text, str) and all([sign in FIGURES or sign == BETWEEN_STACKS for sign in text])


def has_a_sign_twice(signs):
    return len(set(signs)) != len(signs)

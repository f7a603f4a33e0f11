"""Slicing words: what slices, shapes and whoever else cuts floors apart need of them."""

from chipfloor.checks import is_between, is_tuple_of
from chipfloor.errors import BadWord

LETTERS = ("H", "V")
LONGEST = 15


def is_letter(item):
    """Whether any value is a letter of a word."""
    return isinstance(item, str) and item in LETTERS


def block_count(word):
    """How many blocks a word of this length has: each one but the first needs a letter."""
    return (len(word) + 1) // 2


def wrong_item(word):
    """The index of the first item that cannot stand where it does, the length if all can."""
    most = block_count(word) - 1
    parts = 0
    for index, item in enumerate(word):
        if is_between(item, 0, most) and item not in word[:index]:
            parts += 1
        elif is_letter(item) and parts >= 2:
            parts -= 1
        else:
            return index
    return len(word)


def check_word(word):
    """Raise BadWord for a value that is no slicing word."""
    if not is_tuple_of(word, 1, LONGEST) or len(word) % 2 == 0:
        raise BadWord(None)
    # No second part can be left at the end: of an odd number of items that all
    # can stand, at most half and a half are numbers, as none comes twice.
    index = wrong_item(word)
    if index < len(word):
        raise BadWord(index)


def built(word, of_block, of_cut):
    """What a word builds if of_block(number) makes the blocks and of_cut(letter, first, second) joins two parts."""
    stack = []
    for item in word:
        if is_letter(item):
            second = stack.pop()
            first = stack.pop()
            stack.append(of_cut(item, first, second))
        else:
            stack.append(of_block(item))
    return stack.pop()

"""Sizes of floors cut apart: which ones they can have, the least ones, and where their blocks stand."""

from chipfloor.checks import is_between, is_size, is_tuple_of
from chipfloor.errors import BadChoice, BadSizes, BadWord, TooMany
from chipfloor.slices import all_words
from chipfloor.words import block_count, built, check_word

MOST_BLOCKS = 8
MOST_SIZES = 6
MOST_SEARCHED = 4


def is_block(value):
    """Whether any value is a tuple of sizes of one block."""
    return is_tuple_of(value, 1, MOST_SIZES) and all([is_size(size) for size in value])


def check_blocks(blocks):
    """Raise BadSizes for a value that is no blocks."""
    if not is_tuple_of(blocks, 1, MOST_BLOCKS):
        raise BadSizes(None)
    for index, sizes in enumerate(blocks):
        if not is_block(sizes):
            raise BadSizes(index)


def check_floor(blocks, word):
    """Raise BadSizes or BadWord for values that are no blocks and a word of as many."""
    check_blocks(blocks)
    check_word(word)
    if block_count(word) != len(blocks):
        raise BadWord(None)


def check_choice(blocks, choice):
    """Raise BadChoice for a value that is no choice of a size for each of the blocks."""
    if not is_tuple_of(choice, len(blocks), len(blocks)):
        raise BadChoice(None)
    for index, item in enumerate(choice):
        if not is_between(item, 0, len(blocks[index]) - 1):
            raise BadChoice(index)


# An option of a part of a floor is (width, height, picks), picks being a tuple
# of (block, index of its size): a size of the part, and one way to have it.


def block_options(block, sizes):
    """The options of a block alone that no other one beats."""
    return unbeaten([(width, height, ((block, index),)) for index, (width, height) in enumerate(sizes)])


def cut_options(letter, first, second):
    """The options of two parts together that no other one beats.

    Options that are beaten in a part need no second look: with a beaten one
    the whole is never less wide or less high than with the one that beats it.
    """
    return unbeaten([joined_option(letter, one, other) for one in first for other in second])


def joined_option(letter, one, other):
    """The option of two parts together with an option of each."""
    width, height = joined_size(letter, one[:2], other[:2])
    return (width, height, one[2] + other[2])


def joined_size(letter, one, other):
    """The size of two parts together: the second one above the first one, or to the right."""
    if letter == "H":
        return (max(one[0], other[0]), one[1] + other[1])
    return (one[0] + other[0], max(one[1], other[1]))


def unbeaten(options):
    """The ascending list of the options that no other one beats, one for each size."""
    kept = []
    for option in sorted(options):
        # All that are kept are no wider, and the last one is the lowest of them.
        if not kept or option[1] < kept[-1][1]:
            kept.append(option)
    return kept


def floor_options(blocks, word):
    """The ascending list of the options of a floor that no other one beats."""

    def lone(number):
        return block_options(number, blocks[number])

    return built(word, lone, cut_options)


def sizes_of(options):
    """The tuple of the sizes of options."""
    return tuple([option[:2] for option in options])


def curve_of(sizes):
    """The ascending tuple of the sizes of one block that no other one beats."""
    if not is_block(sizes):
        raise BadSizes(0)
    return sizes_of(block_options(0, sizes))


def curve(blocks, word):
    """The ascending tuple of the sizes of the floor that no other one beats."""
    check_floor(blocks, word)
    return sizes_of(floor_options(blocks, word))


def best(blocks, word):
    """The least area of the floor and a choice with it."""
    check_floor(blocks, word)
    return least_option(blocks, word)


def least_option(blocks, word):
    """The least area and a choice with it, of blocks and a word that are known to be right."""
    # What is beaten has a greater area than what beats it, so the curve is enough.
    width, height, picks = min(floor_options(blocks, word), key=lambda option: option[0] * option[1])
    return (width * height, tuple([index for _, index in sorted(picks)]))


def size_of(blocks, word, choice):
    """The size of the floor with a choice."""
    return placed_floor(blocks, word, choice)[0]


def placed(blocks, word, choice):
    """The tuple of the spots of the blocks, in their order."""
    numbered = placed_floor(blocks, word, choice)[1]
    return tuple([spot for _, spot in sorted(numbered)])


def placed_floor(blocks, word, choice):
    """The size of the floor and the tuple of its (block, spot), after all checks."""
    check_floor(blocks, word)
    check_choice(blocks, choice)

    def lone(number):
        width, height = blocks[number][choice[number]]
        return ((width, height), ((number, (0, 0, width, height)),))

    return built(word, lone, joined_part)


def joined_part(letter, first, second):
    """Two placed parts together: the second one begins where the first one ends."""
    size, numbered = first
    right, up = (0, size[1]) if letter == "H" else (size[0], 0)
    shifted = [(number, shifted_spot(spot, right, up)) for number, spot in second[1]]
    return (joined_size(letter, size, second[0]), numbered + tuple(shifted))


def shifted_spot(spot, right, up):
    """The spot moved to the right and up."""
    left, low, width, height = spot
    return (left + right, low + up, width, height)


def best_word(blocks):
    """The least area over all words, a normal word and a choice with it."""
    check_blocks(blocks)
    if len(blocks) > MOST_SEARCHED:
        raise TooMany(MOST_SEARCHED)
    # A word and its normal word have the same floor, so the normal ones are enough.
    answers = [(word, least_option(blocks, word)) for word in all_words(len(blocks))]
    word, (area, choice) = min(answers, key=lambda answer: answer[1][0])
    return (area, word, choice)

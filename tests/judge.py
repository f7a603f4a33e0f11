"""What the document says of floors cut apart, told again in another, slower way, to judge answers by."""

from itertools import permutations, product

from chipfloor.errors import BadMove, BadWord

PLAIN_VALUES = (None, True, False, 0, 1, -1, 5, 10 ** 30, "", "H", "V", "0", "swap")
CLUMPS = ([], [0], (), ((),), {}, {0: 1}, [(1, 1)], ([],), ({},), (None,), (True,))
OBJECTS = (BadMove("x"), BadWord(3), (BadWord(None),))
ODD_VALUES = PLAIN_VALUES + CLUMPS + OBJECTS


def tree_of(word):
    """A word as a nest of (letter, first, second), read from its back."""
    def take(at):
        if at < 0:
            raise ValueError("a letter without two parts")
        if word[at] not in ("H", "V"):
            return word[at], at - 1
        second, below = take(at - 1)
        first, rest = take(below)
        return (word[at], first, second), rest
    tree, rest = take(len(word) - 1)
    if rest != -1:
        raise ValueError("more than one part")
    return tree


def is_plain_word(items):
    """Whether numbers, each once, and letters make a slicing word."""
    try:
        tree_of(items)
    except ValueError:
        return False
    return True


def trees(blocks):
    """All nests over the blocks in this order."""
    if len(blocks) == 1:
        return [blocks[0]]
    return [(letter, first, second)
            for at in range(1, len(blocks))
            for first in trees(blocks[:at])
            for second in trees(blocks[at:])
            for letter in "HV"]


def word_of(tree):
    if isinstance(tree, int):
        return (tree,)
    letter, first, second = tree
    return word_of(first) + word_of(second) + (letter,)


def every_word(many):
    """All slicing words of so many blocks, normal or not."""
    return [word_of(tree) for order in permutations(range(many)) for tree in trees(order)]


def is_plain_normal(word):
    """Whether no two equal letters follow one another."""
    text = "".join(str(item) for item in word)
    return "HH" not in text and "VV" not in text


def in_order(word):
    """A key by which numbers ascend, then H, then V."""
    return [(1, item) if isinstance(item, str) else (0, item) for item in word]


def flat(tree):
    """A floor without its grouping: equal cuts inside one another are one row."""
    if isinstance(tree, int):
        return tree
    letter, first, second = tree
    parts = []
    for part in (flat(first), flat(second)):
        if isinstance(part, tuple) and part[0] == letter:
            parts.extend(part[1:])
        else:
            parts.append(part)
    return (letter, *parts)


def plain_moves(word):
    """The moves of a normal word with the words behind them, in the order of point 5."""
    found = []
    letters = [item in ("H", "V") for item in word]
    for at in range(len(word)):
        later = [k for k in range(at + 1, len(word)) if not letters[k]]
        if not letters[at] and later:
            items = list(word)
            items[at], items[later[0]] = items[later[0]], items[at]
            found.append((("swap", at), tuple(items)))
    for at in range(len(word)):
        if letters[at] and not letters[at - 1]:
            end = at
            while end < len(word) and letters[end]:
                end += 1
            turned = tuple({"H": "V", "V": "H"}[item] for item in word[at:end])
            found.append((("turn", at), word[:at] + turned + word[end:]))
    for at in range(len(word) - 1):
        new = word[:at] + (word[at + 1], word[at]) + word[at + 2:]
        if letters[at] != letters[at + 1] and is_plain_word(new) and is_plain_normal(new):
            found.append((("slide", at), new))
    return found


def stand(tree, sizes, left=0, low=0):
    """The size of a floor and the spots of its blocks, by a walk from its corner."""
    if isinstance(tree, int):
        return sizes[tree], {tree: (left, low) + sizes[tree]}
    letter, first, second = tree
    (width, height), spots = stand(first, sizes, left, low)
    if letter == "H":
        (wide, high), more = stand(second, sizes, left, low + height)
        size = (max(width, wide), height + high)
    else:
        (wide, high), more = stand(second, sizes, left + width, low)
        size = (width + wide, max(height, high))
    return size, {**spots, **more}


def choices(blocks):
    return list(product(*[range(len(sizes)) for sizes in blocks]))


def plain_size(blocks, word, choice):
    return stand(tree_of(word), [sizes[at] for sizes, at in zip(blocks, choice)])[0]


def plain_placed(blocks, word, choice):
    spots = stand(tree_of(word), [sizes[at] for sizes, at in zip(blocks, choice)])[1]
    return tuple(spots[block] for block in range(len(blocks)))


def not_beaten(sizes):
    """The ascending tuple of the sizes that no unlike one, no wider and no higher, beats."""
    unlike = sorted(set(sizes))
    return tuple(one for one in unlike
                 if not any(other != one and other[0] <= one[0] and other[1] <= one[1] for other in unlike))


def plain_curve(blocks, word):
    return not_beaten([plain_size(blocks, word, choice) for choice in choices(blocks)])


def least_area(blocks, word):
    sizes = [plain_size(blocks, word, choice) for choice in choices(blocks)]
    return min(width * height for width, height in sizes)


def have_common_point(one, other):
    """Whether two spots have a common inner point."""
    return (one[0] < other[0] + other[2] and other[0] < one[0] + one[2]
            and one[1] < other[1] + other[3] and other[1] < one[1] + one[3])

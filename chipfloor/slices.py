"""Floors cut apart: slicing words, normal ones, and the moves between these."""

from chipfloor.checks import check_number, is_integer, is_tuple_of
from chipfloor.errors import BadMove, BadWord, TooMany
from chipfloor.words import LETTERS, block_count, built, check_word, is_letter, wrong_item

MOST_BLOCKS = 8
MOST_SEARCHED = 4
MOST_WORDS = 600


def is_normal(word):
    """Whether no two equal letters of a word follow one another."""
    check_word(word)
    return not has_twins(word)


def has_twins(word):
    """Whether two equal items follow one another: as no number comes twice, these are letters."""
    return any([one == other for one, other in zip(word, word[1:])])


def check_normal(word):
    """Raise BadWord for a value that is no normal word."""
    check_word(word)
    if has_twins(word):
        raise BadWord(None)


def normal(word):
    """The normal word of the same floor."""
    check_word(word)
    return word_of(built(word, block_row, cut_row))


# A row is a pair of a letter and the words of the parts that it cuts apart, from
# the left or from below on; a block alone is a row of one part, without a letter.


def block_row(number):
    """The row that is one block."""
    return ("", ((number,),))


def cut_row(letter, first, second):
    """The row of two rows: rows of the same letter go on in it, others are parts of it."""
    return (letter, parts_for(letter, first) + parts_for(letter, second))


def parts_for(letter, row):
    """The words of the parts that a row adds to a row of the letter."""
    if row[0] == letter:
        return row[1]
    return (word_of(row),)


def word_of(row):
    """The normal word of a row."""
    letter, parts = row
    word = parts[0]
    for part in parts[1:]:
        word = word + part + (letter,)
    return word


def all_words(many):
    """The list of all normal words of so many blocks, numbers ahead of H, H ahead of V."""
    check_number(many, 1, MOST_BLOCKS)
    if many > MOST_SEARCHED:
        raise TooMany(MOST_WORDS)
    words = [()]
    for _ in range(2 * many - 1):
        words = [word + (item,) for word in words for item in next_items(word, many)]
    return words


def next_items(begun, many):
    """The items, in order, that may follow the begun normal word of so many blocks."""
    numbers = [number for number in range(many) if number not in begun]
    used = many - len(numbers)
    parts = used - (len(begun) - used)
    if parts < 2:
        return numbers
    return numbers + [letter for letter in LETTERS if letter != begun[-1]]


def moves(word):
    """The list of the moves of a normal word: swaps, turns, slides."""
    check_normal(word)
    return moves_of(word)


def moves_of(word):
    """The list of the moves of a word that is known to be normal."""
    numbers = [place for place, item in enumerate(word) if not is_letter(item)]
    swaps = [("swap", place) for place in numbers[:-1]]
    # A word begins with a number, so there is an item before each letter.
    turns = [("turn", place) for place, item in enumerate(word) if is_letter(item) and not is_letter(word[place - 1])]
    slides = [("slide", place) for place in range(len(word) - 1) if can_slide(word, place)]
    return swaps + turns + slides


def can_slide(word, place):
    """Whether a number and a letter stand at the place and behind it, and may change places."""
    if is_letter(word[place]) == is_letter(word[place + 1]):
        return False
    new = with_swapped(word, place, place + 1)
    return wrong_item(new) == len(new) and not has_twins(new)


def moved(word, move):
    """The word behind a move of a normal word."""
    check_normal(word)
    if not is_move(word, move):
        raise BadMove("no move of the word")
    return word_behind(word, move)


def is_move(word, value):
    """Whether any value is a move of the word."""
    if not is_tuple_of(value, 2, 2):
        return False
    name, place = value
    # True == 1, so the list of the moves alone would let True pass for a place.
    return isinstance(name, str) and is_integer(place) and value in moves_of(word)


def word_behind(word, move):
    """The word behind what is known to be a move of it."""
    name, place = move
    if name == "swap":
        return with_swapped(word, place, next_number(word, place))
    if name == "turn":
        return with_turned(word, place)
    return with_swapped(word, place, place + 1)


def next_number(word, place):
    """The place of the next number behind a place."""
    after = place + 1
    while is_letter(word[after]):
        after += 1
    return after


def with_swapped(word, one, other):
    """The word with the items at two places swapped."""
    items = list(word)
    items[one], items[other] = word[other], word[one]
    return tuple(items)


def with_turned(word, place):
    """The word with the letters from the place on turned, as far as they follow one another."""
    items = list(word)
    while place < len(items) and is_letter(items[place]):
        items[place] = turned_letter(items[place])
        place += 1
    return tuple(items)


def turned_letter(letter):
    """V for H, H for V."""
    if letter == "H":
        return "V"
    return "H"


def road(one, other):
    """A tuple of moves that lead from one normal word to another one, as few as can be."""
    check_normal(one)
    check_normal(other)
    if len(other) != len(one):
        raise BadWord(None)
    if block_count(one) > MOST_SEARCHED:
        raise TooMany(MOST_SEARCHED)
    roads = {one: ()}
    reached = [one]
    while other not in roads:
        reached = reach_further(reached, roads)
    return roads[other]


def reach_further(words, roads):
    """Add to roads those to all new words one move behind the words; the list of these new words."""
    reached = []
    for word in words:
        for move in moves_of(word):
            behind = word_behind(word, move)
            if behind not in roads:
                roads[behind] = roads[word] + (move,)
                reached.append(behind)
    return reached

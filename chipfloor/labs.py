"""Labs: masks that grow by steps, told by lines of words, and steps that can be taken back."""

from chipfloor.errors import InvalidText, NothingToRedo, NothingToUndo, NotText
from chipfloor.masks import FARTHEST, MOST_BOXES, area, is_layer, nets

# How many words each first word has behind it.
BEHIND = {"put": 5, "drop": 1, "shift": 3, "nets": 0, "area": 1}
QUESTIONS = ("nets", "area")
DIGITS = "0123456789"


class Lab:
    """A mask, and the steps that have made it."""

    def __init__(self):
        # The empty mask and the ones behind each step; then what was taken back, the last first to come.
        self._masks = [()]
        self._lines = []
        self._taken_back = []

    @property
    def mask(self):
        """The mask as it is now."""
        return self._masks[-1]

    @property
    def steps(self):
        """The tuple of the lines of the steps done and not taken back."""
        return tuple(self._lines)

    def run(self, line):
        """Do the step of a line, or answer its question."""
        check_text(line)
        mask = self._masks[-1]
        words = words_of(line)
        check_words(words, mask)
        if words[0] in QUESTIONS:
            return answer_to(words, mask)
        self._lines.append(line)
        self._masks.append(mask_behind(words, mask))
        self._taken_back = []
        return None

    def undo(self):
        """Take the last step back."""
        if not self._lines:
            raise NothingToUndo("no step is done")
        self._taken_back.append((self._lines.pop(), self._masks.pop()))

    def redo(self):
        """Do the step again that was taken back last."""
        if not self._taken_back:
            raise NothingToRedo("no step is taken back")
        line, mask = self._taken_back.pop()
        self._lines.append(line)
        self._masks.append(mask)


def replayed(text):
    """A lab in which the lines of a text are run."""
    check_text(text)
    lab = Lab()
    if text != "":
        for line in text.split("\n"):
            lab.run(line)
    return lab


def check_text(value):
    """Raise NotText for a value that is no string."""
    if not isinstance(value, str):
        raise NotText("no string")


def words_of(line):
    """The list of the words of a line."""
    return [word for word in line.split(" ") if word != ""]


def check_words(words, mask):
    """Raise InvalidText for words that are no step and no question for a mask."""
    for place in range(len(words)):
        if not can_stand(words, place, mask):
            raise InvalidText(1, place + 1)
    if not words or len(words) <= BEHIND[words[0]]:
        raise InvalidText(1, len(words) + 1)


def can_stand(words, place, mask):
    """Whether the word at a place can stand there, all words before it being right."""
    word = words[place]
    if place == 0:
        return word in BEHIND and (word != "put" or len(mask) < MOST_BOXES)
    if place > BEHIND[words[0]]:
        return False
    if place == 1 and words[0] in ("put", "area"):
        return is_layer(word)
    least, most = limits_of(words, place, mask)
    return is_number(word) and least <= int(word) <= most


def limits_of(words, place, mask):
    """The least and the greatest number that can stand at a place."""
    if words[0] == "put" and place <= 3:
        return (0, FARTHEST - 1)
    if words[0] == "put":
        # The right or the high end is beyond the left or the low one, two words before.
        return (int(words[place - 2]) + 1, FARTHEST)
    if place == 1:
        return (0, len(mask) - 1)
    box = mask[int(words[1])]
    ends = box[3:]
    return (0, FARTHEST - ends[place - 2])


def is_number(word):
    """Whether a word is one or two digits without a needless zero."""
    if len(word) > 2 or not all([letter in DIGITS for letter in word]):
        return False
    return len(word) == 1 or word[0] != "0"


def answer_to(words, mask):
    """The answer, a string, to a question."""
    if words[0] == "nets":
        return str(len(nets(mask)))
    return str(area(mask, words[1]))


def mask_behind(words, mask):
    """The mask behind a step."""
    if words[0] == "put":
        return mask + ((words[1],) + tuple([int(word) for word in words[2:]]),)
    index = int(words[1])
    if words[0] == "drop":
        return mask[:index] + mask[index + 1:]
    return mask[:index] + (shifted(mask[index], int(words[2]), int(words[3])),) + mask[index + 1:]


def shifted(box, right, up):
    """The box moved to the right and up."""
    layer, begin, low, end, high = box
    return (layer, begin + right, low + up, end + right, high + up)

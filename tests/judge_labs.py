"""What the document says of lines of a lab, told again in another way: by lists of all words that can stand."""

from tests.judge_masks import LAYERS, plain_area, plain_nets

NUMBERS = [str(number) for number in range(100)]


def can_follow(words, mask):
    """All words that can stand behind some right words, () if the line is whole."""
    at = len(words)
    if at == 0:
        return ["drop", "shift", "nets", "area"] + (["put"] if len(mask) < 24 else [])
    lists = {"put": 6, "drop": 2, "shift": 4, "nets": 1, "area": 2}
    if at == lists[words[0]]:
        return ()
    if words[0] == "area" or (words[0] == "put" and at == 1):
        return list(LAYERS)
    if words[0] == "put" and at < 4:
        return NUMBERS[:60]
    if words[0] == "put":
        return NUMBERS[int(words[at - 2]) + 1:61]
    if at == 1:
        return NUMBERS[:len(mask)]
    _, _, _, right, high = mask[int(words[1])]
    return NUMBERS[:61 - (right if at == 2 else high)]


def wrong_word(line, mask):
    """The number of the first word that cannot stand, or of the one that is lacking; None for a right line."""
    words = [word for word in line.split(" ") if word]
    for at, word in enumerate(words):
        if word not in can_follow(words[:at], mask):
            return at + 1
    return None if can_follow(words, mask) == () else len(words) + 1


def after(line, mask):
    """The mask behind a right line, and its answer."""
    words = line.split()
    numbers = [int(word) for word in words[1:] if word.isdigit()]
    boxes = list(mask)
    if words[0] == "put":
        boxes.append((words[1], *numbers))
    elif words[0] == "drop":
        del boxes[numbers[0]]
    elif words[0] == "shift":
        layer, left, low, right, high = boxes[numbers[0]]
        boxes[numbers[0]] = (layer, left + numbers[1], low + numbers[2], right + numbers[1], high + numbers[2])
    elif words[0] == "nets":
        return mask, str(len(plain_nets(mask)))
    else:
        return mask, str(plain_area(mask, words[1]))
    return tuple(boxes), None


def random_line(source, mask):
    """A line that is mostly right, or wrong in one word or two."""
    words = []
    while True:
        some = can_follow(words, mask)
        if source.random() < 0.03 or (some == () and source.random() < 0.03):
            words.append(source.choice(("", "x", "put", "metal", "00", "01", "-1", "+1", "100", "60", "61", "Nets", "5\n",
                                        "\t", "1_0", "0x1")))
            break
        if len(some) == 0 or source.random() < 0.02:
            break
        words.append(source.choice(list(some)))
    return source.choice(("", " ", "  ")) + source.choice((" ", "   ")).join(words) + source.choice(("", " ", "   "))

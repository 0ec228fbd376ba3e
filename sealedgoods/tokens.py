"""The tokens of a letter's text."""

WORD = "word"
NUMBER = "number"
SIGN = "sign"
WRONG_TOKEN = "wrong"
TEXT_END = "end"

LETTERS = "abcdefghijklmnopqrstuvwxyz"
SIGNS = (".", ";")
BLANKS = (" ", "\n")
MOST_LETTERS = 8
MOST_DIGITS = 10


class Token:
    """One token: its value (a number's is a whole number, else it's a text), its place, and where it ends."""

    def __init__(self, kind, value, place, end):
        self.kind = kind
        self.value = value
        self.place = place
        self.end = end


def behind_blanks(text, place):
    """The first place from this one on at which neither a blank nor a line's end stands."""
    blanks = [ord(sign) for sign in BLANKS]
    while place < len(text) and text[place] in blanks:
        place += 1
    return place


def run_end(text, place, low, high):
    """Where the run of bytes from low to high ends that begins at this place."""
    while place < len(text) and low <= text[place] <= high:
        place += 1
    return place


def word_at(text, place):
    """The word that begins at this place, a wrong token if it's too long."""
    end = run_end(text, place, ord("a"), ord("z"))
    if end - place > MOST_LETTERS:
        return Token(WRONG_TOKEN, "", place, end)
    return Token(WORD, "".join([LETTERS[byte - ord("a")] for byte in text[place:end]]), place, end)


def number_at(text, place):
    """The number that begins at this place, a wrong token if it's too long or has a 0 in front."""
    end = run_end(text, place, ord("0"), ord("9"))
    if end - place > MOST_DIGITS or (end - place > 1 and text[place] == ord("0")):
        return Token(WRONG_TOKEN, "", place, end)
    value = 0
    for byte in text[place:end]:
        value = 10 * value + byte - ord("0")
    return Token(NUMBER, value, place, end)


def token_at(text, place):
    """The first token from this place on; behind the last one the text's end."""
    begin = behind_blanks(text, place)
    if begin == len(text):
        return Token(TEXT_END, "", begin, begin)
    if ord("a") <= text[begin] <= ord("z"):
        return word_at(text, begin)
    if ord("0") <= text[begin] <= ord("9"):
        return number_at(text, begin)
    for sign in SIGNS:
        if text[begin] == ord(sign):
            return Token(SIGN, sign, begin, begin + 1)
    return Token(WRONG_TOKEN, "", begin, begin + 1)

"""Names, figures, and a text gone through sign by sign."""

from keptnest.errors import NoValue

LETTERS = "abcdefghijklmnopqrstuvwxyz"
FIGURES = "0123456789"
LONGEST_NAME = 8
TAKEN_WORDS = (
    "num", "word", "row", "bag", "var", "table", "at", "add", "mul", "none", "one", "both", "times",
    "for", "when", "let", "same", "under", "and", "or", "not",
)


def only_of(text, signs):
    # Asked sign by sign, as Python's own questions take letters and figures of other scripts too.
    return all([sign in signs for sign in text])


def is_name(text):
    return 1 <= len(text) <= LONGEST_NAME and only_of(text, LETTERS) and text not in TAKEN_WORDS


def new_name(taken):
    name = "a"
    while name in taken or not is_name(name):
        name = text_behind(name)
    return name


def text_behind(text):
    # Shorter ones are ahead, then it goes by letters.
    if text == "":
        return "a"
    last = LETTERS.index(text[-1]) + 1
    if last == len(LETTERS):
        return text_behind(text[:-1]) + "a"
    return text[:-1] + LETTERS[last]


def number_of(text):
    figures = text[1:] if text.startswith("-") else text
    if figures == "" or not only_of(figures, FIGURES):
        return None
    if figures[0] == "0" and text != "0":
        return None
    return int(text)


class Reader:
    def __init__(self, text):
        self.text = text
        self.place = 0

    def takes(self, piece):
        if not self.text.startswith(piece, self.place):
            return False
        self.place += len(piece)
        return True

    def needs(self, piece):
        if not self.takes(piece):
            self.refuse(f"{piece!r} is due")

    def refuse(self, why):
        place = self.place
        raise NoValue(f"{why} at sign {place}")

    def at_end(self):
        return self.place == len(self.text)

    def run_of(self, signs):
        start = self.place
        while not self.at_end() and self.text[self.place] in signs:
            self.place += 1
        return self.text[start:self.place]

    def name(self):
        name = self.run_of(LETTERS)
        if not is_name(name):
            self.refuse("no name ends")
        return name

    def number(self):
        number = number_of(self.run_of("-" + FIGURES))
        if number is None:
            self.refuse("no number ends")
        return number

    def parts(self, closing, read_part):
        if self.takes(closing):
            return []
        found = [read_part()]
        while self.takes(", "):
            found.append(read_part())
        self.needs(closing)
        return found

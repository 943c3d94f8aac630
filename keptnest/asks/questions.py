"""Questions and claims: their texts, what lies within them, and what they name."""

from keptnest.data.signs import is_name, number_of
from keptnest.data.values import unfolded
from keptnest.errors import NoQuestion

DEEPEST_QUESTION = 20
DEEPEST_KIND = 12
QUESTIONS = {
    "num": ("number",),
    "word": ("name",),
    "var": ("name",),
    "table": ("name",),
    "row": ("fields",),
    "at": ("name", "question"),
    "add": ("question", "question"),
    "mul": ("question", "question"),
    "none": ("kind",),
    "one": ("question",),
    "both": ("question", "question"),
    "times": ("number", "question"),
    "for": ("name", "question", "question"),
    "when": ("claim", "question"),
    "let": ("name", "question", "question"),
}
CLAIMS = {
    "same": ("question", "question"),
    "under": ("question", "question"),
    "and": ("claim", "claim"),
    "or": ("claim", "claim"),
    "not": ("claim",),
}
# Words that have something else ahead of, or in the place of, the questions and claims below them.
HAVE_MORE = ("num", "word", "var", "table", "none", "at", "times", "for", "let")


def under(question):
    if question[0] == "row":
        return tuple([part for field, part in question[1]])
    return question[2:] if question[0] in HAVE_MORE else question[1:]


def with_under(question, parts):
    if question[0] == "row":
        return ("row", tuple([(pair[0], part) for pair, part in zip(question[1], parts)]))
    if len(parts) == 0:
        return question
    # The parts stand at the end of every word's tuple.
    return question[:-len(parts)] + tuple(parts)


def knots(question):
    found = []
    waiting = [question]
    while waiting:
        part = waiting.pop()
        found.append(part)
        waiting.extend(under(part))
    return found


def tables(question):
    return sorted(set([knot[1] for knot in knots(question) if knot[0] == "table"]))


def free(question):
    found = []
    waiting = [(question, ())]
    while waiting:
        part, bound = waiting.pop()
        if part[0] == "var" and part[1] not in bound:
            found.append(part[1])
        for place, inner in enumerate(under(part)):
            waiting.append((inner, bound + bound_in(part, place)))
    return sorted(set(found))


def bound_in(question, place):
    if question[0] in ("for", "let") and place == 1:
        return (question[1],)
    return ()


def question_shown(question):
    return " ".join(unfolded(question, shown_words))


def shown_words(question):
    # Kinds come along here, as what is written of a word is what its tuple holds.
    if question[0] != "row":
        return [part if isinstance(part, tuple) else str(part) for part in question]
    words = ["row", str(len(question[1]))]
    for field, part in question[1]:
        words.extend([field, part])
    return words


class Words:
    def __init__(self, text):
        self.words = text.split(" ")
        self.place = 0

    def refuse(self, why):
        place = self.place
        raise NoQuestion(f"{why} at word {place}")

    def at_end(self):
        return self.place == len(self.words)

    def word(self):
        if self.at_end():
            self.refuse("a word is due")
        self.place += 1
        return self.words[self.place - 1]

    def name(self):
        name = self.word()
        if not is_name(name):
            self.refuse("no name ends")
        return name

    def number(self):
        number = number_of(self.word())
        if number is None:
            self.refuse("no number ends")
        return number


def read_question(text):
    words = Words(text)
    question = read_knot(words, "question", DEEPEST_QUESTION)
    if not words.at_end():
        words.refuse("the question ends")
    return question


def read_knot(words, sort, room):
    if room == 0:
        words.refuse("one knot too many within others begins")
    word = words.word()
    shape = CLAIMS.get(word) if sort == "claim" else QUESTIONS.get(word)
    if shape is None:
        words.refuse(f"no {sort} begins")
    return (word,) + tuple([read_part(words, part, room - 1) for part in shape])


def read_part(words, sort, room):
    if sort == "number":
        return words.number()
    if sort == "name":
        return words.name()
    if sort == "kind":
        return read_kind(words, DEEPEST_KIND)
    if sort == "fields":
        return read_fields(words, lambda: read_knot(words, "question", room))
    return read_knot(words, sort, room)


def read_kind(words, room):
    if room == 0:
        words.refuse("one knot too many within a kind begins")
    word = words.word()
    if word in ("num", "word"):
        return (word,)
    if word == "row":
        return ("row", read_fields(words, lambda: read_kind(words, room - 1)))
    if word != "bag":
        words.refuse("no kind begins")
    return ("bag", read_kind(words, room - 1))


def read_fields(words, read_inner):
    many = words.number()
    if many < 0:
        words.refuse("a count below nought ends")
    fields = []
    # Walked as long as there are words, so that a count of many figures costs no more than the text is long.
    while len(fields) < many:
        field = words.name()
        if fields and field <= fields[-1][0]:
            words.refuse("a field that does not rise ends")
        fields.append((field, read_inner()))
    return tuple(fields)

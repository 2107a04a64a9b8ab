"""The desk: a web worked by lines of text."""

from leftwithout.errors import BadText, NothingDone
from leftwithout.moved import put_in
from leftwithout.oneless import but_one
from leftwithout.runs import free_places, taking_of, without_of
from leftwithout.signs import number_of
from leftwithout.webs import need_web

# How many number words stand behind the first word of a line.
NUMBERS = {"come": 1, "back": 1, "drag": 2, "seat": 1, "place": 1, "row": 0, "without": 0, "free": 0}

LONGEST_NUMBER = 6


class Desk:
    """A WEB with the ROW of those who have come, and what can be taken back or done once more."""

    def __init__(self, web):
        self._web = need_web(web)
        self._row = ()
        # The ROWS that undo leads back to, and those that redo leads on to,
        # the next one last.
        self._past = []
        self._undone = []

    def say(self, text):
        """Do the lines of the text; BadText(line) ahead of all for the first one that is none."""
        row = self._row
        answers = []
        for kind, numbers in _lines(text):
            answer, row = _done(self._web, row, kind, numbers)
            answers.append(answer)
        if "done" in answers:
            self._past.append(self._row)
            self._undone = []
            self._row = row
        return tuple(answers)

    def web(self):
        """The WEB."""
        return self._web

    def row(self):
        """The ROW now."""
        return self._row

    def taking(self):
        """The TAKING by the ROW."""
        return taking_of(self._web, self._row)

    def undo(self):
        """Take back the last say that changed something, and tell how many can be taken back then."""
        if self._past == []:
            raise NothingDone()
        self._undone.append(self._row)
        self._row = self._past.pop()
        return len(self._past)

    def redo(self):
        """Do the say once more that was taken back last, and tell how many can be taken back then."""
        if self._undone == []:
            raise NothingDone()
        self._past.append(self._row)
        self._row = self._undone.pop()
        return len(self._past)

    def twin(self):
        """Another Desk like this one."""
        other = Desk(self._web)
        other._row = self._row
        other._past = list(self._past)
        other._undone = list(self._undone)
        return other

    def __eq__(self, other):
        return isinstance(other, Desk) and self._web == other._web and self._row == other._row


def _lines(text):
    """The list of the lines, each a pair of its first word and its numbers; BadText(line) for what is none."""
    found = []
    for line, told in enumerate(text.split("\n")):
        words = told.split(" ")
        kind = words[0]
        numbers = [_number_told(word) for word in words[1:]]
        if kind not in NUMBERS or len(numbers) != NUMBERS[kind] or None in numbers:
            raise BadText(line)
        found.append((kind, numbers))
    return found


def _number_told(word):
    """The number of the number word, None if it is none."""
    number = number_of(word)
    if number is None or number < 0 or len(word) > LONGEST_NUMBER:
        return None
    return number


def _done(web, row, kind, numbers):
    """The pair of the answer to a line of this kind and the ROW behind it."""
    refusal = _refusal(web, row, kind, numbers)
    if refusal is not None:
        return (refusal, row)
    if kind in ("come", "back", "drag"):
        return ("done", _changed(row, kind, numbers))
    return (_answer(web, row, kind, numbers), row)


def _refusal(web, row, kind, numbers):
    """The first refusal that fits, None if none does."""
    if kind == "place":
        return "no place" if numbers[0] >= web[0] else None
    if numbers == []:
        return None
    if numbers[0] >= len(web[1]):
        return "no guest"
    if kind == "come":
        return "here" if numbers[0] in row else None
    if numbers[0] not in row:
        return "away"
    return "too far" if kind == "drag" and numbers[1] >= len(row) else None


def _changed(row, kind, numbers):
    """The ROW behind a line that is not refused."""
    if kind == "come":
        return row + (numbers[0],)
    if kind == "back":
        return but_one(row, numbers[0])
    return put_in(row, numbers[0], numbers[1])


def _answer(web, row, kind, numbers):
    """The answer to a line that asks for something."""
    taking = taking_of(web, row)
    if kind == "seat":
        place = taking[numbers[0]]
        return "without" if place is None else str(place)
    if kind == "place":
        return str(taking.index(numbers[0])) if numbers[0] in taking else "free"
    if kind == "row":
        return _words_of(row)
    return _words_of(without_of(web, row) if kind == "without" else free_places(web, row))


def _words_of(numbers):
    """The number words of the numbers, parted by blanks."""
    return " ".join([str(number) for number in numbers]) if numbers else "none"

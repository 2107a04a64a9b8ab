"""Pictures of tables, and texts of webs with rows and lots."""

from leftwithout.checks import as_tuples, is_set_below
from leftwithout.errors import BadText, CanNot, Unfit
from leftwithout.runs import is_row_of
from leftwithout.signs import number_of, piece_of, pieces
from leftwithout.takings import is_taking, need_taking
from leftwithout.webs import is_guest_among, is_web, need_table_word, need_web, table_of

# The kinds of rows, in the order in which they stand.
KINDS = ("web", "guest", "row", "lot")

WANT_SIGNS = "<>"
SEAT_SIGNS = "<>."


def is_sheet(thing):
    """Whether thing is a SHEET."""
    if not isinstance(thing, tuple) or len(thing) != 3:
        return False
    web, rows, lots = thing
    if not is_web(web) or not isinstance(rows, tuple) or not isinstance(lots, tuple):
        return False
    return all([is_row_of(web, row) for row in rows]) and all([is_set_below(lot, len(web[1])) for lot in lots])


def sheet_text(sheet):
    """The text of the SHEET."""
    plain = as_tuples(sheet, 4)
    if not is_sheet(plain):
        raise Unfit()
    return _text_of_sheet(plain)


def read_sheet(text):
    """The SHEET of the text."""
    told = {own: [] for own in KINDS}
    for line, kind, numbers in _rows_of(text):
        if not _can_stand(told, kind, numbers):
            raise BadText(line)
        told[kind].append(numbers)
    if told["web"] == []:
        raise BadText(0)
    return (_web_told(told), tuple(told["row"]), tuple(told["lot"]))


def web_text(web):
    """The text of the WEB alone."""
    return _text_of_sheet((need_web(web), (), ()))


def read_web(text):
    """The WEB of the SHEET of the text."""
    return read_sheet(text)[0]


def picture(word, taking):
    """The picture of the WORD and the TAKING of its TABLE."""
    word = need_table_word(word)
    taking = need_taking(table_of(word), taking)
    wants = "".join([WANT_SIGNS[side] for side in word])
    seats = "".join([_seat_sign(guest, place) for guest, place in enumerate(taking)])
    return wants + "\n" + seats + "\n"


def read_picture(text):
    """The pair of the WORD and the TAKING of the picture."""
    lines = text.split("\n")
    ended = lines[-1] == ""
    if ended:
        lines = lines[:-1]
    _need_lines(lines, ended)
    many = len(lines[0])
    word = tuple([WANT_SIGNS.index(sign) for sign in lines[0]])
    taking = tuple([_seat_of(sign, guest, many) for guest, sign in enumerate(lines[1])])
    if not is_taking(table_of(word), taking):
        raise CanNot()
    return (word, taking)


def _text_of_sheet(sheet):
    """The text of what is sure to be a SHEET."""
    web, rows, lots = sheet
    told = [_row_text("web", (web[0],))]
    told.extend([_row_text("guest", pair) for pair in web[1]])
    told.extend([_row_text("row", row) for row in rows])
    told.extend([_row_text("lot", lot) for lot in lots])
    return "".join(told)


def _row_text(kind, numbers):
    """The row of this kind with these numbers."""
    return " ".join([kind] + [piece_of(number) for number in numbers]) + "\n"


def _rows_of(text):
    """The list of the rows of the text, each a triple of its line, its first piece, and the numbers behind it.

    For a piece that is no number piece stands None.
    """
    lines = {}
    for piece, line in pieces(text):
        lines.setdefault(line, []).append(piece)
    return [(line, row[0], tuple([number_of(piece) for piece in row[1:]])) for line, row in lines.items()]


def _can_stand(told, kind, numbers):
    """Whether a row of this kind is as told, and can stand behind those that are told already."""
    if kind not in KINDS or None in numbers:
        return False
    if any([told[later] != [] for later in KINDS[KINDS.index(kind) + 1:]]):
        return False
    if kind == "web":
        return told["web"] == [] and len(numbers) == 1 and numbers[0] >= 1
    if told["web"] == []:
        return False
    web = _web_told(told)
    if kind == "guest":
        return is_guest_among(web[0], numbers)
    return is_row_of(web, numbers) if kind == "row" else is_set_below(numbers, len(web[1]))


def _web_told(told):
    """The WEB of the rows that are told, of which one is of the kind web."""
    return (told["web"][0][0], tuple(told["guest"]))


def _seat_sign(guest, place):
    """The sign for a GUEST of a TABLE who has this PLACE, or None."""
    if place is None:
        return "."
    return "<" if place == guest else ">"


def _seat_of(sign, guest, many):
    """The PLACE, or None, for which the sign stands with this GUEST of a TABLE of so many."""
    if sign == ".":
        return None
    return guest if sign == "<" else (guest + 1) % many


def _need_lines(lines, ended):
    """Raise BadText(line) if these lines, the last one ended or not, are not those of a picture."""
    for line, signs in enumerate((WANT_SIGNS, SEAT_SIGNS)):
        if len(lines) <= line or not _is_line(lines[line], len(lines[0]), signs):
            raise BadText(line)
    if len(lines) > 2:
        raise BadText(2)
    if not ended:
        raise BadText(1)


def _is_line(line, many, signs):
    """Whether the line has two or more of these signs alone, and as many as told."""
    return len(line) >= 2 and len(line) == many and all([sign in signs for sign in line])

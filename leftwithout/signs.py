"""Pieces of a text, and number pieces."""

from leftwithout.checks import as_tuples, is_number
from leftwithout.errors import BadText, Unfit

FIGURES = "0123456789"
PIECE_SIGNS = "abcdefghijklmnopqrstuvwxyz0123456789-"
MOST_FIGURES = 12


def pieces(text):
    """The PIECES of the text; BadText(line) for the first line with a wrong sign."""
    found = []
    for line, row in enumerate(text.split("\n")):
        for piece in row.split("#")[0].split(" "):
            if piece == "":
                continue
            if not _is_piece(piece):
                raise BadText(line)
            found.append((piece, line))
    return found


def text_of(pieces):
    """The text with each piece in its line."""
    pieces = _need_pieces(pieces)
    if pieces == ():
        return ""
    last_line = pieces[-1][1]
    rows = [[] for _ in range(last_line + 1)]
    for piece, line in pieces:
        rows[line].append(piece)
    return "".join([" ".join(row) + "\n" for row in rows])


def number_of(piece):
    """The number of a number piece, None if the piece is none."""
    figures = piece.removeprefix("-")
    if not 1 <= len(figures) <= MOST_FIGURES:
        return None
    if not _has_only(figures, FIGURES):
        return None
    number = int(piece)
    # A needless 0 ahead, or a needless "-", does not come back.
    return number if piece_of(number) == piece else None


def piece_of(number):
    """The number piece of the number."""
    return str(number)


def _has_only(text, signs):
    """Whether each sign of the text is one of these signs."""
    return all([sign in signs for sign in text])


def _is_piece(value):
    """Whether value is a piece."""
    return isinstance(value, str) and value != "" and _has_only(value, PIECE_SIGNS)


def _is_piece_in_line(value):
    """Whether value is a pair (piece, line)."""
    if not isinstance(value, tuple) or len(value) != 2:
        return False
    piece, line = value
    return _is_piece(piece) and is_number(line) and line >= 0


def _need_pieces(value):
    """The PIECES as a tuple of pairs; Unfit() if value is none."""
    found = as_tuples(value, 2)
    if not isinstance(found, tuple) or not all([_is_piece_in_line(own) for own in found]):
        raise Unfit()
    lines = [line for _, line in found]
    if lines != sorted(lines):
        raise Unfit()
    return found

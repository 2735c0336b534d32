"""A desk: requests, worked from top to bottom on a Board."""

from everysource.board import Board
from everysource.drawings import form_mean, form_spread
from everysource.errors import BadLine, CanNot, NoPlace, NothingDone, TooMuch, Unfit
from everysource.figures import fraction_text, number_text
from everysource.forms import is_kinds, kind_samples
from everysource.proglines import program_by
from everysource.programs import law_of
from everysource.quotients import summed
from everysource.sources import even_source
from everysource.wishes import is_moment
from everysource.wordings import (
    count_by, form_text, kinds_by, kinds_text, moments_by, numbers_by, numbers_text, rows_by, share_by, terms_by,
    truth_text, wish_text, words_text,
)

# What stands behind the word of a request: numbers, words, or all the rest of the line.
SHAPES = {
    "board": ("number", "rest"), "want": ("word", "rest"), "more": ("number",), "less": ("number",),
    "drop": ("number",), "rename": ("number", "rest"), "join": ("number", "number", "word"), "back": ("number",),
    "undo": (), "take": ("rest",), "program": (), "mark": (), "tickets": (), "seats": (), "right": (),
    "error": ("number",), "same": ("number", "number"), "apart": ("number", "number"), "changed": ("number",),
    "kinds": (), "wish": (), "form": ("number",), "mean": ("number", "rest"), "spread": ("number", "rest"),
}


def is_request(thing):
    if not isinstance(thing, str):
        return False
    head, *rows = thing.split("\n")
    return all(row.startswith(" ") for row in rows) and request_of(head, rows) is not None


def request_of(head, rows):
    """The request with this first line and these lines of a text: its word and its parts; None if it is none."""
    word, blank, rest = head.partition(" ")
    if word not in SHAPES or (word == "program") != (len(rows) > 0):
        return None
    parts = []
    for shape in SHAPES[word]:
        part, blank, rest = (rest, "", "") if shape == "rest" else rest.partition(" ")
        if part == "" or (shape == "number" and count_by(part) is None):
            return None
        parts.append(count_by(part) if shape == "number" else part)
    if word == "program":
        parts.append("\n".join([row[1:] for row in rows]))
    return None if blank else (word, parts)


def desk(text):
    requests = requests_of(text)
    work = Work()
    return [work.reply(word, parts) for word, parts in requests]


def requests_of(text):
    """The list of the requests; raises BadLine for the first one that is none."""
    rows, begun = text.split("\n") if text else [], []
    for place, row in enumerate(rows):
        if begun and row.startswith(" "):
            begun[-1][2].append(row)
        else:
            begun.append((place + 1, row, []))
    out = []
    for line, head, own in begun:
        request = request_of(head, own)
        if request is None:
            raise BadLine(line)
        out.append(request)
    return out


def found(value):
    """What was read; raises BadLine for None, that is, if it is not as described. The reply tells no line."""
    if value is None:
        raise BadLine(1)
    return value


class Work:
    """The Board that a desk holds, and the count of its columns."""

    def __init__(self):
        self.c = 1
        self.board = Board(1, (((0,), 1),))

    def reply(self, word, parts):
        try:
            return self.answer(word, parts)
        except BadLine:
            return "refused BadLine"
        except NoPlace:
            return "refused NoPlace"
        except NothingDone:
            return "refused NothingDone"
        except CanNot:
            return "refused CanNot"
        except TooMuch:
            return "refused TooMuch"
        except Unfit:
            return "refused Unfit"

    def answer(self, word, parts):
        if word in ("board", "want", "rename", "join", "take", "program", "mean", "spread"):
            return self.answer_read(word, parts)
        if word in ("tickets", "seats", "right", "kinds", "wish"):
            return self.answer_plain(word)
        if word in ("undo", "mark"):
            return self.answer_deed(word)
        if word in ("same", "apart"):
            return self.answer_both(word, parts[0], parts[1])
        return self.answer_number(word, parts[0])

    def answer_plain(self, word):
        if word == "tickets":
            return numbers_text(self.board.tickets())
        if word == "seats":
            return truth_text(self.board.can_tell())
        if word == "right":
            return numbers_text(self.board.right_tickets())
        return kinds_text(self.board.kinds()) if word == "kinds" else wish_text(self.board.wish())

    def answer_deed(self, word):
        if word == "mark":
            return number_text(self.board.mark())
        self.board.undo()
        return "done"

    def answer_both(self, word, ticket, other):
        if word == "same":
            return truth_text(self.board.same(ticket, other))
        return truth_text(self.board.apart(ticket, other))

    def answer_number(self, word, number):
        if word == "more":
            return number_text(self.board.more(number))
        if word == "error":
            return wish_text(self.board.error(number))
        if word == "changed":
            return words_text(self.board.changed(number))
        if word == "form":
            return form_text(self.board.form(number))
        if word == "less":
            self.board.less(number)
        elif word == "drop":
            self.board.drop(number)
        else:
            self.board.back(number)
        return "done"

    def answer_read(self, word, parts):
        """The answer to a request with parts that are read first, whatever the Board holds."""
        if word == "take":
            return self.take(found(terms_by(parts[0])))
        if word == "program":
            return self.take_program(program_by(parts[0]))
        if word == "board":
            self.begin(parts[0], found(kinds_by(parts[1])))
        elif word == "want":
            self.want(found(share_by(parts[0])), found(moments_by(parts[1])))
        elif word == "rename":
            self.board.rename(parts[0], found(numbers_by(parts[1])))
        elif word == "join":
            self.board.join(parts[0], parts[1], found(share_by(parts[2])))
        else:
            return self.told_at(word, parts[0], found(rows_by(parts[1])))
        return "done"

    def begin(self, c, kinds):
        if not is_kinds(kinds, c):
            raise Unfit()
        self.c = c
        self.board = Board(c, kinds)

    def want(self, share, moments):
        if not all(is_moment(moment, self.c) for moment in moments):
            raise Unfit()
        self.board.want(tuple(sorted(moments)), share)

    def take(self, terms):
        many = len(kind_samples(self.board.kinds()))
        for powers, _ in terms:
            if len(powers) != many or not all(len(own) == self.c for own in powers):
                raise Unfit()
        return number_text(self.board.take(summed(terms)))

    def take_program(self, program):
        if len(program[0]) != self.c:
            raise Unfit()
        teller = law_of(program)
        if len(teller) > 1 or len(teller[0][0]) > 1:
            raise Unfit()
        return number_text(self.board.take(teller[0][0][0]))

    def told_at(self, word, ticket, rows):
        """The mean or the spread of a FORM where each of the rows is drawn alike."""
        form, n = self.board.form(ticket), len(kind_samples(self.board.kinds()))
        if not all(len(row) == self.c for row in rows):
            raise Unfit()
        source = even_source(rows)
        return fraction_text(form_mean(form, source, n) if word == "mean" else form_spread(form, source, n))

import unittest
from fractions import Fraction

import slow
from calls import check_call, outcome
from everysource.desk import desk, is_request
from everysource.errors import BadLine
from everysource.proglines import program_text
from everysource.programs import law_of
from own_board import OwnBoard, Refused, is_kinds_for
from slow_programs import Writer, counts, told_chances
from test_board import Deeds

UNIT = (1, 1)
NINE, TEN = "9" * 9, "1" * 10


def fraction_text(x, drawn=None):
    top, bottom = x
    if drawn and drawn.number(0, 4) == 0:
        many = drawn.number(1, 3)
        return ("-" if top < 0 else "") + "0" * drawn.number(0, 2) + f"{abs(top) * many}/{bottom * many}"
    return str(top) if bottom == 1 else f"{top}/{bottom}"


def numbers_text(numbers):
    return " ".join(map(str, numbers))


def moments_text(moments):
    return ", ".join(map(numbers_text, moments)) or "-"


def kinds_text(kinds):
    return " | ".join(f"{many}: {numbers_text(seen)}" for seen, many in kinds)


def wish_text(wish):
    return " | ".join(f"{fraction_text(x)} {moments_text(factors)}" for factors, x in wish) or "-"


def form_text(form, drawn=None):
    return " | ".join(f"{fraction_text(x, drawn)}: {moments_text(powers)}" for powers, x in form) or "-"


def request_text(name, args, drawn):
    """How the request for a deed or a question is written."""
    if name == "want":
        factors, share = args
        return f"want {fraction_text(share, drawn)} {moments_text(drawn.random.sample(factors, len(factors)))}"
    if name == "take":
        return "take " + form_text(args[0], drawn)
    if name == "rename":
        return f"rename {args[0]} {numbers_text(args[1])}"
    if name == "join":
        return f"join {args[0]} {args[1]} {fraction_text(args[2], drawn)}"
    return numbers_text((WORDS.get(name, name),) + args)


WORDS = {"can_tell": "seats", "right_tickets": "right"}


def reply_text(name, value):
    """How what a method returns is replied."""
    if name in ("kinds", "wish", "form", "error"):
        return {"kinds": kinds_text, "wish": wish_text, "error": wish_text, "form": form_text}[name](value)
    if name in ("can_tell", "same", "apart"):
        return "yes" if value else "no"
    if name in ("tickets", "right_tickets", "changed"):
        return numbers_text(value) or "-"
    if name in ("mean", "spread"):
        return fraction_text(slow.pair(value))
    return "done" if value is None else str(value)


class OwnDesk:
    """Requests, each with the reply by a Board of the tests' own."""

    def __init__(self, seed):
        self.deeds = Deeds(seed, 1)
        self.things, self.writer = self.deeds.things, Writer(seed, 2, 4)
        self.board = OwnBoard(1, (((0,), 1),))

    def step(self):
        kind = self.things.number(0, 19)
        if kind == 0:
            return self.new_board()
        if kind == 1:
            return self.program()
        if kind < 5:
            return self.at_rows()
        if kind < 10:
            name, args = self.things.choice(("kinds", "wish", "tickets", "can_tell", "right_tickets")), ()
        else:
            name, args = self.deeds.drawn(self.board)
        if any(isinstance(arg, int) and arg < 0 for arg in args) or (name == "rename" and (not args[1] or min(args[1]) < 0)):
            return self.step()
        return request_text(name, args, self.things), self.reply(name, args)

    def reply(self, name, args):
        try:
            return reply_text(name, getattr(self.board, name)(*args))
        except Refused as error:
            return "refused " + error.name

    def new_board(self):
        c = self.things.number(1, 2)
        kinds = slow.kinds_of(self.things, c, 3)
        said = self.things.random.sample(kinds, len(kinds))
        kind = self.things.number(0, 5)
        if kind == 0:
            c = c - 1
        elif kind == 1:
            kinds = said = kinds + kinds[:1]
        reply = "refused Unfit"
        if is_kinds_for(sorted(kinds), c):
            self.board, self.deeds.c, reply = OwnBoard(c, sorted(kinds)), c, "done"
        return f"board {c} {kinds_text(said)}", reply

    def program(self):
        program = self.writer.program()
        text = "program\n" + "\n".join(" " + row for row in program_text(program).split("\n"))
        teller = law_of(program)
        if len(program[0]) != self.board.c or len(teller) > 1 or len(teller[0][0]) > 1:
            return text, "refused Unfit"
        return text, self.reply("take", teller[0][0])

    def at_rows(self):
        name = self.things.choice(("mean", "spread"))
        c = self.board.c + (self.things.number(0, 9) == 0)
        rows = tuple(self.things.row(c) for _ in range(self.things.number(1, 3)))
        ticket = max(self.deeds.ticket(self.board), 0)
        text = " | ".join(" ".join(fraction_text(x, self.things) for x in row) for row in rows)
        try:
            reply = reply_text(name, self.board.mean_at(ticket, rows, name == "spread"))
        except Refused as error:
            reply = "refused " + error.name
        return f"{name} {ticket} {text}", reply


class DeskTest(unittest.TestCase):

    def test_examples(self):
        text = ("kinds\nwant 1 2\nwant -1 1, 1\nwish\nseats\nmore 0\nseats\ntake 1/2: 2, 0 | -1: 1, 1 | 1/2: 0, 2\nright\n"
                "spread 0 0 | 1")
        replies = ["1: 0", "done", "done", "-1 1, 1 | 1 2", "no", "1", "yes", "0", "0", "1/16"]
        self.assertEqual(desk(text), replies)
        check_call(self, desk, text)
        rows = text.split("\n")
        for k in range(len(rows)):
            self.assertEqual(desk("\n".join(rows[:k])), replies[:k])
        check_call(self, desk, "kinds\nlook")

    def test_against_a_board_of_our_own(self):
        words = {}
        for seed in range(120):
            own = OwnDesk(seed)
            steps = [own.step() for _ in range(30)]
            text = "\n".join(request for request, _ in steps)
            replies = desk(text)
            for place, (request, reply) in enumerate(steps):
                self.assertEqual(replies[place], reply, (seed, place, request))
                self.assertIs(is_request(request), True, request)
                words[request.split(" ")[0].split("\n")[0], reply.startswith("refused")] = True
            self.assertEqual(len(replies), len(steps))
        for word in ("board", "want", "more", "less", "drop", "rename", "join", "back", "undo", "take", "program", "mark",
                     "tickets", "seats", "right", "error", "same", "apart", "changed", "kinds", "wish", "form", "mean", "spread"):
            self.assertIn((word, False), words)

    def test_programs(self):
        writer, taken = Writer(7, 3, 4), 0
        for _ in range(80):
            program = writer.program()
            c, n = len(program[0]), counts(program)[0]
            if n == 0:
                continue
            columns = " ".join(map(str, range(c)))
            rows = tuple(writer.things.row(c, 2) for _ in range(2))
            ahead = f"board {c} {n}: {columns}\nprogram\n" + "\n".join(" " + row for row in program_text(program).split("\n"))
            ask = "mean 0 " + " | ".join(" ".join(fraction_text(x) for x in row) for row in rows)
            replies = desk(ahead + "\nform 0\n" + ask)
            teller = law_of(program)
            if len(teller) > 1 or len(teller[0][0]) > 1:
                self.assertEqual(replies, ["done", "refused Unfit", "refused NoPlace", "refused NoPlace"])
                continue
            taken += 1
            table = told_chances(program, slow.even_rows(rows))
            mean = sum((slow.exact(numbers[0]) * x for numbers, x in table.items()), Fraction(0))
            self.assertEqual(replies, ["done", "0", form_text(teller[0][0][0]), fraction_text(slow.pair(mean))])
        self.assertGreater(taken, 20)

    def test_program_requests(self):
        for text, replies in (
                ("program\n columns x\n main draws 1\n   tell x.0\nform 0", ["0", "1: 1"]),
                ("program\n columns y\n one draws 1\n   tell y.0^2\n main draws 1\n   a from one on 0\n   tell 3*a\nform 0", ["0", "3: 2"]),
                ("program\n columns x\n main draws 1\n   tell x.0 - x.0\nform 0", ["0", "-"]),
                ("program\n columns x\n main draws 2\n   tell x.0 - x.0\nform 0", ["0", "-"]),
                ("program\n columns x\n main draws 2\n   tell x.0\ntickets", ["refused Unfit", "-"]),
                ("program\n columns x\n main draws 0\n   tell 1", ["refused Unfit"]),
                ("program\n columns x y\n main draws 1\n   tell x.0", ["refused Unfit"]),
                ("program\n columns x\n main draws 1\n   tell x.0\n   tell x.0", ["refused Unfit"]),
                ("program\n columns x\n main draws 1\n   throw a: 1/2: 0 | 1/2: x.0\n   tell a", ["refused Unfit"]),
                ("program\n columns x\n main draws 1\n   throw a: 1/2: 0 | 1/2: x.0\n   tell 2*x.0\nform 0", ["0", "2: 1"]),
                ("program\n columns x\n main draws 1\n   tell x.1", ["refused BadLine"]),
                ("program\n columns x\n main draws 1\n  tell x.0", ["refused BadLine"]),
                ("program\n ", ["refused BadLine"]), ("program\n \n ", ["refused BadLine"]), ("program\n x", ["refused BadLine"]),
                ("program\n columns x", ["refused BadLine"]), ("program\n columns x\n main draws 1", ["refused BadLine"]),
                ("program\n columns x\n main draws 1\n   tell x.0\n ", ["refused BadLine"]),
                ("program\n columns x\r\n main draws 1\n   tell x.0", ["refused BadLine"]),
                ("program\n columns x y\n main draws 1\n   tell x.7", ["refused BadLine"]),
                ("board 2 1: 0 | 1: 1\nprogram\n columns x y\n main draws 2\n   tell x.0*y.1\n"
                 "program\n columns x y\n main draws 2\n   tell x.1\ntickets", ["done", "0", "refused Unfit", "0"])):
            self.assertEqual(desk(text), replies, text)
        self.assertEqual(desk("program\n columns x\n main draws 1\n   tell " + "(" * 150), ["refused BadLine"])


class RefusedTest(unittest.TestCase):

    def reply(self, request, ahead=""):
        return desk(ahead + request)[-1]

    def test_order(self):
        ahead = "board 2 1: 0 | 1: 0 1\ntake 1: 1 0, 0 1\n"
        for request, name in (
                ("mean 5 x", "BadLine"), ("mean 5 1", "NoPlace"), ("mean 0 1", "Unfit"), ("mean 0 1 1 | 1", "Unfit"),
                ("spread 5 1/0 1", "BadLine"), ("spread 5 1 1 1", "NoPlace"), ("spread 0 1 1 1", "Unfit"), ("mean 5 0 0", "NoPlace"),
                ("rename 5 x", "BadLine"), ("rename 5 0 0", "NoPlace"), ("rename 0 0 0", "Unfit"), ("rename 0 0", "Unfit"),
                ("rename 0 1 0", "Unfit"), ("join 5 6 1/0", "BadLine"), ("join 5 0 1", "NoPlace"), ("join 0 5 1", "NoPlace"),
                ("want 1/0 1", "BadLine"), ("want 1 1", "Unfit"), ("want 1 0 0", "Unfit"), ("want 1 1 0, 0 0", "Unfit"),
                ("want x 0", "BadLine"), ("want 1 1 0 1", "Unfit"), ("take 1: 1 0", "Unfit"), ("take 1: 1 0, 0 1, 0 0", "Unfit"),
                ("take 1: 0 1, 0 0", "Unfit"), ("take 1: 1, 0", "Unfit"), ("take 0: 1", "Unfit"), ("take 0: 1 0", "Unfit"), ("take 0: 1, 0", "Unfit"),
                ("take 1: 1 0 | -1: 1 0", "Unfit"), ("take 0: 1 0, 0 1, 0 0", "Unfit"), ("take 0: 1 0 0, 0 1", "Unfit"),
                ("take 1: -", "Unfit"),
                ("take 1: 1 0, 0 1 | x", "BadLine"), ("take 1: 1 0 | 1/0: 1", "BadLine"), ("board 0 1: 0", "Unfit"),
                ("board 0 x", "BadLine"), ("board 1 1: 1", "Unfit"), ("board 2 1: 1 0", "Unfit"), ("board 2 0: 0", "Unfit"),
                ("board 2 1: 0 | 1: 0", "Unfit"), ("board 2 1: 0 0", "Unfit"), ("back 0", "NoPlace"), ("changed 0", "NoPlace"),
                ("more 2", "NoPlace"), ("less 2", "NoPlace"), ("less 0", "CanNot"), ("drop 1", "NoPlace"), ("form 1", "NoPlace"),
                ("error 1", "NoPlace"), ("same 0 1", "NoPlace"), ("apart 1 0", "NoPlace")):
            self.assertEqual(self.reply(request, ahead), "refused " + name, request)
            # What is refused changes nothing.
            before = desk(ahead + "kinds\nwish\ntickets\nform 0\nundo\ntickets\nundo")
            after = desk(ahead + request + "\nkinds\nwish\ntickets\nform 0\nundo\ntickets\nundo")
            self.assertEqual(after, before[:2] + ["refused " + name] + before[2:], request)
        self.assertEqual(desk("undo"), ["refused NothingDone"])
        self.assertEqual(desk("board 2 1: 0\nundo\nmark\nboard 1 1: 0\nback 0"), ["done", "refused NothingDone", "0", "done", "refused NoPlace"])
        many = "board 1 6: 0\ntake 1: 1, 1, 1, 1, 1, 1\n"
        self.assertEqual(desk(many + "mean 0 0 | 1 | 2 | 3 | 4\nspread 0 0 | 1 | 2 | 3 | 4\napart 0 0\nmean 0 1 | 1 | 1\nmean 0 1 2"),
                         ["done", "0", "refused TooMuch", "refused TooMuch", "refused TooMuch", "1", "refused Unfit"])

    def test_shares(self):
        for text, said in (("1", "1"), ("-1", "-1"), ("2/4", "1/2"), ("-06/4", "-3/2"), ("007", "7"), ("9" * 40, "9" * 40),
                           ("-" + "9" * 40 + "/" + "7" * 40, "-9/7"), ("8/4", "2"), ("0" * 39 + "1/" + "0" * 39 + "3", "1/3")):
            self.assertEqual(desk(f"want {text} 1\nwish"), ["done", said + " 1"], text)
            self.assertEqual(desk(f"take {text}: 1\nform 0"), ["0", said + ": 1"])
            self.assertEqual(desk(f"take 1: 1\njoin 0 0 {text}\nmean 0 1"), ["0", "done", fraction_text(slow.pair(1 + Fraction(said)))])
            self.assertEqual(desk(f"take 1: 1\nmean 0 {text}"), ["0", said])
        for text in ("0", "-0", "00", "0/7", "-000/009"):
            self.assertEqual(desk(f"want {text} 1\nwish\nundo\nundo"), ["done", "-", "done", "refused NothingDone"], text)
            self.assertEqual(desk(f"take {text}: 1\nform 0\nmean 0 5"), ["0", "-", "0"])
        for text in ("1/0", "1/00", "--1", "-", "+1", "1/", "/1", "1/-2", "1/2/3", "1.5", "x", "9" * 41, "1/" + "9" * 41, "0" * 41,
                     "\u0663", "1,", "1/2-", "1\t", "1\r", "-/1", "- 1"):
            if " " not in text:
                self.assertEqual(desk(f"want {text} 1"), ["refused BadLine"], text)
                self.assertEqual(desk(f"join 7 8 {text}"), ["refused BadLine"])
            self.assertEqual(desk(f"take {text}: 1"), ["refused BadLine"])
            self.assertEqual(desk(f"mean 7 {text}"), ["refused BadLine"])

    def test_wrong_parts(self):
        for moments in ("x", "1,1", "1 , 1", "1,  1", " 1", "1 ", "1,", ", 1", "-1", "1, -", "-, 1", "--", "01", "1, 00", TEN, "1.0", "1  1",
                        "1\t", "1\r", "1 | 1", "1;", "\u0663", "1/1"):
            self.assertEqual(desk("want 1 " + moments), ["refused BadLine"], moments)
            self.assertEqual(desk("take 1: " + moments)[0], "refused BadLine", moments)
        self.assertEqual(desk(f"want 1 {NINE}\nwish"), ["done", "1 " + NINE])
        for terms in ("x", "1", "1:", "1: ", "1:1", "1 : 1", " 1: 1", "1: 1 |", "1: 1 | ", "| 1: 1", "1: 1|1: 2", "1: 1 |  1: 2", "- | 1: 1",
                      "1: 1 | -", "--", "1: 1: 1", "1: 1 | 1: 1 ", "-: 1", ": 1", "1: 1\r"):
            self.assertEqual(desk("take " + terms), ["refused BadLine"], terms)
        self.assertEqual(desk("take 1: 1 | -2: 0 | 1: 1 | 1: 2 | -1: 2 | 0: 5\nform 0"), ["0", "-2: 0 | 2: 1"])
        self.assertEqual(desk("take -\nform 0\nerror 0\nright"), ["0", "-", "-", "0"])
        for kinds in ("x", "1", "1:", "1: ", "1:0", ": 0", "1 : 0", " 1: 0", "1: 0 ", "1:  0", "1: 0 |", "1: 0|1: 1", "1: 0 |  1: 1", "-",
                      "01: 0", "1: 00", "-1: 0", "1: -1", "1: 0, 1", "1: a", TEN + ": 0", "1: " + TEN, "1: 0 | -", "1/1: 0", "1: 0\r"):
            self.assertEqual(desk("board 2 " + kinds), ["refused BadLine"], kinds)
        self.assertEqual(desk("board 3 2: 0 2 | 1: 0 | 3: 1\nkinds"), ["done", "1: 0 | 2: 0 2 | 3: 1"])
        self.assertEqual(desk(f"board {NINE} 1: 999999998\nkinds"), ["done", "1: 999999998"])
        for numbers in ("x", "0,1", "0  1", " 0", "0 ", "-", "00", "01", TEN, "0 -1", "0/1", "0\t1", "0\r"):
            self.assertEqual(desk("take 1: 1\nrename 0 " + numbers), ["0", "refused BadLine"], numbers)
        for rows in ("x", "1 |", "1|1", "1 |  1", "| 1", " 1", "1 ", "1  1", "-", "1, 1", "1: 1", "1 | -", "1\r"):
            self.assertEqual(desk("take 1: 1\nmean 0 " + rows), ["0", "refused BadLine"], rows)

    def test_replies(self):
        ahead = "board 2 1: 0 1 | 2: 1\n"
        for requests, replies in (
                ("want -3/2 -\nwant 1 0 1, 1 0\nwant 2/3 1 1\nwish", ["done", "done", "done", "-3/2 - | 1 0 1, 1 0 | 2/3 1 1"]),
                ("take -1/2: 0 0, 0 0, 0 0 | 3: 0 1, 1 1, 0 2\nform 0", ["refused Unfit", "refused NoPlace"]),
                ("take -1/2: 0 0, 0 0, 0 0 | 3: 1 1, 0 1, 0 2\nform 0\nerror 0",
                 ["0", "-1/2: 0 0, 0 0, 0 0 | 3: 1 1, 0 1, 0 2", "-1/2 - | 3 0 1, 0 2, 1 1"]),
                ("tickets\nright\nwish\ntake -\ntake 1: 1 0, 0 0, 0 0\ntake -\ntickets\nright\nerror 1\nerror 2\ndrop 0\ntickets",
                 ["-", "-", "-", "0", "1", "2", "0 1 2", "0 2", "1 1 0", "-", "done", "1 2"]),
                ("mark\nmark\nchanged 1\ntake -\nwant 1 1 0, 2 0\nseats\nchanged 0\nright\nback 1\nchanged 0\ntickets\nundo\ntickets",
                 ["0", "1", "-", "0", "done", "no", "seats", "-", "done", "-", "-", "done", "0"]),
                ("take 1: 1 0, 0 0, 0 0\nmark\nwant 1 1 0\nchanged 0\nwant 1 2 0, 2 0\nchanged 0\nwant -1 1 0\nchanged 0",
                 ["0", "0", "done", "right", "done", "seats", "done", "seats"]),
                ("take 1: 0 1, 0 0, 0 0\ntake 1: 0 0, 0 1, 0 0\nsame 0 1\napart 0 1\napart 0 0\nrename 0 2 1 0\nform 0\nsame 0 1",
                 ["0", "1", "yes", "yes", "no", "done", "1: 0 0, 0 0, 0 1", "yes"]),
                ("take 1: 0 1, 0 0, 0 0\nmore 0\nmore 1\nform 0\nkinds\nless 1\nless 0\nkinds\nrename 0 0 1 2\nless 0",
                 ["0", "1", "4", "1: 0 1, 0 0, 0 0, 0 0, 0 0", "2: 0 1 | 3: 1", "done", "done", "1: 0 1 | 2: 1", "done", "refused CanNot"]),
                ("take 1: 1 1, 0 0, 0 0\nmean 0 1 2 | -1/2 3\nspread 0 1 2 | -1/2 3\njoin 0 0 -1\nspread 0 1 2", ["0", "1/4", "49/16", "done", "0"])):
            self.assertEqual(desk(ahead + requests), ["done"] + replies, requests)
        great = "9" * 40
        reply = desk(f"board 1 3: 0\ntake {great}: 8, 8, 8\nspread 0 {great}/7 | -{great}/11 | 3/{great}")[-1]
        top, _, bottom = reply.partition("/")
        self.assertGreater(len(top), 1900)
        self.assertTrue((top + bottom).isdigit())
        self.assertEqual(desk("take 1: 200\nmean 0 " + "1" + "0" * 39)[-1], "1" + "0" * 7800)
        self.assertEqual(desk("take 1: 200\nmean 0 -1" + "0" * 30 + "/9" + "0" * 38 + "1")[-1][:3], "100")


class RequestsTest(unittest.TestCase):

    def bad(self, text, line):
        self.assertEqual(outcome(desk, (text,), {}), ("error", BadLine, {"line": line}), text)

    def test_bad_lines(self):
        self.assertEqual(desk(""), [])
        for text, line in (
                ("\n", 1), (" ", 1), (" kinds", 1), ("kinds\n", 2), ("kinds\n\n", 2), ("kinds\n\nkinds", 2), ("\nkinds", 1),
                ("kinds\nundo\n", 3), ("look", 1), ("kinds\nlook\nkinds\nmore", 2), ("kinds\r", 1), ("kinds\r\nkinds", 1),
                ("kinds\n\tkinds", 2), ("kinds\n x", 1), ("wish\nkinds\n x\nlook", 2), ("program", 1), ("kinds\nprogram\nkinds", 2),
                ("program\n\n columns x", 1), ("program\n \n\n x", 3), ("program x\n columns x", 1), ("kinds\nmore 0\n ", 2),
                ("undo\n \nlook", 1), ("Kinds", 1), ("kinds ", 1), ("more", 1), ("more ", 1), ("more x", 1), ("more 01", 1),
                ("more 0 0", 1), ("more -1", 1), ("more " + TEN, 1), ("more \u0663", 1), ("want 1", 1), ("want 1 ", 1), ("want  1", 1),
                ("want", 1), ("join 0 0", 1), ("join 0 0 ", 1), ("join 0 0 1 ", 1), ("join 0 0  1", 1), ("join 0 0 1 2", 1),
                ("join x 0 1", 1), ("take", 1), ("take ", 1), ("rename 0", 1), ("rename 0 ", 1), ("mean 0", 1), ("mean x 1", 1),
                ("mean 1", 1), ("board 1", 1), ("board 1 ", 1), ("board 01 1: 0", 1), ("board x 1: 0", 1), ("board -1 1: 0", 1),
                ("mark 0", 1), ("form", 1), ("form 0 1", 1), ("same 0", 1), ("same 0 1 2", 1), ("changed", 1), ("back -1", 1),
                ("error 0 ", 1), ("tickets -", 1), ("tell 1", 1), ("done", 1), ("- 1", 1), ("1", 1), ("more 0\r", 1),
                ("kinds\nmore 0\nmore 0\nmore 00", 4), ("program\n columns x\nlook\nmore", 3), ("program\n look\nlook", 3)):
            self.bad(text, line)
        # Ahead of all else: whatever else is asked for is not done, and not refused either.
        self.bad("undo\nmore 7\nwant 1/0 x\nlook\nmore", 4)

    def test_shapes(self):
        for request in ("board 1 x", "board 0 1: 0", "board 999999999 ?", "want x y", "want 1 -", "want 1  2", "want 1/0 1 ", "want -- x y z",
                        "more 0", "less 999999999", "drop 0", "rename 0 x", "rename 5 1 0", "rename 5  1", "join 0 1 x", "join 9 8 1/0",
                        "back 3", "undo", "take x", "take -", "take  1: 1", "take \t", "program\n ", "program\n columns x", "program\n \n x",
                        "program\n  \n   x\n x", "mark", "tickets", "seats", "right", "error 0", "same 0 1", "apart 5 5", "changed 12",
                        "kinds", "wish", "form 0", "mean 0 x", "mean 0  ", "spread 7 1 | 2", "want \t \t", "take 1: 1\r", "want \u00e4 \u0663",
                        "board 7 \u2028"):
            self.assertIs(is_request(request), True, request)
            check_call(self, is_request, request)
            self.assertEqual(len(desk(request)), 1)
        for thing in ("", " ", "\n", "look", "undo ", " undo", "undo\n", "undo\nundo", "undo\n x", "undo 1", "Undo", "program", "program ",
                      "program\n", "program\nx", "program x\n x", "program\n x\n", "program\n x\ny", "program \n x", "more", "more 00", "more x",
                      "more 0 ", "more 0\n x", "more 0\r", "more " + TEN, "more \u0663", "more 0 0", "want 1", "want  1", "want 1 ", "want",
                      "join 0 0 1 1", "join 0 0 ", "join 0 0", "take", "take ", "board 1", "board 1 ", "board 01 x", "rename 0", "rename 0 ",
                      "rename x 0", "mean 0", "mean 0 ", "mean x 0", "same 0", "same 0 1 ", "take 1: 1\n", "take 1: 1\n x", "kinds\n \n"):
            self.assertIs(is_request(thing), False, thing)
            check_call(self, is_request, thing)
        for thing in slow.STRANGE + (["undo"], ("undo",), b"undo", [], {}):
            self.assertIs(is_request(thing), False, thing)


if __name__ == "__main__":
    unittest.main()

import unittest

import slow
from calls import check_call, outcome
from everysource.errors import BadLine
from everysource.proglines import program_by, program_text
from everysource.programs import is_program, law_of, program_of
from slow_programs import Writer, counts, told_chances

HALF, UNIT = (1, 2), (1, 1)
ONE, TWO = ("number", UNIT), ("number", (2, 1))
X0, X1, A, B = ("at", "x", 0), ("at", "x", 1), ("name", "a"), ("name", "b")
HEAD = "columns x y\nmain draws 2\n  a = x.0\n  b = y.1\n"
DRAWER = "columns x\npair draws 2\n  tell x.0 - x.1\nm draws 1\n  a from pair\n  tell a*x.0 + (2/4)"


def term_of(text):
    """The TERM of a tell in a routine that draws two samples and has names a, b."""
    return program_by(HEAD + "  tell " + text)[1][0][2][-1][1]


def text_of(term):
    columns, ((title, draws, rows),) = program_by(HEAD + "  tell 1")
    return program_text((columns, ((title, draws, rows[:-1] + (("tell", term),)),))).split("\n")[-1][7:]


class LineTest(unittest.TestCase):

    def bad(self, text, line):
        self.assertEqual(outcome(program_by, (text,), {}), ("error", BadLine, {"line": line}), text)

    def test_examples(self):
        tosser = program_by("columns x\nmain draws 2\n  throw c: 1/2: x.0 | 1/2: x.1\n  tell c")
        self.assertEqual(tosser, (("x",), (("main", 2, (
            ("throw", ("c",), ((HALF, (X0,)), (HALF, (X1,)))), ("tell", ("name", "c")))),)))
        drawer = program_by(DRAWER)
        self.assertEqual(program_text(drawer), DRAWER.replace("(2/4)", "1/2"))
        check_call(self, program_by, DRAWER)
        check_call(self, program_text, drawer)
        check_call(self, program_text, tosser)
        self.bad("columns x\nmain draws 1\n  tell x.1", 3)

    def test_each_line(self):
        text = ("columns x y\none draws 2\n  tell x.0\n  tell y.1*3\nnone draws 0\n  tell 1\nmain draws 3\n"
                "  a, b from one\n  c, a from one on 2 0\n  d from none\n  e from none on\n"
                "  throw f: 1: a\n  throw g, h: 1/3: a, -b | 2/3: 1, 0\n  i = a + b\n  tell i\n  x = x.2\n  tell x")
        program = program_by(text)
        one = ("one", 2, (("tell", X0), ("tell", ("times", (("at", "y", 1), ("number", (3, 1)))))))
        self.assertEqual(program, (("x", "y"), (one, ("none", 0, (("tell", ONE),)), ("main", 3, (
            ("call", ("a", "b"), "one", None), ("call", ("c", "a"), "one", (2, 0)), ("call", ("d",), "none", None),
            ("call", ("e",), "none", ()), ("throw", ("f",), ((UNIT, (A,)),)),
            ("throw", ("g", "h"), (((1, 3), (A, ("less", B))), ((2, 3), (ONE, ("number", (0, 1)))))),
            ("let", "i", ("plus", (A, B))), ("tell", ("name", "i")), ("let", "x", ("at", "x", 2)), ("tell", ("name", "x")))))))
        self.assertIs(is_program(program), True)
        self.assertEqual(program_text(program), text)

    def test_each_term(self):
        i, j = ("at", "x", "i"), ("at", "y", "j")
        for text, term in (
                ("0", ("number", (0, 1))), ("7", ("number", (7, 1))), ("3/2", ("number", (3, 2))), ("a", A), ("x.0", X0),
                ("y.1", ("at", "y", 1)), ("-a", ("less", A)), ("-(-a)", ("less", ("less", A))), ("a + b", ("plus", (A, B))),
                ("a - b", ("plus", (A, ("less", B)))), ("-a + b", ("plus", (("less", A), B))),
                ("-a - b", ("plus", (("less", A), ("less", B)))), ("a + b - a", ("plus", (A, B, ("less", A)))),
                ("(a + b) + a", ("plus", (("plus", (A, B)), A))), ("a + (b + a)", ("plus", (A, ("plus", (B, A))))),
                ("a + (-b)", None), ("a - (-b)", ("plus", (A, ("less", ("less", B))))), ("a - (b + a)", ("plus", (A, ("less", ("plus", (B, A)))))),
                ("-(a + b)", ("less", ("plus", (A, B)))), ("a*b", ("times", (A, B))), ("a*b*a", ("times", (A, B, A))),
                ("(a*b)*a", ("times", (("times", (A, B)), A))), ("a*(b*a)", ("times", (A, ("times", (B, A))))),
                ("-a*b", ("less", ("times", (A, B)))), ("(-a)*b", ("times", (("less", A), B))), ("a*(-b)", ("times", (A, ("less", B)))),
                ("a*(b + a)", ("times", (A, ("plus", (B, A))))), ("a*b + b*a", ("plus", (("times", (A, B)), ("times", (B, A))))),
                ("a - b*a", ("plus", (A, ("less", ("times", (B, A)))))), ("a^2", ("power", A, 2)), ("a^12", ("power", A, 12)),
                ("(a^2)^3", ("power", ("power", A, 2), 3)), ("-a^2", ("less", ("power", A, 2))), ("(-a)^2", ("power", ("less", A), 2)),
                ("(a + b)^2", ("power", ("plus", (A, B)), 2)), ("(a*b)^2", ("power", ("times", (A, B)), 2)),
                ("a*b^2", ("times", (A, ("power", B, 2)))), ("a^2*b", ("times", (("power", A, 2), B))),
                ("1/2^2", ("power", ("number", HALF), 2)), ("2^2", ("power", TWO, 2)), ("x.0^2", ("power", X0, 2)),
                ("sum i (x.i)", ("sum", ("i",), i)), ("sum i j (x.i*y.j)", ("sum", ("i", "j"), ("times", (i, j)))),
                ("sum i (x.i)^2", ("power", ("sum", ("i",), i), 2)), ("sum i (x.i^2)", ("sum", ("i",), ("power", i, 2))),
                ("sum i (-x.i)", ("sum", ("i",), ("less", i))), ("-sum i (x.i)", ("less", ("sum", ("i",), i))),
                ("sum i (x.i)*a", ("times", (("sum", ("i",), i), A))), ("a*sum i (x.i + a)", ("times", (A, ("sum", ("i",), ("plus", (i, A)))))),
                ("sum i (sum j (x.i*y.j))", ("sum", ("i",), ("sum", ("j",), ("times", (i, j))))),
                ("sum i (x.i) + sum i (x.i)", ("plus", (("sum", ("i",), i), ("sum", ("i",), i)))),
                ("1/2*a - 3", ("plus", (("times", (("number", HALF), A)), ("less", ("number", (3, 1))))))):
            if term is None:
                self.assertEqual(term_of(text), ("plus", (A, ("less", B))))
                self.assertEqual(text_of(term_of(text)), "a - b")
            else:
                self.assertEqual(term_of(text), term, text)
                self.assertEqual(text_of(term), text)

    def test_needless_brackets(self):
        for text, short in (
                ("(a)", "a"), ("((a))", "a"), ("(a + b)", "a + b"), ("((a) + (b))", "a + b"), ("(a*b) + a", "a*b + a"),
                ("(a)*((b))", "a*b"), ("(a^2)", "a^2"), ("(a)^2", "a^2"), ("((a + b))^2", "(a + b)^2"), ("(-a)", "-a"),
                ("-(a)", "-a"), ("-(a*b)", "-a*b"), ("-((a + b))", "-(a + b)"), ("sum i ((x.i))", "sum i (x.i)"),
                ("(sum i (x.i))", "sum i (x.i)"), ("(sum i (x.i))^2", "sum i (x.i)^2"), ("(2)", "2"), ("(1/2)^2", "1/2^2"),
                ("(((((((((((((((((((a)))))))))))))))))))", "a"), ("a + (-b)", "a - b"), ("(-a) + b", "-a + b"),
                ("a*(b^2)", "a*b^2"), ("(x.0)", "x.0"), ("a - (b*a)", "a - b*a"), ("a - (b)", "a - b")):
            self.assertEqual(text_of(term_of(text)), short, text)

    def test_numbers(self):
        long, zeros = "9" * 40, "0" * 39 + "7"
        for text, x in (("2/4", HALF), ("004", (4, 1)), ("00/5", (0, 1)), ("0/9", (0, 1)), ("06/09", (2, 3)), ("8/4", (2, 1)),
                        (long, (int(long), 1)), (zeros, (7, 1)), ("1/" + zeros, (1, 7)), (long + "/" + long, UNIT)):
            self.assertEqual(term_of(text), ("number", x), text)
        for text in ("1/0", "1/00", "1/", "/2", "1/2/3", "9" * 41, "0" * 41, "1/" + "1" * 41, "1" * 41 + "/2", "1.5", "+1", "1 /2",
                     "1/ 2", "1/-2", "\u0663", "\u00bd", "1_0", "0x1", "1e3"):
            self.bad(HEAD + "  tell " + text, 5)
        self.assertEqual(text_of(("number", (10 ** 30, 7))), "1" + "0" * 30 + "/7")
        # Weights are numbers of any kind, too; elsewhere there is no 0 ahead.
        self.assertEqual(program_by(HEAD + "  throw c: 02/4: 1 | 5/10: 2\n  tell c")[1][0][2][2][2], ((HALF, (ONE,)), (HALF, (TWO,))))
        for text, line in (
                ("columns x\nmain draws 01\n  tell 1", 2), ("columns x\nmain draws 00\n  tell 1", 2), (HEAD + "  tell x.00", 5),
                (HEAD + "  tell x.01", 5), (HEAD + "  tell a^02", 5), ("columns x\nm draws 1\n  tell 1\nn draws 2\n  a from m on 01\n  tell a", 5),
                ("columns x\nmain draws " + "1" * 41 + "\n  tell 1", 2), (HEAD + "  tell a^" + "1" * 41, 5)):
            self.bad(text, line)
        self.assertEqual(program_by("columns x\nmain draws " + "1" * 40 + "\n  tell 1")[1][0][1], int("1" * 40))
        self.assertEqual(term_of("a^" + "1" * 40)[2], int("1" * 40))

    def test_wrong_terms(self):
        for text in ("", " ", "a b", "a +b", "a+ b", "a+b", "a  + b", "a +  b", "a + ", "+ a", "- a", "--a", "a - -b", "a + -b",
                     "a*-b", "a* b", "a *b", "*a", "a*", "a**b", "^2", "a^", "a^1", "a^0", "a^-2", "a^2^3", "a^b", "a^2/3", "a ^2",
                     "(a", "a)", "()", "( a)", "(a )", "((a)", "(a))", "a(b)", "(a)(b)", "2a", "2(a)", "a2", "c", "x", "x.", "x.2",
                     "x.i", "z.0", ".0", "x .0", "x. 0", "x.0.1", "x.-1", "x.0a", "a.0", "main.0", "sum", "sum i", "sum i x.i",
                     "sum i(x.i)", "sum (x.0)", "sum i  (x.i)", "sum  i (x.i)", "sum i i (x.i)", "sum i (x.i", "sum i x.i)",
                     "sum i, j (x.i)", "sum i (x.j)", "sum i (i)", "sum i (sum i (x.i))", "sum sum (1)", "sum 2 (1)", "sum i ()",
                     "sum i (x.i) (a)", "sum i (x.i)x.i", "sum i (x.0) + x.i", "summ i (x.i)", "a,b", "a, b", "a | b", "a: b",
                     "a = b", "A", "a\t", "a\r", "a ", " a", "\u00e4", "a\u00b2", "a\u2009+ b", "tell", "from", "a from b", "-", "1-1"):
            self.bad(HEAD + "  tell " + text + "\n  tell 1", 5)
            self.bad(HEAD + "  c = " + text + "\n  tell 1", 5)
            self.bad(HEAD + "  throw c: 1: " + text + "\n  tell 1", 5)
        for text in ("(" * 100, "(" * 100 + "a" + ")" * 99, "a" + ")" * 100, "-(" * 60 + "a" + ")" * 59):
            self.bad(HEAD + "  tell " + text, 5)


class BadLineTest(unittest.TestCase):

    def bad(self, text, line):
        self.assertEqual(outcome(program_by, (text,), {}), ("error", BadLine, {"line": line}), text)

    def test_too_early(self):
        for text, line in (
                ("columns x", 2), ("columns x y", 2), ("columns x\nmain draws 1", 3), ("columns x\nmain draws 1\n  a = x.0", 4),
                ("columns x\nm draws 1\n  tell x.0\nn draws 1", 5), ("columns x\nm draws 1\n  tell x.0\nn draws 1\n  a = 1\n  b = 2", 7)):
            self.bad(text, line)

    def test_first_line(self):
        for text in ("", "\n", "columns", "columns ", "columns  x", "columns x ", " columns x", "columns x  y", "columns x x",
                     "columns x y x", "columns X", "columns 1", "columns x1234567890123", "columns sum", "columns x\ty", "columns x,y",
                     "columns x, y", "Columns x", "column x", "columnsx", "columns x\r", "columns \u00e4", "columns x.0", "main draws 1",
                     "\ncolumns x"):
            self.bad(text, 1)
            self.bad(text + "\nmain draws 1\n  tell 1", 1)

    def test_titles(self):
        for row in ("", "main", "main draws", "main draws ", "main draws -1", "main draws x", "main  draws 1", "main draws  1",
                    "main draws 1 ", " main draws 1", "Main draws 1", "tell draws 1", "sum draws 1", "main Draws 1", "main draw 1",
                    "main draws 1 2", "main draws 1\r", "draws 1", "1 draws 1", "a2345678901234 draws 1", "main draws 1/1", "  tell 1",
                    "  main draws 1", "main\tdraws 1", "main draws +1", "main draws \u0663"):
            self.bad("columns x\n" + row + "\n  tell 1", 2)
            self.bad("columns x\none draws 0\n  tell 1\n" + row + "\n  tell x.0", 5 if row in ("  tell 1",) else 4)
        self.bad("columns x\none draws 0\n  tell 1\none draws 0\n  tell 1", 4)
        self.bad("columns x\none draws 0\ntwo draws 0\n  tell 1", 3)
        self.bad("columns x\none draws 0\n  a = 1\ntwo draws 0\n  tell 1", 4)

    def test_lines(self):
        for row in ("", "  ", " ", "tell 1", " tell 1", "   tell 1", "\ttell 1", "  tell", "  tell  1", "  tell 1 ", "  tells 1",
                    "  tell 1, 2", "  a=1", "  a =1", "  a= 1", "  a  = 1", "  = 1", "  A = 1", "  a, b = 1", "  a = 1, 2", "  sum = 1",
                    "  tell = 1", "  a1234567890123 = 1", "  a == 1", "  a = b", "  a = 1 = 1", "  let a = 1",
                    "  throw: 1: 1", "  throw a", "  throw a:", "  throw a: 1", "  throw a: 1: ", "  throw a:1: 1", "  throw a: 1:1",
                    "  throw a : 1: 1", "  throw  a: 1: 1", "  throw a: 1/2: 1", "  throw a: 1/2: 1 | 1/3: 2", "  throw a: 0: 1 | 1: 2",
                    "  throw a: 1/2: 1| 1/2: 2", "  throw a: 1/2: 1 |1/2: 2", "  throw a: 1/2: 1 | ", "  throw a: 1/2: 1 |  1/2: 2",
                    "  throw a: -1/2: 1 | 3/2: 2", "  throw a, b: 1: 1", "  throw a: 1: 1, 2", "  throw a, a: 1: 1, 2", "  throw a,b: 1: 1, 2",
                    "  throw a, b: 1: 1,2", "  throw a b: 1: 1, 2", "  throw a, b: 1: 1, a", "  throw A: 1: 1", "  throw a: x: 1",
                    "  throw a: 1/0: 1", "  throw a: 2/1: 1", "  Throw a: 1: 1", "  throw a: 1: 1 | 0/2: 1",
                    "  a from", "  a from ", "  a from two", "  a from main", "  a from one ", "  a from  one", "  a  from one",
                    "  a, b from one", "  a,b from pair", "  a, a from pair", "  a from pair", "  a, b, c from pair", "  from one",
                    "  A from one", "  a from one on", "  a from one on ", "  a from one on 2", "  a from one on 0 1", "  a from one on  0",
                    "  a from one on 0 ", "  a from one on -1", "  a from one on x", "  a from one 0", "  a, b from pair on 0 0",
                    "  a, b from pair on 0, 1", "  a, b from pair on 0", "  a from one On 0", "  a from one\r", "  a from none on 0",
                    "  a from one from one", "  a = 1 from one"):
            ahead = "columns x\none draws 1\n  tell x.0\npair draws 2\n  tell 1\n  tell x.1\nnone draws 0\n  tell 1\nmain draws 2\n"
            self.bad(ahead + row + "\n  tell 1", 10)
            self.bad(ahead + "  tell 1\n" + row, 11)

    def test_the_least_line(self):
        for text, line in (
                ("columns x\nmain draws 1\n  tell b\n  tell c\nnothing", 3), ("columns x\nmain draws 1\n  tell 1\n  b = x.1\ncolumns", 4),
                ("columns x\nmain draws 1\n  b = b\n  tell 1", 3), ("columns x\nmain draws 1\n  tell a\n  a = 1", 3),
                ("columns x\nm draws 1\n  a = 1\n  tell a\nn draws 1\n  tell a", 6), ("columns x\nm draws 1\n  tell 1\n", 4),
                ("columns x\nm draws 1\n  tell 1\n\nn draws 1\n  tell 1", 4), ("columns x\r\nm draws 1\n  tell 1", 1),
                ("columns x\nm draws 1\n  tell 1\r", 3), ("columns x\nm draws 1\n  a from n\n  tell a\nn draws 1\n  tell 1", 3)):
            self.bad(text, line)


class ThereAndBackTest(unittest.TestCase):

    def test_drawn_programs(self):
        writer = Writer(11)
        for _ in range(300):
            program = writer.program()
            text = program_text(program)
            self.assertTrue(all(sign == "\n" or " " <= sign <= "~" for sign in text))
            self.assertEqual(program_by(text), program, text)
            check_call(self, program_text, program)
            check_call(self, program_by, text)
            self.brackets(text, program)

    def brackets(self, text, program):
        """Without any one pair of brackets the text is that of another PROGRAM, or of none."""
        for first in [place for place, sign in enumerate(text) if sign == "("]:
            level = 0
            for last in range(first, len(text)):
                level += (text[last] == "(") - (text[last] == ")")
                if level == 0:
                    break
            less = text[:first] + text[first + 1:last] + text[last + 1:]
            self.assertNotEqual(outcome(program_by, (less,), {}), ("value", program), text)

    def test_deep_terms(self):
        writer = Writer(12)
        for _ in range(150):
            term = writer.term(("x",), 2, [], (), 5)
            program = (("x",), (("main", 2, (("tell", term),)),))
            self.assertIs(is_program(program), True)
            self.assertEqual(program_by(program_text(program)), program)
            self.brackets(program_text(program), program)

    def test_chances_of_texts(self):
        writer = Writer(13)
        for _ in range(60):
            text = program_text(writer.program())
            program = program_by(text)
            source = slow.source_of_rows(writer.things, len(program[0]), 2)
            self.assertEqual(slow.told(law_of(program), source, counts(program)[0]), told_chances(program, source))

    def test_laws_as_texts(self):
        things = slow.Drawn(14)
        for _ in range(40):
            n, c = things.number(0, 3), things.number(1, 2)
            teller = things.teller(n, c, things.number(1, 3), 3)
            program = program_of(teller, n, ("x", "y")[:c])
            self.assertEqual(program_by(program_text(program)), program)
            self.assertEqual(law_of(program_by(program_text(program))), teller)

    def test_great_and_small(self):
        term = ("plus", (("number", (10 ** 39, 10 ** 38 + 1)), ("power", ("at", "x", 10 ** 30), 10 ** 20)))
        program = (("x",), (("main", 10 ** 30 + 1, (("tell", term),)),))
        self.assertEqual(program_by(program_text(program)), program)
        huge = (("x",), (("main", 0, (("tell", ("number", (7 ** 9000, 1))),)),))
        number = program_text(huge).split(" ")[-1]
        self.assertEqual((len(number), number[-4:]), (7606, str(pow(7, 9000, 10 ** 4)).zfill(4)))


if __name__ == "__main__":
    unittest.main()

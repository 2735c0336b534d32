import itertools
import unittest
from fractions import Fraction

import slow
from calls import check_call, outcome
from everysource.drawings import is_law
from everysource.errors import Unfit
from everysource.programs import (
    is_program, joined, law_of, program_of, samples_in, way_tells, way_weight, ways,
)
from slow_programs import Writer, counts, told_by_run, told_chances

HALF, UNIT = (1, 2), (1, 1)
HUGE = 10 ** 30 + 57
UNFIT = ("error", Unfit, {})
X0, X1, Y0 = ("at", "x", 0), ("at", "x", 1), ("at", "y", 0)
NEAR, FAR = ((((1,), (0,)), UNIT),), ((((0,), (1,)), UNIT),)
ONE, TWO = ("number", UNIT), ("number", (2, 1))
TOSSER = (("x",), (("main", 2, (("throw", ("c",), ((HALF, (X0,)), (HALF, (X1,)))), ("tell", ("name", "c")))),))
DRAWER = (("x",), (
    ("pair", 2, (("tell", ("plus", (X0, ("less", X1)))),)),
    ("m", 1, (("call", ("a",), "pair", None), ("tell", ("plus", (("times", (("name", "a"), X0)), ("number", HALF))))))))


def lines(*rows, draws=2, columns=("x", "y")):
    """The PROGRAM of one routine with these LINES."""
    return (columns, (("main", draws, rows),))


def telling(term, draws=2):
    return lines(("tell", term), draws=draws)


class ExampleTest(unittest.TestCase):

    def test_tosser_and_drawer(self):
        self.assertIs(is_program(TOSSER), True)
        self.assertEqual(law_of(TOSSER), (((FAR,), HALF), ((NEAR,), HALF)))
        self.assertEqual(ways(TOSSER), [(0,), (1,)])
        self.assertIs(is_program(DRAWER), True)
        self.assertEqual(law_of(DRAWER)[0][0][0], (
            (((0,), (0,), (0,)), HALF), (((1,), (0,), (1,)), (-1, 1)), (((1,), (1,), (0,)), UNIT)))
        self.assertEqual((samples_in(TOSSER), samples_in(DRAWER), ways(DRAWER)), (2, 3, [()]))


class NamesTest(unittest.TestCase):

    def with_name(self, name):
        """PROGRAMS in which something of each kind bears this name."""
        at = ("at", "x", 0)
        return [
            ((name,), (("m", 1, (("tell", ("at", name, 0)),)),)),
            (("x",), ((name, 1, (("tell", at),)),)),
            lines(("let", name, at), ("tell", ONE)), lines(("let", name, at), ("tell", ("name", name))),
            lines(("throw", (name,), ((UNIT, (at,)),)), ("tell", ONE)),
            (("x",), (("m", 1, (("tell", at),)), ("o", 1, (("call", (name,), "m", None), ("tell", ONE))))),
            telling(("sum", (name,), ONE)), telling(("sum", (name,), ("at", "x", name)))]

    def test_names(self):
        for name in ("a", "z", "a0", "abcdefghijkl", "x12345678901", "let", "name", "column", "sums", "ton", "draw", "q9"):
            for program in self.with_name(name):
                self.assertIs(is_program(program), True, program)
        for name in ("", "abcdefghijklm", "0", "0a", "9z", "A", "aB", "a_b", "a b", " a", "a ", "a.b", "a-b", "a\n", "\u00e4",
                     "a\u0663", "columns", "draws", "tell", "throw", "sum", "from", "on", "x" * 13, "^", "a*",
                     None, 0, 1, True, ("a",), ["a"], b"a", (), slow.deep(50)):
            for program in self.with_name(name):
                self.assertIs(is_program(program), False, program)

    def test_one_name_of_each_kind(self):
        program = (("x",), (("x", 2, (
            ("let", "x", ("sum", ("x",), ("at", "x", "x"))), ("tell", ("times", (("name", "x"), ("sum", ("x",), ("name", "x"))))))),))
        self.assertIs(is_program(program), True)
        rows = (((3, 1),), ((4, 1),))
        self.assertEqual(slow.value(law_of(program)[0][0][0], rows), 7 * 14)

    def test_columns_and_titles(self):
        tell = (("tell", ONE),)
        for program, right in (
                ((("x", "y"), (("m", 0, tell),)), True), ((("x", "x"), (("m", 0, tell),)), False),
                (((), (("m", 0, tell),)), False), (("x", (("m", 0, tell),)), False), ((["x"], (("m", 0, tell),)), False),
                ((("x",), ()), False), ((("x",), (("m", 0, ()),)), False), ((("x",), (("m", 0, tell), ("m", 0, tell))), False),
                ((("x",), (("m", 0, tell), ("n", 0, tell))), True), ((("x",), [("m", 0, tell)]), False),
                ((("x",), (["m", 0, tell],)), False), ((("x",), (("m", 0, list(tell)),)), False),
                ((("x",), (("m", -1, tell),)), False), ((("x",), (("m", True, tell),)), False),
                ((("x",), (("m", 0),)), False), ((("x",), (("m", 0, tell, ()),)), False), ((("x",),), False),
                ((("x",), (("m", 10 ** 40, tell),)), True), (("x",), False), ((("x",), (("m", 0, tell),), ()), False),
                ((("x",), (("m", 0, (("let", "a", ONE),)),)), False), ((("x",), (("m", "0", tell),)), False)):
            self.assertIs(is_program(program), right, program)

    def test_things(self):
        for thing in slow.STRANGE:
            self.assertIs(is_program(thing), False, thing)
        program = (("u", "v"), (
            ("m", 1, (("let", "a", ("power", ("at", "v", 0), 2)), ("tell", ("less", ("name", "a"))))),
            ("n", 2, (("throw", ("p", "q"), ((HALF, (ONE, TWO)), (HALF, (TWO, ONE)))), ("call", ("r",), "m", (1,)),
                      ("tell", ("plus", (("times", (("name", "p"), ("name", "r"))), ("sum", ("i",), ("at", "u", "i")))))))))
        self.assertIs(is_program(program), True)
        tried = 0
        for thing in slow.spoiled(program):
            # Another NAME, or None for given samples, may be right.
            if "'x'" not in repr(thing) and "'m', None" not in repr(thing):
                self.assertIs(is_program(thing), False, thing)
                tried += 1
        self.assertGreater(tried, 800)

    def test_deep_and_beyond_the_bounds(self):
        term = ONE
        for _ in range(90):
            term = ("less", term)
        self.assertIs(is_program(telling(term)), True)
        term = ONE
        for _ in range(44):
            term = ("plus", (term, TWO))
        self.assertIs(is_program(telling(term)), True)
        self.assertIs(is_program(telling(("times", (ONE,) * 500))), True)
        self.assertIs(is_program(telling(("power", X0, 10 ** 40))), True)
        self.assertIs(is_program(telling(("number", (HUGE ** 3, 2)))), True)
        self.assertIs(is_program(telling(("sum", tuple("i" + str(k) for k in range(30)), ONE))), True)
        self.assertIs(is_program(lines(*[("tell", ONE)] * 200)), True)
        many = tuple(("r" + str(k), 0, (("tell", ONE),)) for k in range(200))
        self.assertIs(is_program((tuple("c" + str(k) for k in range(200)), many)), True)
        self.assertIs(is_program(telling(("at", "x", 999), draws=1000)), True)
        self.assertIs(is_program(telling(slow.deep(90))), False)


class LinesTest(unittest.TestCase):

    def test_names_ahead_of_their_use(self):
        a, b = ("name", "a"), ("name", "b")
        for program, right in (
                (lines(("tell", a), ("let", "a", ONE)), False), (lines(("let", "a", a), ("tell", ONE)), False),
                (lines(("let", "a", ONE), ("let", "a", ("plus", (a, a))), ("tell", a)), True),
                (lines(("let", "a", ONE), ("tell", b)), False),
                (lines(("throw", ("a", "b"), ((UNIT, (ONE, a)),)), ("tell", ONE)), False),
                (lines(("let", "a", ONE), ("throw", ("a", "b"), ((UNIT, (TWO, a)),)), ("tell", b)), True),
                ((("x",), (("m", 0, (("let", "a", ONE), ("tell", a))), ("n", 0, (("tell", a),)))), False),
                ((("x",), (("m", 0, (("tell", ONE),)), ("n", 0, (("call", ("a",), "m", None), ("tell", a))))), True),
                ((("x",), (("m", 0, (("tell", ONE),)), ("n", 0, (("tell", a), ("call", ("a",), "m", None))))), False),
                (lines(("let", "a", ONE), ("tell", ("sum", ("i",), a))), True),
                (lines(("tell", ONE), ("tell", ("name", "number"))), False),
                (lines(("let", "a", ONE), ("tell", a), ("tell", ("name", "name"))), False),
                (telling(("sum", ("i",), ("name", "i"))), False), (telling(("name", "x")), False)):
            self.assertIs(is_program(program), right, program)
        # A name holds what it was given last; a throw reads what was held ahead of it.
        program = lines(("let", "a", ONE), ("let", "b", TWO), ("throw", ("a", "b"), ((UNIT, (b, a)),)), ("tell", a),
                        ("let", "a", ("plus", (a, a))), ("tell", a), ("tell", b))
        tells = ((((((0, 0), (0, 0)), (2, 1)),), ((((0, 0), (0, 0)), (4, 1)),), ((((0, 0), (0, 0)), UNIT),)))
        self.assertEqual(law_of(program), ((tells, UNIT),))

    def test_lines(self):
        for line in (
                ("tell",), ("tell", ONE, ONE), ["tell", ONE], ("tells", ONE), ("let", "a"), ("let", "a", ONE, ONE),
                ("let", ("a",), ONE), ("throw", ("a",), ()), ("throw", (), ((UNIT, ()),)), ("throw", "a", ((UNIT, (ONE,)),)),
                ("throw", ("a", "a"), ((UNIT, (ONE, ONE)),)), ("throw", ("a",)), ("throw", ("a",), ((UNIT, (ONE,)),), ()),
                ("throw", ["a"], ((UNIT, (ONE,)),)), ("throw", ("a",), [(UNIT, (ONE,))]), (), "tell", None, 5, ("",), (None, ONE)):
            self.assertIs(is_program(lines(line, ("tell", ONE))), False, line)
        for faces, right in (
                (((UNIT, (ONE,)),), True), (((HALF, (ONE,)), (HALF, (ONE,))), True), (((HALF, (ONE,)),), False),
                (((HALF, (ONE,)), (UNIT, (ONE,))), False), ((((2, 4), (ONE,)), (HALF, (ONE,))), False),
                ((((0, 1), (ONE,)), (UNIT, (ONE,))), False), ((((-1, 2), (ONE,)), ((3, 2), (ONE,))), False),
                (((UNIT, (ONE, ONE)),), False), (((UNIT, ()),), False), (((UNIT, ONE),), False), (((UNIT, (ONE,), 1),), False),
                ((([1, 1], (ONE,)),), False), (((UNIT, [ONE]),), False), (((UNIT, (("name", "a"),)),), False),
                (((UNIT, (X0,)),), True), (((1, (ONE,)),), False), ((((1, HUGE), (ONE,)), ((HUGE - 1, HUGE), (X1,))), True)):
            self.assertIs(is_program(lines(("throw", ("a",), faces), ("tell", ONE))), right, faces)

    def calling(self, line, draws=2):
        other = ("pair", 2, (("tell", X0), ("tell", X1)))
        return (("x",), (other, ("none", 0, (("tell", ONE),)), ("main", draws, (line, ("tell", ONE))), ))

    def test_calls(self):
        for line, right in (
                (("call", ("a", "b"), "pair", None), True), (("call", ("a", "b"), "pair", (0, 1)), True),
                (("call", ("a", "b"), "pair", (1, 0)), True), (("call", ("a", "b"), "pair", (0, 0)), False),
                (("call", ("a", "b"), "pair", (0, 2)), False), (("call", ("a", "b"), "pair", (-1, 0)), False),
                (("call", ("a", "b"), "pair", (0,)), False), (("call", ("a", "b"), "pair", ()), False),
                (("call", ("a", "b"), "pair", (0, 1, 1)), False), (("call", ("a", "b"), "pair", [0, 1]), False),
                (("call", ("a", "b"), "pair", (False, True)), False), (("call", ("a", "b"), "pair", ("i", 1)), False),
                (("call", ("a",), "pair", None), False), (("call", ("a", "b", "c"), "pair", None), False),
                (("call", ("a", "a"), "pair", None), False), (("call", (), "pair", None), False),
                (("call", ("a", "b"), "main", None), False), (("call", ("a", "b"), "later", None), False),
                (("call", ("a", "b"), None, None), False), (("call", ("a", "b"), ["pair"], None), False),
                (("call", ("a", "b"), ("pair",), None), False), (("call", ("a", "b"), "pair"), False),
                (("call", ["a", "b"], "pair", None), False), (("call", ("a", "b"), "pair", None, None), False),
                (("call", ("a",), "none", None), True), (("call", ("a",), "none", ()), True),
                (("call", ("a",), "none", (0,)), False), (("call", ("a", "b"), "pair", 0), False)):
            self.assertIs(is_program(self.calling(line)), right, line)
        self.assertIs(is_program(self.calling(("call", ("a", "b"), "pair", (0, 1)), draws=1)), False)
        self.assertIs(is_program(self.calling(("call", ("a", "b"), "pair", None), draws=0)), True)
        later = (("x",), (("m", 1, (("call", ("a",), "n", None), ("tell", ONE))), ("n", 1, (("tell", ONE),))))
        self.assertIs(is_program(later), False)
        self.assertIs(is_program((("x",), later[1][::-1])), True)

    def test_terms(self):
        i, j = ("at", "x", "i"), ("at", "x", "j")
        for term, right in (
                (ONE, True), (("number", (0, 1)), True), (("number", (-1, 1)), False), (("number", (2, 4)), False),
                (("number", 1), False), (("number", [1, 1]), False), (("number",), False), (("number", UNIT, UNIT), False),
                (X0, True), (Y0, True), (("at", "z", 0), False), (("at", "x", 2), False), (("at", "x", -1), False),
                (("at", "x", True), False), (("at", "x", None), False), (("at", "x", "i"), False), (("at", "x"), False),
                (("at", None, 0), False), (("at", ("x",), 0), False), (("at", 0, 0), False), (("at", "main", 0), False),
                (("less", X0), True), (("less", ("less", X0)), True), (("less",), False), (("less", X0, X0), False),
                (("less", (X0, X0)), False), (("plus", (X0, X1)), True), (("plus", (X0, X0, X0, ONE)), True),
                (("plus", (X0,)), False), (("plus", ()), False), (("plus", X0), False), (("plus", [X0, X1]), False),
                (("plus", X0, X1), False), (("times", (X0, X1)), True), (("times", (X0,)), False), (("times", ()), False),
                (("times", [X0, X1]), False), (("power", X0, 2), True), (("power", X0, 1), False), (("power", X0, 0), False),
                (("power", X0, -2), False), (("power", X0, True), False), (("power", X0, "2"), False), (("power", X0), False),
                (("power", (X0, X1), 2), False), (("sum", ("i",), i), True), (("sum", ("i", "j"), ("times", (i, j))), True),
                (("sum", ("i",), j), False), (("sum", (), ONE), False), (("sum", ("i", "i"), i), False),
                (("sum", "i", i), False), (("sum", ["i"], i), False), (("sum", ("i",)), False), (("sum", ("i",), i, i), False),
                (("sum", ("i",), ("sum", ("i",), i)), False), (("sum", ("i",), ("sum", ("j",), ("times", (i, j)))), True),
                (("sum", ("i",), ("sum", ("j", "i"), j)), False), (("plus", (("sum", ("i",), i), i)), False),
                (("plus", (("sum", ("i",), i), ("sum", ("i",), i))), True), (("sum", ("i", "j", "k", "l"), ONE), True),
                (("name", "a"), False), (("name", None), False), (("name", ["a"]), False), (("name",), False),
                (("other", X0), False), ("x.0", False), (None, False), ((), False), (5, False), (("",), False),
                (("sum", ("i",), ("at", "x", ("i",))), False), (("sum", ("i",), ("at", "x", 1)), True)):
            self.assertIs(is_program(telling(term)), right, term)
            # Wherever a TERM may stand the same ones are right.
            self.assertIs(is_program(lines(("let", "b", term), ("tell", ONE))), right, term)
            self.assertIs(is_program(telling(("less", term))), right, term)
            self.assertIs(is_program(telling(("sum", ("q",), ("plus", (ONE, term))))), right, term)
            self.assertIs(is_program(lines(("throw", ("b",), ((UNIT, (term,)),)), ("tell", ONE))), right, term)
        self.assertIs(is_program(telling(X0, draws=0)), False)
        self.assertIs(is_program(telling(("sum", ("i",), i), draws=0)), True)


class RunTest(unittest.TestCase):

    def test_samples(self):
        one = ("one", 1, (("tell", X0),))
        two = ("two", 2, (("call", ("a",), "one", None), ("call", ("b",), "one", (1,)), ("tell", ("name", "a")), ("tell", ("name", "b"))))
        three = ("three", 1, (("call", ("a", "b"), "two", None), ("call", ("c",), "one", None), ("call", ("d",), "one", (0,)),
                              ("tell", X0), ("tell", ("name", "a")), ("tell", ("name", "b")), ("tell", ("name", "c")),
                              ("tell", ("name", "d"))))
        program = (("x",), (one, two, three))
        # Its own sample, those of two, the one drawn anew in two, the one of one.
        self.assertEqual(samples_in(program), 5)
        tells = way_tells(program, ())
        self.assertEqual([self.only(form) for form in tells], [0, 3, 2, 4, 0])
        # What is called with given samples draws anew what it calls drawn anew.
        given = (("x",), (one, two, ("main", 2, (("call", ("a", "b"), "two", (1, 0)), ("tell", ("name", "a")), ("tell", ("name", "b"))))))
        self.assertEqual(samples_in(given), 3)
        self.assertEqual([self.only(form) for form in way_tells(given, ())], [2, 0])
        self.assertEqual(samples_in((("x",), (one, two, ("main", 0, (("tell", ONE),))))), 0)
        for program in (given, TOSSER, DRAWER):
            check_call(self, samples_in, program)

    def only(self, form):
        """The sample of which the FORM is the number."""
        (powers, x), = form
        self.assertEqual((x, sum(own[0] for own in powers)), (UNIT, 1))
        return [own[0] for own in powers].index(1)

    def test_ways(self):
        die = ("throw", ("a",), ((HALF, (ONE,)), ((1, 3), (TWO,)), ((1, 6), (X0,))))
        lone = ("throw", ("b",), ((UNIT, (TWO,)),))
        inner = ("inner", 1, (die, ("tell", ("name", "a"))))
        main = ("main", 1, (("throw", ("b",), (((1, 4), (ONE,)), ((3, 4), (TWO,)))), ("call", ("c",), "inner", None), lone,
                            ("tell", ("times", (("name", "b"), ("name", "c"))))))
        program = (("x",), (inner, main))
        want = [(b, a, 0) for b in range(2) for a in range(3)]
        self.assertEqual(ways(program), want)
        self.assertEqual(way_weight(program, (1, 2, 0)), (1, 8))
        self.assertEqual(way_tells(program, (0, 2, 0)), (((((0,), (1,)), (2, 1)),),))
        self.assertEqual(ways((("x",), (inner, ("main", 0, (("call", ("a",), "inner", None), ("call", ("b",), "inner", None),
                                                           ("tell", ONE)))))), [(j, k) for j in range(3) for k in range(3)])
        for way in ((), (0, 0), (0, 0, 0, 0), (2, 0, 0), (0, 3, 0), (0, 0, 1), (-1, 0, 0), (0, -1, 0), (0, 0, -1),
                    (10 ** 40, 0, 0), (True, 0, 0), ("0", 0, 0), (None, 0, 0), ((0,), 0, 0)):
            self.assertEqual(outcome(way_weight, (program, way), {}), UNFIT, way)
            self.assertEqual(outcome(way_tells, (program, way), {}), UNFIT, way)
        for way in (0, None, "000", True):
            self.assertEqual(outcome(way_weight, (program, way), {}), UNFIT, way)
        check_call(self, ways, program)
        check_call(self, way_weight, program, (1, 0, 0))
        check_call(self, way_tells, program, (1, 1, 0))
        check_call(self, way_tells, program, (1, 3, 0))
        check_call(self, law_of, program)
        check_call(self, ways, DRAWER)
        self.assertEqual((way_weight(DRAWER, ()), outcome(way_weight, (DRAWER, (0,)), {})), (UNIT, UNFIT))

    def test_same_tells_in_many_ways(self):
        program = lines(("throw", ("a",), ((HALF, (ONE,)), ((1, 3), (TWO,)), ((1, 6), (ONE,)))), ("tell", ("name", "a")))
        number = (((0, 0), (0, 0)),)
        self.assertEqual(law_of(program), (((((number[0], UNIT),),), (2, 3)), ((((number[0], (2, 1)),),), (1, 3))))
        self.assertEqual(len(ways(program)), 3)
        idle = lines(("throw", ("a",), ((HALF, (ONE,)), (HALF, (TWO,)))), ("tell", X0))
        self.assertEqual(law_of(idle), ((((((((1, 0), (0, 0)), UNIT),),)), UNIT),))

    def test_sums(self):
        i, j = ("at", "x", "i"), ("at", "x", "j")
        unlike = ("sum", ("i", "j"), ("times", (i, j)))
        nested = ("sum", ("i",), ("sum", ("j",), ("times", (i, j))))
        for term, draws, want in (
                (unlike, 3, lambda a, b, c: 2 * (a * b + a * c + b * c)), (nested, 3, lambda a, b, c: (a + b + c) ** 2),
                (unlike, 2, lambda a, b: 2 * a * b), (unlike, 1, lambda a: 0), (nested, 1, lambda a: a * a),
                (("sum", ("i", "j", "k"), ONE), 3, lambda a, b, c: 6), (("sum", ("i", "j", "k"), ONE), 2, lambda a, b: 0),
                (("sum", ("i",), ("sum", ("j", "k"), i)), 2, lambda a, b: 2 * (a + b)), (("sum", ("i",), ONE), 0, lambda: 0),
                (("power", ("sum", ("i",), i), 2), 2, lambda a, b: (a + b) ** 2),
                (("sum", ("i",), ("power", i, 3)), 2, lambda a, b: a ** 3 + b ** 3)):
            rows = tuple(((2 * k + 3, k + 1), (7, 1)) for k in range(draws))
            form = law_of(telling(term, draws))[0][0][0]
            self.assertEqual(slow.value(form, rows), want(*[slow.exact(row[0]) for row in rows]), term)
        # The own samples of what is called are gone over, not those of the caller.
        inner = ("inner", 1, (("tell", ("sum", ("i",), i)),))
        program = (("x",), (inner, ("main", 3, (("call", ("a",), "inner", (2,)), ("tell", ("name", "a"))))))
        self.assertEqual(law_of(program), ((((((((0,), (0,), (1,)), UNIT),),)), UNIT),))

    def test_drawn_programs(self):
        writer, anew, wide = Writer(1), 0, 0
        for _ in range(250):
            program = writer.program()
            self.assertIs(is_program(program), True, program)
            n, dice = counts(program)
            self.assertEqual(samples_in(program), n)
            self.assertEqual(ways(program), list(itertools.product(*[range(many) for many in dice])))
            teller, c = law_of(program), len(program[0])
            self.assertIs(is_law(teller, n, c), True)
            source = slow.source_of_rows(writer.things, c, 2)
            self.assertEqual(slow.told(teller, source, n), told_chances(program, source))
            rows = tuple(writer.things.row(c) for _ in range(n))
            for way in ways(program):
                numbers, weight = told_by_run(program, rows, way)
                tells = way_tells(program, way)
                self.assertEqual(tuple(slow.pair(slow.value(form, rows)) for form in tells), numbers)
                self.assertEqual(way_weight(program, way), slow.pair(weight))
            want = slow.added([(way_tells(program, way), slow.exact(way_weight(program, way))) for way in ways(program)])
            self.assertEqual(teller, slow.from_sums(want))
            check_call(self, law_of, program)
            check_call(self, is_program, program)
            check_call(self, samples_in, program)
            check_call(self, ways, program)
            anew += n > program[1][-1][1]
            wide += len(teller) > 1
        self.assertGreater(min(anew, wide), 20, (anew, wide))

    def test_great_numbers(self):
        program = lines(("let", "a", ("plus", (("times", (("number", (HUGE, 7)), X0)), ("number", (1, HUGE))))),
                        ("tell", ("power", ("name", "a"), 8)))
        rows = (((HUGE, 3), UNIT), (UNIT, UNIT))
        self.assertEqual(slow.value(law_of(program)[0][0][0], rows), (Fraction(HUGE * HUGE, 21) + Fraction(1, HUGE)) ** 8)


class TellerTest(unittest.TestCase):

    def test_there_and_back(self):
        things = slow.Drawn(3)
        for _ in range(60):
            n, c, t = things.number(0, 3), things.number(1, 3), things.number(1, 4)
            teller = things.teller(n, c, t, 4)
            columns = ("x", "y", "zed")[:c]
            program = program_of(teller, n, columns)
            self.assertIs(is_program(program), True)
            self.assertEqual((program[0], len(program[1]), samples_in(program)), (columns, 1, n))
            self.assertEqual(law_of(program), teller)
            check_call(self, program_of, teller, n, columns)
        nothing, number, great = (), (((), (-2, 3)),), ((((8, 8), (0, 0)), (HUGE, 7)),)
        for form, n, columns in ((nothing, 0, ("x",)), (nothing, 3, ("x",)), (number, 0, ("x",)), (great, 2, ("t0", "main"))):
            teller = (((form,), UNIT),)
            self.assertEqual(law_of(program_of(teller, n, columns)), teller)

    def test_joined(self):
        things = slow.Drawn(4)
        for _ in range(40):
            n, m, c = things.number(0, 2), things.number(0, 2), things.number(1, 2)
            one, other = things.teller(n, c, things.number(1, 2), 3), things.teller(m, c, things.number(1, 2), 3)
            both = joined(one, other, n, m, c)
            self.assertIs(is_law(both, n + m, c), True)
            source = slow.source_of_rows(things, c, 2)
            left, right = slow.told(one, source, n), slow.told(other, source, m)
            want = slow.added([(a + b, x * y) for a, x in left.items() for b, y in right.items()])
            self.assertEqual(slow.told(both, source, n + m), want)
            pairs = [(tuple(self.placed(form, 0, m, c) for form in a) + tuple(self.placed(form, n, 0, c) for form in b),
                      slow.exact(x) * slow.exact(y)) for a, x in one for b, y in other]
            self.assertEqual(both, slow.from_sums(slow.added(pairs)))
            check_call(self, joined, one, other, n, m, c)

    def placed(self, form, ahead, behind, c):
        idle = ((0,) * c,)
        return tuple((idle * ahead + powers + idle * behind, x) for powers, x in form)

    def test_joined_by_program(self):
        writer = Writer(5, 2, 3)
        for _ in range(40):
            program = writer.program()
            columns, routines = program
            n, c = samples_in(program), len(columns)
            title, t = routines[-1][0], len([line for line in routines[-1][2] if line[0] == "tell"])
            names = [tuple(f"n{k}{j}" for j in range(t)) for k in range(2)]
            last = tuple(("call", own, title, None) for own in names) + tuple(("tell", ("name", name)) for own in names for name in own)
            twice = (columns, routines + (("twice", 0, last),))
            self.assertIs(is_program(twice), True)
            teller = law_of(program)
            self.assertEqual(law_of(twice), joined(teller, teller, n, n, c))


if __name__ == "__main__":
    unittest.main()

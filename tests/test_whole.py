import itertools
import random
import unittest

from some_orders import fraction_of, is_one, order_of, thing

from ordertext.cases.alike import alike
from ordertext.cases.judged import judged
from ordertext.errors import NoAsk, NoField, NoNumber, NoOrder, NoPlace, NoRow, NoThing, OrderError
from ordertext.orders.looks import looked
from ordertext.rows.fronts import fronts
from ordertext.rows.moves import moved, moves
from ordertext.rows.sorts import turned, turning
from ordertext.things.fractions import number_shown, read_number
from ordertext.whole import Desk

BOOK = ("a", "b")
RING = "pick either is b 0 up a up b"
RING_ORDER = order_of(RING)
LONG = "9" * 3900


def desk_of(*lines):
    desk = Desk()
    for line in lines:
        desk.ask(line)
    return desk


def some_desk():
    return desk_of("fields a b", "order x up a", "order y then down b up a", "order z like",
                   "put 2 1", "put 1 1/2", "put 3 5", "put 1 1/2", "put 9 9", "take 4")


def read_things(texts):
    return tuple(tuple(read_number(part) for part in text.split(" ")) for text in texts)


def all_answers(desk):
    """What a desk of the fields a and b answers to all that changes nothing; refusals by their names."""
    told = []
    lines = [f"row {name}" for name in "xyzw"] + ["judge up a", "judge up b", "judge up c"]
    lines += [f"moves {one} {other}" for one, other in itertools.product("xyzw", repeat=2)]
    lines += [f"place {name} {number}" for name in "xyzw" for number in range(6)] + ["fronts x y", "fronts z", "same x y"]
    for line in lines:
        try:
            told.append(desk.ask(line))
        except OrderError as refusal:
            told.append(refusal.__class__.__name__)
    return told


class FieldsTest(unittest.TestCase):
    def test_ahead_of_fields_all_else_is_refused(self):
        for line in ("order x up a", "order x", "judge up a", "judge like", "same x y", "put 1", "put", "take 0",
                     "turn 0 a 1", "row x", "place x 0", "first x 0", "moves x x", "fronts x", "", " ", "fields", "what"):
            desk = Desk()
            self.assertRaises(NoAsk, desk.ask, line)
            self.assertEqual(desk.ask("fields a"), [])
        desk = Desk()
        self.assertRaises(NoAsk, desk.ask, "fields a a")
        self.assertRaises(NoAsk, desk.ask, "judge like")

    def test_one_to_three_unlike_names(self):
        for line in ("fields a", "fields abcdefgh", "fields b a", "fields x y z", "fields row put take"):
            desk = Desk()
            told = desk.ask(line)
            self.assertIs(type(told), list)
            self.assertEqual(told, [])
            many = line.count(" ")
            self.assertEqual(desk.ask("put" + " 1" * many), ["0"])
            self.assertRaises(NoAsk, desk.ask, "put" + " 1" * (many + 1))
        for line in ("fields", "fields ", "fields a ", "fields  a", "fields a  b", " fields a", "fields a a", "fields a b a",
                     "fields A", "fields a1", "fields abcdefghi", "fields up", "fields a like", "fields under b",
                     "fields a b c d", "fields a,b", "Fields a", "fieldsa", "field a"):
            desk = some_desk()
            answers = all_answers(desk)
            with self.subTest(line=line):
                self.assertRaises(NoAsk, desk.ask, line)
                self.assertEqual(all_answers(desk), answers)
                self.assertEqual(desk.ask("put 0 0"), ["5"])

    def test_told_anew(self):
        desk = some_desk()
        self.assertEqual(desk.ask("fields b c"), [])
        for line in ("row x", "fronts x", "same x y", "place x 0"):
            self.assertRaises(NoAsk, desk.ask, line)
        self.assertRaises(NoThing, desk.ask, "take 0")
        self.assertRaises(NoField, desk.ask, "order x up a")
        self.assertEqual(desk.ask("put 1 1"), ["0"])
        self.assertEqual(desk.ask("order x up c"), [])
        self.assertEqual(desk.ask("row x"), ["0"])
        desk.ask("fields b c")
        self.assertEqual(desk.ask("put 1 1"), ["0"])


class OrdersTest(unittest.TestCase):
    def test_put_in_and_in_the_place_of_another_one(self):
        desk = desk_of("fields a b", "put 1 2", "put 2 1")
        self.assertEqual(desk.ask("order x up a"), [])
        self.assertEqual(desk.ask("row x"), ["0", "1"])
        self.assertEqual(desk.ask("order y up a"), [])
        self.assertEqual(desk.ask("order x up b"), [])
        self.assertEqual((desk.ask("row x"), desk.ask("row y")), (["1", "0"], ["0", "1"]))
        self.assertEqual(desk.ask("put 0 3"), ["2"])
        self.assertEqual((desk.ask("row x"), desk.ask("row y")), (["1", "0", "2"], ["2", "0", "1"]))

    def test_none_for_all(self):
        desk = some_desk()
        answers = all_answers(desk)
        for line in ("order x " + RING, "order w " + RING):
            with self.assertRaises(NoRow) as caught:
                desk.ask(line)
            self.assertEqual(("fails", caught.exception.things), judged(RING_ORDER, BOOK))
            self.assertFalse(is_one(RING_ORDER, BOOK, caught.exception.things))
            self.assertEqual(all_answers(desk), answers)
        self.assertRaises(NoAsk, desk.ask, "row w")

    def test_what_is_no_order(self):
        desk = some_desk()
        answers = all_answers(desk)
        for text, refusal in (("", NoOrder), ("up", NoOrder), ("up a ", NoOrder), (" up a", NoOrder), ("up  a", NoOrder),
                              ("up A", NoOrder), ("up a up b", NoOrder), ("up c", NoField), ("then up c up d", NoField),
                              ("then up c up", NoOrder), ("pick both is a 01 like like", NoOrder), ("x", NoOrder)):
            for begin in ("order x ", "order w ", "judge "):
                with self.subTest(text=text, begin=begin):
                    with self.assertRaises(refusal) as caught:
                        desk.ask(begin + text)
                    if refusal is NoField:
                        self.assertEqual(caught.exception.word, "c")
                    self.assertEqual(all_answers(desk), answers)

    def test_names(self):
        desk = some_desk()
        answers = all_answers(desk)
        for name in ("", "X", "up", "like", "is", "abcdefghi", "x1", "x,"):
            for text in ("up a", "", RING, "up c", "what"):
                self.assertRaises(NoAsk, desk.ask, f"order {name} {text}")
        for line in ("order", "order ", "order w", "orderw up a", "judge", "order  w up a"):
            self.assertRaises(NoAsk, desk.ask, line)
        self.assertEqual(all_answers(desk), answers)
        for name in ("a", "order", "row", "abcdefgh"):
            self.assertEqual(desk.ask(f"order {name} up a"), [])
            self.assertEqual(desk.ask(f"row {name}"), desk.ask("row x"))

    def test_judge(self):
        desk = some_desk()
        for text in ("up a", "like", "then up a down b", "pick both under a 1/2 up b up a"):
            told = desk.ask("judge " + text)
            self.assertIs(type(told), list)
            self.assertEqual(told, ["order"])
        for text in (RING, "pick either is a 0 like up b", "turn " + RING):
            things = read_things(desk.ask("judge " + text))
            self.assertEqual(things, judged(order_of(text), BOOK)[1])
            self.assertFalse(is_one(order_of(text), BOOK, things))
            self.assertEqual(desk.ask("judge " + text), [" ".join(map(number_shown, one)) for one in things])

    def test_judge_by_one_field_and_three(self):
        self.assertEqual(desk_of("fields a").ask("judge pick both is a 1 up a up a"), ["order"])
        desk = desk_of("fields a b c")
        order = order_of("pick same c up a up b", ("a", "b", "c"))
        things = read_things(desk.ask("judge pick same c up a up b"))
        self.assertEqual([len(one) for one in things], [3] * len(things))
        self.assertFalse(is_one(order, ("a", "b", "c"), things))

    def test_same(self):
        desk = desk_of("fields a b", "order x up a", "order y turn down a", "order z up b")
        for one, other in ("xy", "yx", "xx", "zz"):
            self.assertEqual(desk.ask(f"same {one} {other}"), ["alike"])
        for one, other in ("xz", "zx", "zy"):
            first, second = read_things(desk.ask(f"same {one} {other}"))
            self.assertNotEqual(looked(order_of("up a"), BOOK, first, second), looked(order_of("up b"), BOOK, first, second))
        self.assertEqual(read_things(desk.ask("same x z")), alike(order_of("up a"), order_of("up b"), BOOK)[1])
        for line in ("same", "same x", "same x ", "same x y z", "same x w", "same w x", "same  x y", "same x  y", "same x up"):
            self.assertRaises(NoAsk, desk.ask, line)


class ThingsTest(unittest.TestCase):
    def test_put(self):
        desk = desk_of("fields a b", "order x up a", "order y up b")
        self.assertEqual([desk.ask(line) for line in ("put 1 2", "put -1/2 2/4", "put 0 -7", "put 6/3 0/5")],
                         [["0"], ["1"], ["2"], ["3"]])
        self.assertEqual((desk.ask("row x"), desk.ask("row y")), (["1", "2", "0", "3"], ["2", "3", "1", "0"]))

    def test_put_refused(self):
        desk = some_desk()
        answers = all_answers(desk)
        for line in ("put", "put ", "put 1", "put 1 2 3", "put x", "put 1 x 3", "put 1 2 ", "put  1 2", "Put 1 2", " put 1 2"):
            self.assertRaises(NoAsk, desk.ask, line)
        for line in ("put 1 x", "put x 1", "put 1 ", "put  1", "put 01 1", "put 1 -0", "put 1/0 1", "put 1 1/2/3", "put +1 1",
                     "put 1 a", "put 1.5 2"):
            self.assertRaises(NoNumber, desk.ask, line)
        self.assertEqual(all_answers(desk), answers)
        self.assertEqual(desk.ask("put 1 1"), ["5"])

    def test_take(self):
        desk = some_desk()
        self.assertEqual(desk.ask("take 1"), [])
        self.assertEqual(desk.ask("row x"), ["3", "0", "2"])
        answers = all_answers(desk)
        for number in ("1", "4", "5", "60", LONG):
            self.assertRaises(NoThing, desk.ask, "take " + number)
        for line in ("take", "take ", "take -1", "take 00", "take 03", "take x", "take 0 2", "take 0 ", "take  0", "take 1/1",
                     "take +0", "take 0.", "take a"):
            self.assertRaises(NoAsk, desk.ask, line)
        self.assertEqual(all_answers(desk), answers)
        self.assertEqual(desk.ask("take 0"), [])
        self.assertEqual(desk.ask("put 0 0"), ["5"])
        self.assertEqual(desk.ask("row x"), ["5", "3", "2"])

    def test_turn(self):
        desk = some_desk()
        self.assertEqual(desk.ask("turn 0 a 1"), [])
        self.assertEqual((desk.ask("row x"), desk.ask("row y")), (["0", "1", "3", "2"], ["2", "0", "1", "3"]))
        self.assertEqual(desk.ask("turn 2 b -4/8"), [])
        self.assertEqual(desk.ask("row y"), ["0", "1", "3", "2"])
        self.assertEqual(desk.ask("turn 2 a 0"), [])
        self.assertEqual(desk.ask("row x"), ["2", "0", "1", "3"])

    def test_turn_refused(self):
        desk = some_desk()
        answers = all_answers(desk)
        for line, refusal in (("turn 0 a x", NoNumber), ("turn 0 a ", NoNumber), ("turn 0 a 01", NoNumber),
                              ("turn 9 a x", NoNumber), ("turn 0 c x", NoNumber), ("turn 9 c x", NoNumber),
                              ("turn 9 a 1", NoThing), ("turn 4 a 1", NoThing), ("turn 9 c 1", NoThing),
                              ("turn " + LONG + " c 1", NoThing), ("turn 0 c 1", NoField), ("turn 0 aa 1", NoField),
                              ("turn", NoAsk), ("turn 0", NoAsk), ("turn 0 a", NoAsk), ("turn 0 a 1 2", NoAsk),
                              ("turn x a 1", NoAsk), ("turn 00 a 1", NoAsk), ("turn -1 a 1", NoAsk), ("turn 0 A 1", NoAsk),
                              ("turn 0 up 1", NoAsk), ("turn 0  1", NoAsk), ("turn  a 1", NoAsk), ("turn 0  a 1", NoAsk),
                              ("turn x c x", NoAsk), ("turn 9 up x", NoAsk), ("turn 0 abcdefghi 1", NoAsk)):
            with self.subTest(line=line[:20]), self.assertRaises(refusal) as caught:
                desk.ask(line)
            if refusal is NoField:
                self.assertEqual(caught.exception.word, line.split(" ")[2])
            self.assertEqual(all_answers(desk), answers)


class AskedTest(unittest.TestCase):
    def test_row_and_place(self):
        desk = some_desk()
        self.assertEqual([desk.ask(f"row {name}") for name in "xyz"],
                         [["1", "3", "0", "2"], ["2", "0", "1", "3"], ["0", "1", "2", "3"]])
        self.assertEqual([desk.ask(f"place {name} {number}") for name in "xy" for number in range(4)],
                         [["2"], ["0"], ["3"], ["1"], ["1"], ["2"], ["0"], ["3"]])
        for number in ("4", "5", LONG):
            self.assertRaises(NoThing, desk.ask, "place x " + number)
        for line in ("row", "row ", "row w", "row x y", "row x ", "row  x", "row 0", "row up", "place", "place x", "place x ",
                     "place x -1", "place x 00", "place w 0", "place w 9", "place x 0 0", "place 0 x", "place  0", "place x  0"):
            self.assertRaises(NoAsk, desk.ask, line)

    def test_first(self):
        desk = some_desk()
        for many in range(5):
            self.assertEqual(desk.ask(f"first x {many}"), ["1", "3", "0", "2"][:many])
        for many in ("5", "6", LONG):
            self.assertRaises(NoPlace, desk.ask, "first x " + many)
        for line in ("first", "first x", "first x ", "first x -1", "first x 00", "first w 0", "first w 9", "first x 1 1",
                     "first  1", "first 1 x", "first x 1/1"):
            self.assertRaises(NoAsk, desk.ask, line)

    def test_moves(self):
        desk = some_desk()
        for one, other in itertools.product("xyz", repeat=2):
            told = desk.ask(f"moves {one} {other}")
            pairs = tuple(tuple(int(part) for part in text.split(" ")) for text in told)
            self.assertEqual(told, [f"{start} {end}" for start, end in pairs])
            self.assertEqual(list(moved(tuple(desk.ask(f"row {one}")), pairs)), desk.ask(f"row {other}"))
        self.assertEqual((desk.ask("moves x x"), len(desk.ask("moves x y"))), ([], 2))
        for line in ("moves", "moves x", "moves x ", "moves x w", "moves w x", "moves x y z", "moves x  y", "moves  x"):
            self.assertRaises(NoAsk, desk.ask, line)

    def test_fronts(self):
        desk = some_desk()
        self.assertEqual(desk.ask("fronts x"), ["1 3", "0", "2"])
        self.assertEqual(desk.ask("fronts x y"), ["0 1 2 3"])
        self.assertEqual(desk.ask("fronts z"), ["0 1 2 3"])
        self.assertEqual(desk.ask("fronts x z x"), ["1 3", "0", "2"])
        desk.ask("take 0")
        desk.ask("turn 1 b 6")
        self.assertEqual(desk.ask("fronts x y"), ["1", "2 3"])
        desk.ask("put 1 6")
        self.assertEqual(desk.ask("fronts y x"), ["1 5", "2 3"])
        for line in ("fronts", "fronts ", "fronts w", "fronts x w", "fronts x ", "fronts  x", "fronts x  y", "fronts 0"):
            self.assertRaises(NoAsk, desk.ask, line)

    def test_of_no_things(self):
        desk = desk_of("fields a", "order x up a", "order y down a")
        for line in ("row x", "first x 0", "moves x y", "fronts x", "fronts x y"):
            self.assertEqual(desk.ask(line), [])
        for line, refusal in (("place x 0", NoThing), ("take 0", NoThing), ("turn 0 a 1", NoThing), ("first x 1", NoPlace)):
            self.assertRaises(refusal, desk.ask, line)

    def test_other_lines(self):
        desk = some_desk()
        answers = all_answers(desk)
        for line in ("", " ", "what", "up a", "rows x", "row\tx", "row x\n", "ROW x", "put1 2", "order\tx up a", "like", "~", "0"):
            self.assertRaises(NoAsk, desk.ask, line)
        self.assertEqual(all_answers(desk), answers)

    def test_told_lists_are_the_askers_own(self):
        desk = some_desk()
        answers = all_answers(desk)
        for line in ("row x", "first x 3", "moves x y", "fronts x", "place x 0", "judge " + RING, "same x y", "judge up a"):
            told = desk.ask(line)
            kept = list(told)
            told.append("more")
            told.reverse()
            self.assertEqual(desk.ask(line), kept)
        self.assertEqual(all_answers(desk), answers)
        row = desk.ask("row x")
        desk.ask("take 0")
        desk.ask("put 0 0")
        self.assertEqual(row, ["1", "3", "0", "2"])

    def test_two_desks_by_themselves(self):
        one, other = some_desk(), some_desk()
        one.ask("take 0")
        one.ask("order x down a")
        self.assertEqual((one.ask("row x"), other.ask("row x")), (["2", "1", "3"], ["1", "3", "0", "2"]))

    def test_all_refusals_are_order_errors(self):
        desk = some_desk()
        for line in ("", "put x x", "judge up", "judge up c", "take 9", "first x 9", "order x " + RING):
            self.assertRaises(OrderError, desk.ask, line)


class PlainDesk:
    """A desk that puts all in order afresh at each question."""

    def __init__(self, book):
        self.book, self.things, self.orders, self.given = book, {}, {}, 0

    def numbers(self, name):
        numbers = sorted(self.things)
        row = tuple(self.things[number] for number in numbers)
        return [numbers[place] for place in turning(self.orders[name], self.book, row)]

    def answers(self):
        told = {}
        numbers = sorted(self.things)
        for name in self.orders:
            row = self.numbers(name)
            told[f"row {name}"] = [str(number) for number in row]
            told[f"first {name} {len(row) // 2}"] = [str(number) for number in row[:len(row) // 2]]
            for place, number in enumerate(row):
                told[f"place {name} {number}"] = [str(place)]
            for other in self.orders:
                turn = tuple(row.index(number) for number in self.numbers(other))
                told[f"moves {name} {other}"] = [f"{start} {end}" for start, end in moves(turn)]
        if self.orders:
            told["fronts " + " ".join(self.orders)] = [
                " ".join(str(numbers[place]) for place in front)
                for front in fronts(list(self.orders.values()), self.book, tuple(self.things[number] for number in numbers))[0]
            ]
        return told


class BehindEachDeedTest(unittest.TestCase):
    TEXTS = ("up a", "down a", "like", "up b", "then up b down a", "pick both under a 1 up b up a", "turn then up a up b")

    def deed(self, chance, desk, plain):
        what = chance.random()
        number = chance.choice(sorted(plain.things) or [0])
        if what < 0.2:
            name, text = chance.choice("xyz"), chance.choice(self.TEXTS)
            self.assertEqual(desk.ask(f"order {name} {text}"), [])
            plain.orders[name] = order_of(text)
        elif what < 0.6 or not plain.things:
            values = [chance.choice(("0", "1", "1/2", "2", "4/2", "-3")) for field in BOOK]
            self.assertEqual(desk.ask("put " + " ".join(values)), [str(plain.given)])
            plain.things[plain.given] = thing(*values)
            plain.given += 1
        elif what < 0.75:
            self.assertEqual(desk.ask(f"take {number}"), [])
            del plain.things[number]
        else:
            field, value = chance.choice((0, 1)), chance.choice(("0", "1", "5", "-1/3"))
            self.assertEqual(desk.ask(f"turn {number} {BOOK[field]} {value}"), [])
            one = list(plain.things[number])
            one[field] = fraction_of(value)
            plain.things[number] = tuple(one)

    def test_all_answers_afresh(self):
        chance = random.Random(130)
        for session in range(4):
            desk, plain = desk_of("fields a b"), PlainDesk(BOOK)
            for turn in range(50):
                self.deed(chance, desk, plain)
                for line, told in plain.answers().items():
                    self.assertEqual(desk.ask(line), told, line)
                for line in ("put 1", "put 1 x", f"take {plain.given}", "turn 0 c x", "order x up", "order y " + RING, "fields"):
                    self.assertRaises(OrderError, desk.ask, line)

    def test_sixty_things(self):
        chance = random.Random(131)
        desk, row = desk_of("fields a b", "order x up a", "order y then down b up a"), []
        for number in range(60):
            row.append(thing(chance.randrange(9), chance.randrange(9)))
            self.assertEqual(desk.ask("put " + " ".join(map(number_shown, row[-1]))), [str(number)])
        for name, text in (("x", "up a"), ("y", "then down b up a")):
            turn = turning(order_of(text), BOOK, tuple(row))
            self.assertEqual(desk.ask(f"row {name}"), [str(place) for place in turn])
        pairs = tuple(tuple(map(int, text.split(" "))) for text in desk.ask("moves x y"))
        first = turned(tuple(row), turning(order_of("up a"), BOOK, tuple(row)))
        self.assertEqual(len(pairs), len(moves(turning_between(desk))))
        self.assertEqual(sorted(moved(first, pairs)), sorted(row))


def turning_between(desk):
    row = desk.ask("row x")
    return tuple(row.index(number) for number in desk.ask("row y"))


if __name__ == "__main__":
    unittest.main()

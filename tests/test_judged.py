"""[10]: the kind of each word."""

import unittest

from asking import Asking
from kindsure.errors import Uncovered, Unsteady
from small_kinds import MOST, NUM, TRUTH, cho, many_names, rec
from trees import (EMPTY, NO, ONE, TWO, UNSURE_FAULTS, X, Y, YES, add, again, call, case, choice, field, less, let,
                   name, num, part, put, record, take, when)

ONE_OF_EACH_MAKE = [NUM, TRUTH, rec(a=NUM), cho(a=NUM)]
POINT = rec(x=NUM, y=NUM)


class Leaves(Asking):
    def test_numbers_and_truths(self):
        for number in (0, 1, -1, MOST, -MOST):
            self.is_told(NUM, num(number))
        self.is_told(TRUTH, YES)
        self.is_told(TRUTH, NO)

    def test_names(self):
        deep = rec(a=cho(b=rec(c=TRUTH), d=rec()), e=rec(a=NUM))
        for kind in ONE_OF_EACH_MAKE + [rec(), deep, cho(a=deep, b=deep)]:
            self.is_told(kind, X, {"x": kind, "y": NUM})

    def test_the_order_of_parts_does_not_count(self):
        forth = ("record", {"a": NUM, "b": TRUTH})
        back = ("record", {"b": TRUTH, "a": NUM})
        self.is_told(forth, when(YES, X, Y), {"x": forth, "y": back})
        self.is_told(forth, call("same", Y), {"y": back}, [("same", [("x", forth)], X)])
        self.is_told(cho(s=forth), again(1, "z", choice("s", X), choice("s", Y)), {"x": forth, "y": back})
        self.is_told(cho(s=back, t=forth), when(YES, choice("s", X), choice("t", Y)), {"x": forth, "y": back})


class Numbers(Asking):
    def test_sums_differences_and_quotients(self):
        for word in (add, take, part):
            self.is_told(NUM, word(ONE, X), {"x": NUM})
            self.is_told(NUM, word(word(X, X), word(ONE, TWO)), {"x": NUM})

    def test_a_less(self):
        self.is_told(TRUTH, less(ONE, X), {"x": NUM})

    def test_what_only_a_run_can_come_to(self):
        self.is_told(NUM, part(ONE, num(0)))
        self.is_told(NUM, add(num(MOST), num(MOST)))


class Lets(Asking):
    def test_lets(self):
        self.is_told(rec(a=NUM), let("x", ONE, record(a=X)))
        self.is_told(TRUTH, let("x", ONE, let("x", YES, X)))
        self.is_told(rec(a=TRUTH, b=NUM), let("x", ONE, record(a=let("x", YES, X), b=X)))
        self.is_told(rec(a=rec(b=NUM)), let("x", record(b=X), record(a=X)), {"x": NUM})
        self.is_told(TRUTH, let("x", ONE, Y), {"y": TRUTH})


class Ifs(Asking):
    def test_sides_of_one_kind(self):
        for kind in ONE_OF_EACH_MAKE:
            self.is_told(kind, when(YES, X, X), {"x": kind})
            self.is_told(kind, when(Y, X, name("z")), {"x": kind, "y": TRUTH, "z": kind})

    def test_the_meeting_of_both_sides(self):
        self.is_told(rec(a=NUM), when(YES, record(a=ONE, b=TWO), record(a=TWO, c=YES)))
        self.is_told(rec(), when(YES, record(a=ONE), record(a=YES)))
        self.is_told(cho(a=NUM, b=TRUTH), when(YES, choice("a", ONE), choice("b", YES)))
        self.is_told(cho(a=rec(b=NUM)), when(NO, choice("a", record(b=ONE, c=ONE)), choice("a", record(b=ONE))))
        self.is_told(rec(a=cho(a=NUM, b=NUM)), when(NO, record(a=choice("a", ONE)), record(a=choice("b", ONE))))
        self.is_told(rec(c=NUM), when(YES, record(a=choice("b", ONE), c=ONE), record(a=choice("b", YES), c=ONE)))


class Records(Asking):
    def test_records(self):
        self.is_told(rec(), EMPTY)
        self.is_told(rec(a=NUM, b=TRUTH, c=rec(), d=cho(e=NUM)), record(a=ONE, b=YES, c=EMPTY, d=choice("e", ONE)))
        names = many_names(300)
        self.is_told(("record", {of: [NUM, TRUTH][at % 2] for at, of in enumerate(names)}),
                     ("record", [(of, [ONE, YES][at % 2]) for at, of in enumerate(names)]))

    def test_fields(self):
        for kind in ONE_OF_EACH_MAKE:
            self.is_told(kind, field(X, "f"), {"x": rec(f=kind, g=NUM)})
            self.is_told(kind, field(field(X, "f"), "f"), {"x": rec(f=rec(f=kind))})

    def test_withs(self):
        self.is_told(rec(a=TRUTH), put(record(a=ONE), "a", YES))
        self.is_told(rec(a=NUM, b=TRUTH), put(record(a=ONE), "b", YES))
        self.is_told(rec(b=NUM), put(EMPTY, "b", ONE))
        self.is_told(rec(a=rec(a=NUM)), put(X, "a", X), {"x": rec(a=NUM)})
        self.is_told(rec(x=rec(a=NUM), y=rec(a=TRUTH)), let("x", record(a=ONE), record(x=X, y=put(X, "a", YES))))


class Choices(Asking):
    def test_a_choice_is_the_kind_of_one_shape(self):
        for kind in ONE_OF_EACH_MAKE:
            self.is_told(cho(s=kind), choice("s", X), {"x": kind})
        self.is_told(cho(a=cho(a=cho(b=NUM))), choice("a", choice("a", choice("b", ONE))))

    def test_the_meeting_of_the_rows_kinds(self):
        self.is_told(NUM, case(choice("a", ONE), ("a", "x", X)))
        either = {"x": cho(a=NUM, b=TRUTH)}
        self.is_told(cho(c=NUM, d=TRUTH), case(X, ("a", "y", choice("c", Y)), ("b", "y", choice("d", Y))), either)
        self.is_told(rec(e=NUM), case(X, ("b", "y", record(f=Y, e=ONE)), ("a", "y", record(f=Y, e=Y))), either)
        three = {"x": cho(a=NUM, b=NUM, c=NUM)}
        self.is_told(rec(), case(X, ("a", "x", record(a=X)), ("b", "x", record(b=X)), ("c", "x", record(a=X))), three)
        self.is_told(rec(e=cho(a=NUM, b=NUM, c=NUM)), case(
            X, *[(shape, "x", record(e=choice(shape, X))) for shape in "cab"]), three)

    def test_the_name_has_the_kind_of_the_shape_within_the_row_alone(self):
        either = {"x": cho(a=rec(c=TRUTH), b=TRUTH)}
        self.is_told(TRUTH, case(X, ("a", "x", field(X, "c")), ("b", "x", X)), either)
        self.is_told(rec(d=NUM, e=cho(a=rec(c=TRUTH), b=TRUTH)),
                     record(d=case(X, ("a", "x", ONE), ("b", "x", TWO)), e=X), either)
        self.is_told(NUM, case(X, ("a", "x", Y), ("b", "z", Y)), {**either, "y": NUM})

    def test_rows_of_a_shape_that_cannot_come_are_not_judged(self):
        for fault in UNSURE_FAULTS.values():
            self.is_told(NUM, case(choice("a", ONE), ("b", "x", fault), ("a", "x", X), ("c", "x", fault)))
        self.is_told(NUM, case(choice("a", ONE), ("b", "x", YES), ("a", "x", X), ("c", "x", EMPTY)))

    def test_rows_behind_one_with_their_shape_are_not_judged(self):
        for fault in UNSURE_FAULTS.values():
            self.is_told(NUM, case(choice("a", ONE), ("a", "x", X), ("a", "x", fault), ("a", "y", fault)))
            self.is_told(cho(c=NUM, d=TRUTH), case(
                X, ("b", "y", choice("d", Y)), ("b", "y", fault), ("a", "y", choice("c", Y)), ("b", "x", fault),
                ("a", "y", fault)), {"x": cho(a=NUM, b=TRUTH)})
        self.is_told(NUM, case(choice("a", ONE), ("a", "x", X), ("a", "x", YES)))


def shapes(*letters):
    return ("choice", {letter: rec() for letter in letters})


def rows_of(letters):
    """A tree that goes on from each shape to the one behind it, and stays at the last one."""
    rows = [(here, "y", choice(there, EMPTY)) for here, there in zip(letters, letters[1:])]
    return case(X, *rows, (letters[-1], "y", X))


def falling(letters):
    """A start, what goes on, and the kind at rest, of records whose fields lose theirs one a round."""
    start = record(**{letter: record(z=ONE) for letter in letters})
    shifted = {behind: field(X, letter) for letter, behind in zip(letters, letters[1:])}
    return start, record(**{letters[0]: EMPTY}, **shifted), rec(**{letter: rec() for letter in letters})


class Agains(Asking):
    def test_at_rest_at_once(self):
        for times in range(10):
            self.is_told(NUM, again(times, "x", ONE, add(X, ONE)))
            self.is_told(rec(a=NUM), again(times, "x", record(a=ONE), put(X, "a", TWO)))
            self.is_told(rec(), again(times, "x", EMPTY, put(X, "a", TWO)))
            self.is_told(shapes("a", "b"), again(times, "x", Y, choice("a", EMPTY)), {"y": shapes("a", "b")})

    def test_at_rest_after_some_rounds(self):
        for times in range(10):
            self.is_told(rec(b=TRUTH), again(times, "x", record(a=ONE, b=YES), record(b=field(X, "b"))))
            self.is_told(cho(a=NUM, b=NUM), again(times, "x", choice("a", ONE), case(
                X, ("a", "y", choice("b", Y)), ("b", "y", choice("a", Y)))))
            self.is_told(cho(a=rec(b=NUM)), again(times, "x", choice("a", record(b=ONE, c=TWO)), case(
                X, ("a", "y", choice("a", record(b=field(Y, "b")))))))

    def test_each_number_of_rounds_up_to_the_last_one_that_is_allowed(self):
        for many in range(1, 10):
            letters = "abcdefghi"[:many]
            for times in (0, 1, 9):
                # Of as many shapes, all have been come to ahead of the last round, in which nothing is new.
                self.is_told(shapes(*letters), again(times, "x", choice("a", EMPTY), case(
                    X, *[(here, "y", choice(there, EMPTY)) for here, there in zip(letters, letters[1:] + "a")])))
                self.is_told(shapes(*letters), again(times, "x", choice("a", EMPTY), rows_of(letters)))

    def test_fields_that_are_left_out_one_a_round(self):
        for many in range(1, 9):
            start, goes_on, wanted = falling("abcdefgh"[:many])
            self.is_told(wanted, again(3, "x", start, goes_on))

    def test_a_later_round_judges_with_the_kind_so_far(self):
        # At first x has a field b, which what it goes on with has not; that one's field c is not at the start.
        tree = again(2, "x", record(a=ONE, b=TWO), put(put(EMPTY, "a", field(X, "a")), "c", X))
        self.is_told(rec(a=NUM), tree)
        tree = again(1, "x", choice("a", ONE), case(X, ("a", "y", choice("b", YES)), ("b", "y", choice("c", Y))))
        self.unsure(Uncovered, tree)

    def test_not_at_rest_by_the_last_round(self):
        for times in range(10):
            self.unsure(Unsteady, again(times, "x", choice("a", EMPTY), rows_of("abcdefghij")))
            self.unsure(Unsteady, again(times, "x", choice("a", ONE), choice("b", X)))
            start, goes_on, _ = falling("abcdefghi")
            self.unsure(Unsteady, again(times, "x", start, goes_on))

    def test_a_kind_that_grows_very_wide(self):
        # Of eight fields, in the ninth round there would be over a hundred million parts, told one by one.
        octants = record(**{letter: X for letter in "abcdefgh"})
        self.unsure(Unsteady, again(3, "x", choice("leaf", ONE), choice("node", octants)))

    def test_an_again_within_an_again(self):
        tree = again(2, "x", choice("a", ONE), again(2, "z", X, choice("b", TWO)))
        self.is_told(cho(a=NUM, b=NUM), tree)
        tree = again(2, "x", again(2, "x", choice("a", ONE), choice("b", ONE)), choice("c", ONE))
        self.is_told(cho(a=NUM, b=NUM, c=NUM), tree)

    def test_the_name_is_there_within_alone(self):
        self.is_told(rec(a=NUM, b=TRUTH), record(a=again(1, "x", ONE, X), b=X), {"x": TRUTH})
        self.is_told(NUM, again(1, "x", field(X, "a"), add(X, ONE)), {"x": rec(a=NUM)})


class Calls(Asking):
    DEEDS = [("gives", [("x", POINT)], X),
             ("sum", [("x", POINT)], add(field(X, "x"), field(X, "y"))),
             ("either", [("x", cho(a=NUM, b=TRUTH))], X),
             ("two", [("x", NUM), ("y", rec(a=NUM))], record(f=X, g=Y)),
             ("none", [], choice("s", ONE))]

    def told(self, wanted, tree, names=None):
        self.is_told(wanted, tree, names, self.DEEDS)

    def test_the_kind_of_the_deeds_tree(self):
        self.told(cho(s=NUM), call("none"))
        self.told(NUM, call("sum", record(x=ONE, y=TWO)))
        self.told(rec(f=NUM, g=rec(a=NUM)), call("two", ONE, record(a=TWO)))

    def test_args_that_fit_by_more_change_nothing(self):
        self.told(POINT, call("gives", record(x=ONE, y=TWO, z=YES)))
        self.told(POINT, call("gives", X), {"x": rec(x=NUM, y=NUM, z=rec(a=NUM))})
        self.told(cho(a=NUM, b=TRUTH), call("either", choice("a", ONE)))
        self.told(cho(a=NUM, b=TRUTH), call("either", choice("b", YES)))
        self.told(rec(f=NUM, g=rec(a=NUM)), call("two", ONE, record(a=TWO, b=TWO)))

    def test_a_call_within_a_call(self):
        self.told(NUM, call("sum", call("gives", call("gives", record(z=ONE, y=ONE, x=ONE)))))

    def test_deeds_that_call_deeds(self):
        deeds = self.DEEDS + [("more", [("z", rec(x=NUM, y=NUM, z=NUM))], record(a=call("gives", name("z"))))]
        self.is_told(rec(a=POINT), call("more", record(x=ONE, y=ONE, z=ONE, a=ONE)), {}, deeds)


if __name__ == "__main__":
    unittest.main()

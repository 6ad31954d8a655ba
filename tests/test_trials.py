"""Desks: blocks and calls behind which a desk is as it was."""

import unittest

from meltback.desk import Desk
from meltback.errors import InvalidCommand, InvalidScript, InvalidText, Mismatch
from meltback.kinds import Kind
from meltback.tables import Table
from test_desk import filled, state


class Boom(Exception):
    """An error of a caller's own."""


class Trials(unittest.TestCase):
    """[37]."""

    def test_a_block(self):
        desk, said = filled()
        before = state(desk)
        with desk.trial() as inside:
            self.assertIs(inside, desk)
            self.assertEqual(state(desk), before)
            desk.several(["row 2 h z", "keep p has n", "keep s", "undo", "kind a b", "row x y", "keep p"])
            self.assertEqual((desk.table.rows, len(desk)), ((("x", "y"),), 11))
        self.assertEqual(state(desk), before)
        self.assertEqual(desk.say("undo"), "undone")

    def test_commands_that_can_be_taken_back_are_there_again(self):
        desk, said = filled()
        before = state(desk)
        with desk.trial():
            for times in range(6):
                self.assertEqual(desk.say("undo"), "undone")
            self.assertEqual((desk.say("undo"), desk.kind, len(desk)), ("nothing", Kind(["a"]), 0))
            desk.say("row x")
        self.assertEqual(state(desk), before)
        self.assertEqual([desk.say("undo") for times in range(7)], ["undone"] * 6 + ["nothing"])

    def test_as_it_was_when_it_was_entered(self):
        desk = Desk()
        trial = desk.trial()
        desk.say("row x")
        before = state(desk)
        with trial as inside:
            self.assertIs(inside, desk)
            desk.say("row y")
        self.assertEqual(state(desk), before)

    def test_an_error_goes_on(self):
        for error in [Boom, ValueError, KeyError, InvalidCommand]:
            desk, said = filled()
            before = state(desk)
            with self.assertRaises(error):
                with desk.trial():
                    desk.several(["row 2 h z", "kind a"])
                    raise error
            self.assertEqual(state(desk), before)
        with self.assertRaises(InvalidCommand):
            with desk.trial():
                desk.say("kind b")
                desk.say("nothing")
        self.assertEqual(state(desk), before)

    def test_a_block_that_is_left_early(self):
        desk, said = filled()
        before = state(desk)
        for times in range(2):
            with desk.trial():
                desk.say("row 5 h z")
                continue
        self.assertEqual(state(desk), before)

    def test_one_within_another(self):
        desk, said = filled()
        states = [state(desk)]
        with desk.trial():
            desk.say("row 2 h z")
            states.append(state(desk))
            with desk.trial():
                desk.say("kind a")
                states.append(state(desk))
                with desk.trial() as inside:
                    inside.say("undo")
                    inside.say("undo")
                    inside.say("undo")
                self.assertEqual(state(desk), states[2])
            self.assertEqual(state(desk), states[1])
            with self.assertRaises(Boom):
                with desk.trial():
                    desk.say("kind b")
                    raise Boom
            self.assertEqual(state(desk), states[1])
        self.assertEqual(state(desk), states[0])

    def test_new_ones(self):
        desk = Desk()
        self.assertIsNot(desk.trial(), desk.trial())
        with desk.trial(), desk.trial():
            desk.say("row x")
        self.assertEqual(len(desk.table), 0)

    def test_two_desks(self):
        one, other = filled()[0], filled()[0]
        before = state(other)
        with one.trial():
            one.say("kind a")
            self.assertEqual(state(other), before)
            other.say("row 3 h z")
        self.assertEqual((len(one.table), len(other.table), len(one), len(other)), (2, 3, 6, 7))
        one.say("keep s is n z")
        with self.assertRaises(InvalidCommand):
            other.say("show s")


class Tried(unittest.TestCase):
    """[37]."""

    def test_what_the_work_returns(self):
        desk, said = filled()
        before = state(desk)
        for value in [None, 0, "x", [1], desk]:
            self.assertIs(desk.tried(lambda inside: value), value)
        self.assertEqual(desk.tried(lambda inside: inside.say("row 2 h z")), "3")
        self.assertEqual(desk.tried(lambda inside: (inside is desk, inside.say("kind a"), len(inside))), (True, "1", 7))
        self.assertEqual(state(desk), before)
        self.assertEqual(desk.tried(work=len), 6)

    def test_work_that_raises(self):
        desk, said = filled()
        before = state(desk)

        def work(inside):
            inside.several(["undo", "undo", "kind a b", "row x y"])
            raise Boom

        with self.assertRaises(Boom):
            desk.tried(work)
        self.assertEqual(state(desk), before)
        with self.assertRaises(InvalidCommand):
            desk.tried(lambda inside: inside.say("kind a") + inside.say("no"))
        self.assertEqual(state(desk), before)

    def test_work_within_work(self):
        desk, said = filled()
        before = state(desk)

        def work(inside):
            inside.say("row 2 h z")
            many = inside.tried(lambda deeper: deeper.say("row 3 h z"))
            return many, len(inside.table)

        self.assertEqual(desk.tried(work), ("4", 3))
        self.assertEqual(state(desk), before)


class Several(unittest.TestCase):
    """[37]."""

    def test_results(self):
        desk = Desk()
        self.assertEqual(desk.several(["kind a b", "row x y", "keep p pick b", "show p", "fits", "undo", "undo"]), ("2", "1", "1", "b ; y", "yes", "undone", "undone"))
        self.assertEqual(desk.several(("row x -", "row - y")), ("1", "2"))
        self.assertEqual((desk.several([]), desk.several(()), len(desk), len(desk.table)), ((), (), 3, 2))
        self.assertEqual(desk.several(commands=["undo"]), ("undone",))
        self.assertEqual(desk.say(command="undo"), "undone")

    def test_the_list_is_left_as_it_is(self):
        commands = ["row x", "undo"]
        Desk().several(commands)
        self.assertEqual(commands, ["row x", "undo"])

    def test_errors(self):
        wrong = [("row x", InvalidCommand), ("keep p has z", InvalidScript), ("kind a a", InvalidText), ("within p q", (Mismatch, InvalidCommand)), (None, InvalidCommand), (5, InvalidCommand)]
        for command, error in wrong:
            for ahead in [[], ["row 7 h z"], ["undo", "undo"], ["keep s", "kind id n v", "keep p", "keep q pick n"], ["undo"] * 9 + ["kind a b c", "keep p", "keep q pick a"]]:
                desk, said = filled()
                before = state(desk)
                with self.assertRaises(error):
                    desk.several([*ahead, command, "row 9 h z"])
                self.assertEqual(state(desk), before)
                self.assertEqual(desk.say("row 9 h z"), "3")

    def test_within_a_trial(self):
        desk, said = filled()
        before = state(desk)
        with desk.trial():
            desk.say("row 2 h z")
            between = state(desk)
            with self.assertRaises(InvalidCommand):
                desk.several(["kind a", "no"])
            self.assertEqual(state(desk), between)
            desk.several(["kind a", "row x"])
            self.assertEqual(desk.table, Table(["a"], [("x",)]))
        self.assertEqual(state(desk), before)


if __name__ == "__main__":
    unittest.main()

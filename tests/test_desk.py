"""Desks: commands and their results, what is no command, and what can be taken back."""

import unittest

from meltback.desk import Desk
from meltback.errors import InvalidCommand, InvalidKind, InvalidScript, InvalidText, Mismatch
from meltback.kinds import Kind
from meltback.scripts import Script
from meltback.tables import Table
from meltback.ways import way
from reading import kind_of, script_of, table_of
from values import NO_STRINGS, OBJECTS, WRONG_NAME_STRINGS


def state(desk):
    """All that can be seen of a desk."""
    shown = {}
    for name in ["p", "q", "r", "s"]:
        try:
            shown[name] = desk.say(f"show {name}")
        except InvalidCommand:
            shown[name] = None
    return desk.kind, desk.table, len(desk), shown


def filled():
    """A desk with a kind, rows and scripts."""
    desk = Desk()
    said = ["kind id n v ; always id n v", "row 1 h x", "row 1 k y", "keep p", "keep q pivot id by n v to h k", "keep r pivot id by n v to h k ; has h"]
    return desk, [desk.say(command) for command in said]


class Commands(unittest.TestCase):
    """[36]."""

    def say(self, desk, command, result):
        answer = desk.say(command)
        self.assertEqual(answer, result, command)
        self.assertIsInstance(answer, str)

    def test_at_first(self):
        desk = Desk()
        self.assertEqual((desk.kind, str(desk.kind), desk.table, len(desk)), (Kind(["a"]), "a", Table(["a"]), 0))
        self.say(desk, "fits", "yes")
        self.say(desk, "undo", "nothing")
        self.say(desk, "row x", "1")
        self.say(desk, "keep p is a x", "1")
        self.say(desk, "show p", "a ; x")

    def test_kind(self):
        desk = Desk()
        self.say(desk, "kind id may june ; always id ; rule id : may ; rule : june", "3")
        self.assertEqual(str(desk.kind), "id may june\nalways id\nrule id : may\nrule : june")
        self.assertEqual(desk.table, Table(["id", "may", "june"]))
        self.say(desk, "kind b", "1")
        self.assertEqual((str(desk.kind), desk.table), ("b", Table(["b"])))
        self.say(desk, "kind b", "1")
        self.assertEqual(len(desk), 3)

    def test_a_new_kind_loses_rows_and_scripts(self):
        desk, said = filled()
        self.say(desk, "kind id n v ; always id n v", "3")
        self.assertEqual(desk.table, Table(["id", "n", "v"]))
        for name in "pqr":
            with self.assertRaises(InvalidCommand):
                desk.say(f"show {name}")
        self.say(desk, "undo", "undone")
        self.assertEqual(len(desk.table), 2)
        self.say(desk, "show r", "id h k ; 1 x y")

    def test_row(self):
        desk = Desk()
        desk.say("kind a b")
        self.say(desk, "row x -", "1")
        self.say(desk, "row x -", "1")
        self.say(desk, "row - -", "1")
        self.say(desk, "row - y", "2")
        self.say(desk, "row x y", "1")
        self.say(desk, "row - y", "1")
        self.say(desk, "row as end", "2")
        self.assertEqual(desk.table, table_of("a b ; x y ; as end"))
        self.assertEqual(len(desk), 8)

    def test_keep_and_show(self):
        desk, said = filled()
        self.assertEqual(said, ["3", "1", "2", "0", "1", "2"])
        self.say(desk, "show p", "id n v ; 1 h x ; 1 k y")
        self.say(desk, "show q", "id h k ; 1 x y")
        self.say(desk, "show q", "id h k ; 1 x y")
        self.say(desk, "keep q is n k", "1")
        self.say(desk, "show q", "id n v ; 1 k y")
        self.say(desk, "keep q", "0")
        self.say(desk, "keep p is n z", "1")
        self.say(desk, "show p", "id n v")
        self.say(desk, "keep s join id ; stack ; end ; pick id ; end ; stack ; end", "2")
        self.assertEqual(len(desk), 10)

    def test_the_cells_that_lack_are_shown(self):
        desk = Desk()
        desk.several(["kind a b", "row x -", "row - y", "keep p pick b a"])
        self.say(desk, "show p", "b a ; - x ; y -")

    def test_names_of_commands_can_be_names(self):
        desk = Desk()
        for name in ["kind", "row", "keep", "show", "fits", "undo", "way", "pick", "a"]:
            self.say(desk, f"keep {name}", "0")
            self.say(desk, f"show {name}", "a")
        self.say(desk, "keep keep has a", "1")
        self.say(desk, "way kind row", "-")
        self.say(desk, "within way undo", "yes")

    def test_fits(self):
        desk = Desk()
        desk.say("kind a b ; always a ; rule a : b")
        self.say(desk, "fits", "yes")
        desk.say("row x -")
        self.say(desk, "fits", "yes")
        desk.say("row - y")
        self.say(desk, "fits", "no")
        self.say(desk, "fits", "no")
        desk.say("undo")
        desk.several(["row x y", "row x z"])
        self.say(desk, "fits", "no")
        self.assertEqual(len(desk), 4)

    def test_within(self):
        desk, said = filled()
        self.say(desk, "within r q", "yes")
        self.say(desk, "within q r", "no")
        self.say(desk, "within q r", "no")
        self.say(desk, "within p p", "yes")
        self.assertEqual(len(desk), 6)

    def test_within_is_asked_of_the_kind(self):
        desk = Desk()
        desk.several(["kind a b", "keep p", "keep q has b"])
        self.say(desk, "within p q", "no")
        desk.several(["kind a b ; always b", "keep p", "keep q has b"])
        self.say(desk, "within p q", "yes")

    def test_way(self):
        desk, said = filled()
        self.say(desk, "way p p", "-")
        self.say(desk, "way q q", "-")
        self.say(desk, "way q p", "never")
        self.say(desk, "way q p", "never")
        answer = desk.say("way q r")
        self.assertEqual(answer, str(way(script_of("id n v", "pivot id by n v to h k"), script_of("id n v", "pivot id by n v to h k ; has h"), desk.kind)).replace("\n", " ; "))
        r = script_of("id h k", answer)
        self.assertEqual(r(script_of("id n v", "pivot id by n v to h k")(desk.table)), table_of("id h k ; 1 x y"))
        self.assertEqual(len(desk), 6)

    def test_a_way_can_be_kept(self):
        desk = Desk()
        desk.several(["kind a b ; always a b", "keep p has a", "keep q stack ; rename a c ; rename b a ; rename c b ; end", "row x y"])
        self.say(desk, "keep r " + desk.say("way p q"), str(len(script_of("a b", desk.say("way p q")))))
        self.say(desk, "show r", "a b ; x y ; y x")

    def test_attributes(self):
        desk, said = filled()
        self.assertEqual(desk.kind, kind_of("id n v ; always id n v"))
        self.assertEqual(desk.table, table_of("id n v ; 1 h x ; 1 k y"))
        self.assertLessEqual({"kind", "table"}, set(vars(Desk())))

    def test_not_iterable(self):
        for action in [iter, list, tuple, sorted, lambda desk: "a" in desk, lambda desk: [*desk]]:
            with self.assertRaises(TypeError):
                action(filled()[0])


class Undo(unittest.TestCase):
    """[36], and `len` of [37]."""

    def test_to_the_beginning_and_beyond(self):
        desk = Desk()
        commands = ["row x", "row -", "keep p", "keep p is a y", "kind a b ; always a", "keep q has b", "row x y", "row x y", "kind c", "keep p is c x", "row z"]
        states = [state(desk)]
        for command in commands:
            desk.say(command)
            self.assertEqual(len(desk), len(states))
            states.append(state(desk))
        for before in states[-2::-1]:
            self.assertEqual(desk.say("undo"), "undone")
            self.assertEqual(state(desk), before)
        for times in range(3):
            self.assertEqual(desk.say("undo"), "nothing")
            self.assertEqual(state(desk), states[0])

    def test_what_is_not_taken_back(self):
        desk, said = filled()
        before = state(desk)
        for command in ["show p", "fits", "within p p", "way p q"]:
            desk.say(command)
        desk.say("keep p has n")
        for command in ["show p", "fits", "within p p", "way q p"]:
            desk.say(command)
        self.assertEqual((len(desk), desk.say("undo")), (7, "undone"))
        self.assertEqual(state(desk), before)

    def test_undo_is_not_taken_back(self):
        desk = Desk()
        desk.several(["row x", "row y", "undo"])
        self.assertEqual((desk.say("undo"), desk.say("undo"), len(desk.table)), ("undone", "nothing", 0))

    def test_commands_that_are_wrong_are_not_taken_back(self):
        desk, said = filled()
        before = state(desk)
        for command in ["row x", "keep p has z", "kind a a", "keep p pick", "within p q", "row 1 2 X"]:
            with self.assertRaises((InvalidCommand, InvalidText, InvalidScript, Mismatch)):
                desk.say(command)
        self.assertEqual(state(desk), before)

    def test_a_name_that_was_there(self):
        desk = Desk()
        desk.several(["row x", "keep p", "keep p is a y"])
        self.assertEqual(desk.say("show p"), "a")
        desk.say("undo")
        self.assertEqual(desk.say("show p"), "a ; x")
        desk.say("undo")
        with self.assertRaises(InvalidCommand):
            desk.say("show p")


class Wrong(unittest.TestCase):
    """[37]: what is no command, and the errors of what stands in commands."""

    def check(self, command, error=InvalidCommand, **attributes):
        desk, said = filled()
        before = state(desk)
        with self.assertRaises(error) as raised:
            desk.say(command)
        self.assertIs(error, raised.exception.__class__)
        self.assertEqual(vars(raised.exception), attributes, command)
        self.assertEqual(state(desk), before)

    def test_no_strings(self):
        for value in NO_STRINGS + OBJECTS + [["fits"], ("undo",), Desk(), [["show p"]]]:
            self.check(value)

    def test_newlines_and_empty_words(self):
        for command in ["", " ", "fits ", " fits", "  ", "fits\n", "\nfits", "keep p\nhas n", "keep p has n\n", "keep p  has n", "keep  p", "keep p ",
                        "kind a  b", "kind  a", "kind a ", "row 1  h x", "row 1 h x ", "show  p", "kind a ;  always a", "keep p has n ;  has v", "kind a\nalways a"]:
            self.check(command)

    def test_words_that_are_no_commands(self):
        for command in ["x", "Fits", "FITS", "fit", "p", ";", "-", "Kind a", "kinds a", "rows x", "keep;p", "undo;", "fits\t", "fits\r", "say fits", "kept p"]:
            self.check(command)

    def test_a_word_more_or_less(self):
        for command in ["kind", "row", "keep", "show", "within", "way", "within p", "way p", "show p q", "show p p", "within p q r", "way p q r", "fits p", "fits fits",
                        "undo p", "undo 1", "undo undo", "row 1", "row 1 h", "row 1 h x y", "row - - - -", "show p ;", "undo ; undo", "fits ; fits"]:
            self.check(command)

    def test_names(self):
        for name in [name for name in WRONG_NAME_STRINGS if name] + ["-", ";"]:
            if " " not in name and "\n" not in name:
                self.check(f"keep {name}")
                self.check(f"keep {name} has n")
                self.check(f"keep {name} no step")
                self.check(f"show {name}")
                self.check(f"within {name} p")
                self.check(f"way p {name}")

    def test_names_that_are_not_kept(self):
        for name in ["z", "id", "n", "pq", "kind"]:
            for command in [f"show {name}", f"within {name} p", f"within p {name}", f"way {name} p", f"way p {name}", f"way {name} {name}"]:
                self.check(command)

    def test_cells(self):
        for cell in ["X", "--", "1234567", "_", "x-", "\u00e9", "\t", "None", ";"]:
            self.check(f"row 1 {cell} x")
            self.check(f"row {cell} h x")
            self.check(f"row 1 h {cell}")

    def test_errors_of_kinds(self):
        for text, at in [("A", 0), ("a a", 0), ("as", 0), ("a b c ; b", 1), ("a ; always b", 1), ("a b ; rule a : b ; always a", 2), ("a ; always", 1), ("; a", 0), ("a ;", 0), ("a ; ; a", 1)]:
            self.check(f"kind {text}", InvalidText, at=at)
        self.assertTrue(issubclass(InvalidKind, ValueError))

    def test_errors_of_scripts(self):
        for text, at in [("has", 0), ("no step", 0), ("has n ; has", 1), ("stack", 1), ("stack ; end ; end", 2), ("join id ; has n", 2), ("; has n", 0), ("has n ;", 0), ("has n ; ; has n", 1), ("end", 0)]:
            self.check(f"keep p {text}", InvalidText, at=at)
            self.check(f"keep s {text}", InvalidText, at=at)
        for text, at, word in [("has z", 0, "column"), ("has n ; pick a", 1, "column"), ("put n x", 0, "new"), ("stack ; pick n ; end", 0, "steps")]:
            self.check(f"keep p {text}", InvalidScript, at=at, word=word)

    def test_errors_of_the_functions(self):
        for command in ["within p q", "within q p"]:
            self.check(command, Mismatch)


class Separators(unittest.TestCase):
    """[36]: what stands for a newline."""

    def test_from_left_to_right(self):
        """The blank behind the first one is its own, so the second one has none ahead of it."""
        desk = Desk()
        for text, at in [("has a ; ; has a", 1), ("has a ; ; ; has a", 1), ("has a ; ; ; ; has a", 1)]:
            with self.assertRaises(InvalidText) as raised:
                desk.say(f"keep p {text}")
            self.assertEqual(raised.exception.at, at)

    def test_a_semicolon_within_a_word(self):
        with self.assertRaises(InvalidText):
            Desk().say("keep p has a; has a")
        with self.assertRaises(InvalidText):
            Desk().say("keep p has a ;has a")

    def test_in_results(self):
        desk, said = filled()
        for command in ["show p", "way q r"]:
            self.assertNotIn("\n", desk.say(command))
            self.assertIn(" ; ", desk.say(command))
        self.assertEqual(Table.read(desk.say("show p").replace(" ; ", "\n")), desk.table)
        self.assertIsInstance(Script.read(["id", "h", "k"], desk.say("way q r").replace(" ; ", "\n")), Script)


if __name__ == "__main__":
    unittest.main()

"""[19] and [20]: kinds, which tables are of them, and what follows of their rules."""

import operator
import random
import unittest
from itertools import permutations, product

from choosing import some_kind
from meltback.errors import InvalidKind, Mismatch
from meltback.kinds import Kind
from meltback.scripts import Script
from meltback.tables import Table
from values import NO_LISTS_OF_NAMES, NO_SEQUENCES, NO_STRINGS, OBJECTS, WRONG_NAME_STRINGS

ABC = ["a", "b", "c"]
COMPARISONS = (operator.le, operator.lt, operator.ge, operator.gt)
RULES = [(("a",), "b"), ((), "c"), (("b", "a"), "c")]
KIND = Kind(ABC, ["c", "a"], RULES)

NO_RULES = NO_SEQUENCES + NO_STRINGS + [
    (("a",),), (("a",), "b", "c"), (("a",), "a"), (("a", "b"), "b"), (("a", "a"), "b"), (("z",), "b"), (("a",), "z"), (("a", "z"), "b"),
    ("a", "b"), (None, "b"), (("a",), None), (("a",), ("b",)), (("a",), ["b"]), ((("a",),), "b"), (("a", 1), "b"), (("a",), 1), (("a",), True),
    ("b", ("a",)), (1, "b"), ("", "b"), ((), ""), (("a",), "as"), ({"a"}, "b"), (("a",), Table(["b"])), ((Table(["a"]),), "b"),
]
NO_RULES += [((name,), "b") for name in WRONG_NAME_STRINGS] + [(("a",), name) for name in WRONG_NAME_STRINGS]


def rules_of(columns, most):
    """All rules over columns with at most so many columns ahead."""
    for column in columns:
        rest = [name for name in columns if name != column]
        for many in range(most + 1):
            for by in permutations(rest, many):
                yield by, column


def breaks(table, by, column):
    """Whether two rows of a table break a rule, seen pair by pair."""
    places, at = [table.columns.index(name) for name in by], table.columns.index(column)
    for one, other in product(table.rows, repeat=2):
        same = all(one[place] is not None and one[place] == other[place] for place in places)
        if same and one[at] is not None and other[at] is not None and one[at] != other[at]:
            return True
    return False


def is_of(table, kind):
    lacking = any(row[table.columns.index(name)] is None for row in table.rows for name in kind.always)
    return not lacking and not any(breaks(table, by, column) for by, column in kind.rules)


def small_tables(columns):
    """All tables with at most two rows over three cells."""
    rows = [row for row in product((None, "x", "y"), repeat=len(columns)) if any(row)]
    return [Table(columns)] + [Table(columns, [rows[one], rows[two]]) for one in range(len(rows)) for two in range(one + 1)]


class Made(unittest.TestCase):
    def raises(self, word, *passed):
        with self.assertRaises(InvalidKind) as caught:
            Kind(*passed)
        self.assertEqual(caught.exception.word, word, passed)

    def test_20_attributes(self):
        self.assertEqual((KIND.columns, KIND.always, KIND.rules), (("a", "b", "c"), ("a", "c"), tuple(RULES)))
        for kind in (Kind(["a"]), Kind(("a",), (), ()), Kind(["a"], [], [])):
            self.assertEqual((kind.columns, kind.always, kind.rules), (("a",), (), ()))
        kind = Kind(["b", "a", "ab"], ("b", "ab", "a"), (RULES[0], RULES[0]))
        self.assertEqual((kind.columns, kind.always, kind.rules), (("b", "a", "ab"), ("a", "ab", "b"), (RULES[0], RULES[0])))
        self.assertEqual(Kind(rules=RULES, always=["a", "c"], columns=ABC), KIND)

    def test_2_tuples(self):
        kind = Kind(ABC, ["a"], [[["a"], "b"], (["b", "a"], "c")])
        self.assertEqual(kind.rules, ((("a",), "b"), (("b", "a"), "c")))
        for value in (kind.columns, kind.always, kind.rules, *kind.rules, *[by for by, column in kind.rules]):
            self.assertIs(type(value), tuple)

    def test_2_later_changes_have_no_effect(self):
        columns, always, by = ["a", "b", "c"], ["c"], ["a"]
        rules = [(by, "b")]
        kind = Kind(columns, always, rules)
        self.assertEqual((columns, always, rules), (["a", "b", "c"], ["c"], [(["a"], "b")]))
        columns[0], always[0], by[0] = "z", "a", "c"
        rules.append((("a",), "c"))
        self.assertEqual((kind.columns, kind.always, kind.rules), (("a", "b", "c"), ("c",), ((("a",), "b"),)))

    def test_19_columns(self):
        for columns in NO_LISTS_OF_NAMES + [[], ()]:
            self.raises("columns", columns)
            self.raises("columns", columns, None, None)
            self.raises("columns", columns, ["z"], [5])

    def test_19_always(self):
        for always in NO_LISTS_OF_NAMES + [["z"], ("a", "z"), ["a", "a"], [["a"]], [("a", "b")], ["a", 1], ["a", None]]:
            self.raises("always", ["a", "b"], always)
            self.raises("always", ["a", "b"], always, None)
            self.raises("always", ["a", "b"], always, [(("a",), "a")])

    def test_19_rules(self):
        for rules in NO_SEQUENCES:
            self.raises("rules", ABC, (), rules)
        for rule in NO_RULES:
            self.raises("rules", ABC, (), [rule])
            self.raises("rules", ABC, ["a"], (RULES[0], rule))
        self.raises("rules", ["a"], ["a"], [(("a",), "a")])

    def test_2_not_iterable(self):
        for use in (iter, list, tuple):
            with self.assertRaises(TypeError):
                use(KIND)


class Within(unittest.TestCase):
    def test_19_always_there(self):
        kind = Kind(["a", "b"], ["b"])
        for rows, within in [([], True), ([("x", "y")], True), ([(None, "y")], True), ([("x", None)], False), ([("z", "y"), ("x", None)], False)]:
            self.assertIs(Table(["a", "b"], rows) in kind, within)

    def test_19_rules(self):
        kind = Kind(ABC, (), [(("a", "b"), "c")])
        for rows, within in [
            ([("1", "2", "x"), ("1", "2", "y")], False), ([("1", "2", "x"), ("1", "3", "y")], True), ([("1", "2", "x"), ("1", "2", None)], True),
            ([("1", None, "x"), ("1", None, "y")], True), ([("1", None, "x"), ("1", "2", "y")], True), ([("1", "2", "x"), ("2", "1", "y")], True),
            ([("1", "2", "x"), ("3", "4", "y"), ("1", "2", "z")], False), ([(None, None, "x"), (None, None, "y")], True),
        ]:
            self.assertIs(Table(ABC, rows) in kind, within, rows)

    def test_19_rules_without_columns(self):
        kind = Kind(["a", "b"], (), [((), "a")])
        for rows, within in [
            ([], True), ([("x", "1"), ("x", "2")], True), ([("x", "1"), ("y", "1")], False), ([("x", "1"), (None, "2"), (None, "3")], True),
        ]:
            self.assertIs(Table(["a", "b"], rows) in kind, within)

    def test_19_all_rules(self):
        kind = Kind(ABC, (), [(("a",), "b"), (("a",), "c")])
        self.assertNotIn(Table(ABC, [("1", "x", "p"), ("1", "x", "q")]), kind)
        self.assertNotIn(Table(ABC, [("1", "x", "p"), ("1", "y", "p")]), kind)
        self.assertIn(Table(ABC, [("1", "x", None), ("1", None, "q")]), kind)

    def test_20_other_columns(self):
        for columns in (["a"], ["a", "b"], ["a", "c", "b"], ["a", "b", "c", "d"], ["a", "b", "d"]):
            self.assertIs(Table(columns) in Kind(ABC), False)

    def test_20_any_value(self):
        kind = Kind(["z"])
        for value in NO_SEQUENCES + NO_STRINGS + OBJECTS + [Kind(["z"]), Script(["z"]), ["z"], ("z",), [["x"]]]:
            self.assertIs(value in kind, False)
        self.assertIs(Table(["z"]) in kind, True)

    def test_19_beside_all_small_tables(self):
        chosen = random.Random(19)
        tables = {many: small_tables(ABC[:many]) for many in (1, 2, 3)}
        for number in range(60):
            kind = some_kind(chosen, ABC[:chosen.randint(1, 3)], 3)
            for table in tables[len(kind.columns)]:
                self.assertIs(table in kind, is_of(table, kind), (str(kind), str(table)))


class Followed(unittest.TestCase):
    def follows(self, kind, rules):
        for by, column, holds in rules:
            self.assertIs(kind.follows(by, column), holds, (str(kind), by, column))
            self.assertIs(kind.follows(column=column, by=list(by)), holds)

    def test_20_the_rules_themselves(self):
        self.follows(KIND, [((("a",)), "b", True), ((), "c", True), (("b", "a"), "c", True), (("b",), "a", False), ((), "a", False)])
        self.follows(Kind(ABC), [((), "a", False), (("a",), "b", False), (("a", "b"), "c", False)])

    def test_20_more_columns_ahead(self):
        kind = Kind(ABC, (), [(("a",), "b")])
        self.follows(kind, [(("a", "c"), "b", True), (("c", "a"), "b", True), (("c",), "b", False), (("a",), "c", False)])
        self.follows(Kind(ABC, (), [((), "b")]), [(("a",), "b", True), (("a", "c"), "b", True), ((), "b", True), ((), "a", False)])

    def test_20_chains_go_on_by_columns_always_there(self):
        rules = [(("a",), "b"), (("b",), "c")]
        self.follows(Kind(ABC, ["b"], rules), [(("a",), "c", True), (("c",), "a", False)])
        self.follows(Kind(ABC, ["a", "c"], rules), [(("a",), "c", False), (("a", "b"), "c", True)])
        self.follows(Kind(ABC, [], [((), "b"), (("b",), "c")]), [((), "c", False), ((), "b", True)])
        self.follows(Kind(ABC, ["b"], [((), "b"), (("b",), "c")]), [((), "c", True)])

    def test_20_long_chains_in_any_order(self):
        names = ["a", "b", "c", "d", "e"]
        chain = [((one,), other) for one, other in zip(names, names[1:])]
        for rules in permutations(chain):
            self.follows(Kind(names, ["b", "c", "d"], rules), [(("a",), "e", True), (("b",), "a", False)])
            self.follows(Kind(names, ["b", "d"], rules), [(("a",), "e", False), (("a",), "c", True), (("a", "c"), "e", True)])

    def test_20_rings(self):
        rules = [(("a",), "b"), (("b",), "c"), (("c",), "a")]
        ring = Kind(ABC, ABC, rules)
        self.follows(ring, [((one,), other, True) for one, other in permutations(ABC, 2)])
        self.follows(ring, [((), name, False) for name in ABC])
        self.follows(Kind(ABC, ["a"], rules), [(("c",), "b", True), (("a",), "c", False), (("b",), "a", False)])

    def test_20_one_column(self):
        self.follows(Kind(["a"]), [((), "a", False)])
        self.follows(Kind(["a"], ["a"], [((), "a")]), [((), "a", True)])

    def test_20_beside_all_small_tables(self):
        chosen = random.Random(20)
        tables = {many: small_tables(ABC[:many]) for many in (1, 2, 3)}
        for number in range(150):
            kind = some_kind(chosen, ABC[:chosen.randint(1, 3)], 4)
            its = [table for table in tables[len(kind.columns)] if is_of(table, kind)]
            for by, column in rules_of(kind.columns, 2):
                holds = not any(breaks(table, by, column) for table in its)
                self.assertIs(kind.follows(by, column), holds, (str(kind), by, column))


class Compared(unittest.TestCase):
    def compares(self, one, other, le, ge):
        self.assertEqual([use(one, other) for use in COMPARISONS], [le, le and not ge, ge, ge and not le], (str(one), str(other)))
        self.assertEqual([use(other, one) for use in COMPARISONS], [ge, ge and not le, le, le and not ge])
        self.assertEqual((one == other, one != other), (le and ge, not (le and ge)))

    def test_20_comparisons(self):
        loose, rule = Kind(ABC), Kind(ABC, [], [(("a",), "b")])
        self.compares(loose, Kind(ABC), True, True)
        self.compares(Kind(ABC, ["a"]), loose, True, False)
        self.compares(Kind(ABC, ["a", "b"]), Kind(ABC, ["b"]), True, False)
        self.compares(Kind(ABC, ["a"]), Kind(ABC, ["b"]), False, False)
        self.compares(rule, loose, True, False)
        self.compares(rule, Kind(ABC, ["a"]), False, False)
        self.compares(rule, Kind(ABC, [], [(("a", "c"), "b")]), True, False)

    def test_20_equal_though_told_otherwise(self):
        rules = [(("a",), "b"), (("b",), "c")]
        self.compares(Kind(ABC, ["b"], rules), Kind(ABC, ["b"], [*rules, (("a",), "c")]), True, True)
        self.compares(Kind(ABC, [], rules), Kind(ABC, [], [*rules, (("a",), "c")]), False, True)
        self.compares(Kind(ABC, ["b", "a"], rules), Kind(ABC, ["a", "b"], rules[::-1]), True, True)
        self.compares(Kind(["a"]), Kind(["a"], ["a"]), True, True)
        self.compares(Kind(["a", "b"]), Kind(["a", "b"], ["a", "b"]), False, True)

    def test_20_other_columns(self):
        for columns in (["a", "c", "b"], ["a", "b"], ["a", "b", "d"], ["a", "b", "c", "d"]):
            self.compares(Kind(ABC), Kind(columns), False, False)
            self.compares(Kind(ABC, ["a"]), Kind(columns), False, False)

    def test_20_beside_all_small_tables(self):
        chosen = random.Random(21)
        tables = {many: small_tables(ABC[:many]) for many in (1, 2, 3)}
        for number in range(250):
            columns = ABC[:chosen.randint(1, 3)]
            one, other = some_kind(chosen, columns), some_kind(chosen, columns)
            its = [(is_of(table, one), is_of(table, other)) for table in tables[len(columns)]]
            self.compares(one, other, all(b for a, b in its if a), all(a for a, b in its if b))

    def test_2_equal_to_nothing_of_another_class(self):
        for other in (str(KIND), None, 0, True, Table(ABC), Script(ABC), [KIND], (KIND.columns, KIND.always, KIND.rules)):
            self.assertIs(KIND == other, False)
            self.assertIs(other == KIND, False)
            self.assertIs(KIND != other, True)


class PutTogether(unittest.TestCase):
    def test_20_and(self):
        one = Kind(ABC, ["c"], [(("a",), "b"), ((), "c")])
        other = Kind(ABC, ["a", "c"], [((), "c"), (("b",), "a")])
        both = one & other
        self.assertEqual((both.columns, both.always, both.rules), (("a", "b", "c"), ("a", "c"), (*one.rules, *other.rules)))
        self.assertEqual((other & one).rules, (*other.rules, *one.rules))
        self.assertEqual((one & one).rules, one.rules + one.rules)
        self.assertEqual(str(one & Kind(ABC)), str(one))

    def test_20_and_is_what_both_ask_for(self):
        chosen = random.Random(22)
        tables = small_tables(ABC)
        for number in range(30):
            one, other = some_kind(chosen, ABC), some_kind(chosen, ABC)
            for table in tables:
                self.assertIs(table in one & other, table in one and table in other)

    def test_2_in_place_and_changes_nothing(self):
        one, other = Kind(ABC, ["c"]), Kind(ABC, ["a"], RULES)
        both = one
        both &= other
        self.assertEqual((both.always, both.rules), (("a", "c"), tuple(RULES)))
        self.assertEqual((one.always, one.rules, other.always, other.rules), (("c",), (), ("a",), tuple(RULES)))

    def test_20_and_mismatch(self):
        for columns in (["a", "c", "b"], ["a", "b"], ["a", "b", "d"], ["a", "b", "c", "d"]):
            for use in (operator.and_, operator.iand):
                with self.assertRaises(Mismatch):
                    use(KIND, Kind(columns))
                with self.assertRaises(Mismatch):
                    use(Kind(columns), KIND)


if __name__ == "__main__":
    unittest.main()

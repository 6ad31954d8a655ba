"""Papers that there is no way: right by each of their words, and not right if a word is changed."""

import random
import unittest

from choosing import TEXTS, some_kind, some_script, some_table_of
from meltback.kinds import Kind
from meltback.shapes import shapes, weight
from meltback.tables import Table
from meltback.ways import no_way, no_way_holds, way
from proving import is_right
from reading import kind_of, script_of, table_of
from values import NO_LISTS_OF_STEPS, NO_STRINGS, OBJECTS

LOOSE = kind_of("id may june ; always id may june")
MELT = script_of("id may june", "melt may june as n v")
ALL = script_of("id may june")
FIRST = table_of("id may june ; 1 m1 j1 ; 1 m2 j2")
SECOND = table_of("id may june ; 1 m1 j2 ; 1 m2 j1")
ROW = ("1", "m1", "j1")


class Papers(unittest.TestCase):
    """[35]."""

    def holds(self, value, p=MELT, q=ALL, kind=LOOSE):
        answer = no_way_holds(p, q, kind, value)
        self.assertIn(answer, [True, False])
        return answer

    def test_the_example(self):
        kind = kind_of("id may june ; always id ; rule id : may ; rule id : june")
        found = no_way(MELT, ALL, LOOSE)
        self.assertTrue(self.holds(found))
        self.assertFalse(self.holds(found, kind=kind))
        self.assertIn(found[2], ALL(found[0]))

    def test_without_pairs(self):
        self.assertTrue(self.holds((FIRST, SECOND, ROW, ())))
        self.assertTrue(self.holds((FIRST, SECOND, ("1", "m1", "j1"), ())))
        self.assertTrue(self.holds((FIRST, SECOND, (None, "m1", "j1"), ())))
        self.assertFalse(self.holds((FIRST, SECOND, ("1", "m1", None), ())))
        self.assertFalse(self.holds((FIRST, SECOND, ("1", "m1", "j2"), ())))
        self.assertFalse(self.holds((FIRST, SECOND, (None, None, None), ())))
        self.assertFalse(self.holds((SECOND, FIRST, ROW, ())))
        self.assertTrue(self.holds((SECOND, FIRST, ("1", "m2", "j1"), ())))
        self.assertFalse(self.holds((FIRST, FIRST, ROW, ())))

    def test_a_second_table_that_tells_more_or_less(self):
        more = SECOND | table_of("id may june ; 2 m j ; 1 m3 j3")
        self.assertTrue(self.holds((FIRST, more, ROW, ())))
        self.assertFalse(self.holds((FIRST, SECOND | table_of("id may june ; 1 m1 j1"), ROW, ())))
        self.assertFalse(self.holds((FIRST, table_of("id may june ; 1 m1 j2"), ROW, ())))
        self.assertTrue(self.holds((table_of("id may june ; 1 m1 j1"), SECOND, ROW, ())))
        self.assertFalse(self.holds((FIRST, table_of("id may june"), ROW, ())))

    def test_pairs(self):
        one = table_of("id may june ; 7 m3 j3")
        row = ("7", "m3", "j3")
        pairs = (("7", "1"), ("j3", "j1"), ("m3", "m1"))
        self.assertTrue(self.holds((one, SECOND, row, pairs)))
        self.assertFalse(self.holds((one, SECOND, row, ())))
        for at in range(3):
            self.assertFalse(self.holds((one, SECOND, row, pairs[:at] + pairs[at + 1:])), "left out")
        self.assertFalse(self.holds((one, SECOND, row, (pairs[1], pairs[0], pairs[2]))), "exchanged")
        self.assertFalse(self.holds((one, SECOND, row, pairs[::-1])), "turned round")
        self.assertFalse(self.holds((one, SECOND, row, tuple((other, text) for text, other in pairs))), "turned")
        self.assertTrue(self.holds((one, SECOND, row, (*pairs[:2], ("k", "x"), pairs[2]))), "put in")
        self.assertFalse(self.holds((one, SECOND, row, (*pairs, ("k", "x")))), "put in at the wrong place")
        self.assertFalse(self.holds((one, SECOND, row, (pairs[0], *pairs))), "put in again")
        self.assertFalse(self.holds((one, SECOND, row, (*pairs, ("m3", "m2")))), "put in with another text")
        self.assertFalse(self.holds((one, SECOND, row, (pairs[0], ("j3", "j2"), pairs[2]))), "led to a row that is there")

    def test_pairs_are_done_at_once(self):
        one = table_of("id may june ; 1 x y ; 1 z w")
        other = table_of("id may june ; 1 y w ; 1 w x")
        pairs = (("w", "w"), ("x", "y"), ("y", "x"), ("z", "w"))
        self.assertTrue(self.holds((one, other, ("1", "x", "y"), pairs)))

    def test_told_texts_are_not_led_elsewhere(self):
        p, q, kind = script_of("a b", "has a ; is a x ; pick b"), script_of("a b", "is a y ; put c z"), Kind(["a", "b"])
        first, row = table_of("a b ; y u"), ("y", "u", "z")
        self.assertTrue(self.holds((first, Table(["a", "b"]), row, ()), p, q, kind))
        self.assertTrue(self.holds((first, Table(["a", "b"]), row, (("u", "x"),)), p, q, kind))
        for text in ["x", "y", "z"]:
            self.assertFalse(self.holds((first, Table(["a", "b"]), row, ((text, "u"),)), p, q, kind))
            self.assertFalse(self.holds((first, Table(["a", "b"]), row, ((text, text),)), p, q, kind))
        self.assertFalse(self.holds((FIRST, SECOND, ROW, (("may", "may"),))), "the name of a melted column")

    def test_tables_that_are_not_of_the_kind(self):
        kind = kind_of("id may june ; always id may june ; rule may : june")
        self.assertTrue(self.holds((FIRST, SECOND, ROW, ()), kind=kind))
        self.assertFalse(self.holds((FIRST, SECOND, ROW, ()), kind=kind_of("id may june ; always id may june ; rule id : may")))
        self.assertFalse(self.holds((FIRST | table_of("id may june ; 2 - j"), SECOND, ROW, ())))
        self.assertFalse(self.holds((FIRST, SECOND | table_of("id may june ; 2 - j"), ROW, ())))
        turned = Table(["may", "id", "june"], [(row[1], row[0], row[2]) for row in SECOND.rows])
        self.assertFalse(self.holds((FIRST, turned, ROW, ())))
        self.assertFalse(self.holds((turned, SECOND, ROW, ())))

    def test_the_second_table_only_needs_to_keep_the_rules(self):
        first = table_of("id may june ; 1 m1 j1")
        kind = kind_of("id may june ; always id may june ; rule may june : id")
        self.assertTrue(self.holds((first, SECOND, ROW, ()), kind=kind))

    def test_lists_in_the_place_of_tuples(self):
        one, row, pairs = table_of("id may june ; 7 m3 j3"), ("7", "m3", "j3"), (("7", "1"), ("j3", "j1"), ("m3", "m1"))
        self.assertTrue(self.holds((one, SECOND, row, pairs)))
        self.assertFalse(self.holds([one, SECOND, row, pairs]))
        self.assertFalse(self.holds((one, SECOND, list(row), pairs)))
        self.assertFalse(self.holds((one, SECOND, row, list(pairs))))
        self.assertFalse(self.holds((one, SECOND, row, (list(pairs[0]), *pairs[1:]))))
        self.assertFalse(self.holds((FIRST, SECOND, ROW, [])))
        self.assertFalse(self.holds((FIRST.rows, SECOND, ROW, ())))

    def test_any_other_value(self):
        right = (FIRST, SECOND, ROW, ())
        others = NO_STRINGS + OBJECTS + NO_LISTS_OF_STEPS + ["", "a", "abc", MELT, LOOSE, FIRST, ROW, ((),), ((), ()), "abcd", ("a",) * 4, ((),) * 4]
        for value in others:
            self.assertFalse(self.holds(value), value)
            for at in range(4):
                if value is not right[at]:
                    self.assertFalse(self.holds((*right[:at], value, *right[at + 1:])), (at, value))
            self.assertFalse(self.holds((*right, value)))
            self.assertFalse(self.holds((FIRST, SECOND, ROW, (value,))), value)
            if not isinstance(value, str) or value == "":
                self.assertFalse(self.holds((FIRST, SECOND, ROW, ((value, "x"),))), value)
                self.assertFalse(self.holds((FIRST, SECOND, ROW, (("zz", value),))), value)
            self.assertFalse(self.holds((FIRST, SECOND, ("1", "m1", value), ())), value)
        self.assertFalse(self.holds(right[:3]))
        self.assertFalse(self.holds((FIRST, SECOND, ROW, (("zz", "x", "y"),))))
        self.assertFalse(self.holds((FIRST, SECOND, ROW, (("zz",),))))
        self.assertFalse(self.holds((FIRST, SECOND, ROW, ("ab",))))
        self.assertFalse(self.holds((FIRST, SECOND, ROW[:2], ())))
        self.assertFalse(self.holds((FIRST, SECOND, (*ROW, None), ())))
        for text in ["", "A", "toolong", "x y", "-", "\n"]:
            self.assertFalse(self.holds((FIRST, SECOND, ROW, (("zz", text),))))
            self.assertFalse(self.holds((FIRST, SECOND, ROW, ((text, "zz"),))))

    def test_a_first_table_of_which_nothing_is_told(self):
        p, q, kind = script_of("a b", "is a x"), script_of("a b"), Kind(["a", "b"])
        self.assertTrue(self.holds((table_of("a b ; y z"), Table(["a", "b"]), ("y", "z"), ()), p, q, kind))
        self.assertTrue(self.holds((table_of("a b ; y z"), table_of("a b ; y w"), ("y", "z"), ()), p, q, kind))
        self.assertTrue(self.holds((table_of("a b ; y z"), table_of("a b ; y z"), ("y", "z"), (("z", "w"),)), p, q, kind))
        self.assertFalse(self.holds((table_of("a b ; y z"), table_of("a b ; y z"), ("y", "z"), ()), p, q, kind))


def changed(chosen, paper):
    """The paper with something changed in it."""
    first, second, row, pairs = paper
    texts = sorted(set(first.texts + second.texts + tuple(TEXTS) + ("z9",)))
    way_to_change = chosen.randrange(9)
    if way_to_change == 0 and pairs:
        at = chosen.randrange(len(pairs))
        return first, second, row, pairs[:at] + pairs[at + 1:]
    if way_to_change == 1:
        return first, second, row, tuple(sorted([*pairs, (chosen.choice(texts), chosen.choice(texts))]))
    if way_to_change == 2:
        return first, second, row, tuple(chosen.sample(list(pairs), len(pairs)))
    if way_to_change == 3:
        return first, second, row, tuple(sorted((other, text) for text, other in pairs))
    if way_to_change == 4:
        return second, first, row, pairs
    if way_to_change == 5:
        return first, second, tuple(chosen.choice([None, *texts]) if chosen.random() < 0.3 else cell for cell in row), pairs
    if way_to_change == 6 and len(first) > 0:
        return first, second, tuple(chosen.choice(first.rows)[:len(row)]) + (None,) * (len(row) - len(first.columns)), pairs
    if way_to_change == 7:
        return first, Table(second.columns, chosen.sample(second.rows, chosen.randint(0, len(second)))), row, pairs
    return first, second.mapped({chosen.choice(texts): chosen.choice(texts)}), row, pairs


class ByChance(unittest.TestCase):
    """[4], [35]: what is changed in a paper, and papers where there is a way."""

    def cases(self, seed, many):
        chosen = random.Random(seed)
        while many:
            columns = chosen.sample(["a", "b", "c"], chosen.randint(1, 3))
            kind = some_kind(chosen, columns, 2)
            p, q = some_script(chosen, columns, 3), some_script(chosen, columns, 2)
            if weight(p, kind) <= 8 and weight(q, kind) <= 4 and all(len(p(shape.table)) <= 3 for shape in shapes(q, kind)):
                many -= 1
                yield chosen, p, q, kind

    def test_papers_that_are_changed(self):
        answers = {True: 0, False: 0}
        for chosen, p, q, kind in self.cases(21, 500):
            paper = no_way(p, q, kind)
            for times in range(8 if paper else 0):
                other = changed(chosen, paper)
                answer = no_way_holds(p, q, kind, other)
                answers[answer] += 1
                self.assertEqual(answer, is_right(p, q, kind, other), (str(p), str(q), str(kind), other))
        self.assertGreater(min(answers.values()), 100)

    def test_no_paper_is_right_where_there_is_a_way(self):
        tried = 0
        for chosen, p, q, kind in self.cases(22, 250):
            if way(p, q, kind) is None:
                continue
            for times in range(6):
                first, second = some_table_of(chosen, kind, 3), some_table_of(chosen, kind, 3)
                free = [text for text in first.texts if text not in p.texts + q.texts]
                pairs = tuple((text, chosen.choice(TEXTS)) for text in free)
                for row in q(first).rows:
                    tried += 1
                    self.assertFalse(no_way_holds(p, q, kind, (first, second, row, pairs)), (str(p), str(q), str(kind)))
                    self.assertFalse(no_way_holds(p, q, kind, (first, first.mapped(dict(pairs)), row, pairs)))
        self.assertGreater(tried, 300)

    def test_papers_with_other_texts_and_fewer_rows(self):
        """What is returned may be passed on so: the answer is that of the words."""
        for chosen, p, q, kind in self.cases(23, 200):
            paper = no_way(p, q, kind)
            if paper is None:
                continue
            first, second, row, pairs = paper
            free = [text for text in sorted(set(first.texts + second.texts)) if text not in p.texts + q.texts]
            named = {text: f"q{at}" for at, text in enumerate(free)}
            again = tuple((named.get(text, text), named.get(other, other)) for text, other in pairs)
            other = (first.mapped(named), second.mapped(named), tuple(named.get(cell, cell) for cell in row), tuple(sorted(again)))
            self.assertTrue(no_way_holds(p, q, kind, other), (str(p), str(q), str(kind), other))


if __name__ == "__main__":
    unittest.main()

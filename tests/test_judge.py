"""Point 25: the judge, and what point 8 says of it."""

import random
import unittest

from leastlaid.judge import has_layout, is_best, is_table
from leastlaid.stands import first_stand, moves
from leastlaid.tables import laid, least_badness, stands_of, table_of
from tests import documents, plain_docs
from tests.documents import A, B, C, DEEP, LONG, RANKS
from tests.values import OTHERS, STRANGE

RANK = RANKS[0]
HARD, GAP, LINE = ("hard",), ("gap",), ("line", " ")
CALL = ("group", ("row", (("text", "call("), ("nest", 1, ("row", (("line", ""), ("text", "alpha,"), LINE, ("text", "beta")))),
                          ("line", ""), ("text", ")"))))
FLAT, TALL = "call(alpha, beta)", "call(\n alpha,\n beta\n)"


def parts_otherwise(thing, put, at=()):
    """Each integer, string, None or tuple in a value, with what puts another thing there."""
    yield thing, put
    if isinstance(thing, tuple):
        for place, part in enumerate(thing):
            yield from parts_otherwise(
                part, lambda other, place=place: put(thing[:place] + (other,) + thing[place + 1:]), at + (place,))


class TrueTables(unittest.TestCase):
    def check(self, width, rank, document):
        table = table_of(width, rank, document)
        self.assertIs(is_table(width, rank, document, table), True)
        for badness in (least_badness(width, rank, document), table[0][1]):
            self.assertEqual(badness, plain_docs.best(width, rank, document)[0])
        source = random.Random(repr(document))
        for _ in range(2):
            mixed = list(table)
            source.shuffle(mixed)
            self.assertIs(is_table(width, rank, document, tuple(mixed)), True)
        self.assertIs(is_table(width, rank, document, table[::-1]), True)
        return table

    def test_small_ones(self):
        for at, document in enumerate(documents.small_ones()[::2]):
            self.check(8, RANKS[at % 6], document)

    def test_any_many(self):
        for at, document in enumerate(documents.any_many(25, 60, most=8, deep=6)):
            self.check((8, 9, 13, 120)[at % 4], RANKS[at % 6], document)

    def test_more_than_can_be_come_to(self):
        many = documents.any_many(125, 30)
        for one, other in zip(many[::2], many[1::2]):
            table = table_of(9, RANK, one)
            known = [stand for stand, _ in table]
            more = tuple(entry for entry in table_of(9, RANK, other) if entry[0] not in known)
            for thing in (table + more, more + table, (((77, ()), (0, 0, 0)),) + table):
                if (77, ()) not in known:
                    self.assertIs(is_table(9, RANK, one, thing), True)
            self.assertIs(is_table(9, RANK, other, table + more), True)
            # What can't be come to must be right, too.
            if more and more[0][1] != (0, 0, 0):
                wrong = ((more[0][0], (0, 0, 0)),) + more[1:]
                self.assertIs(is_table(9, RANK, one, table + wrong), False)
        table = table_of(9, RANK, A)
        self.assertIs(is_table(9, RANK, A, table + (((5, ((3, B),)), (0, 0, 0)),)), False)
        self.assertIs(is_table(9, RANK, A, table + (((5, ((3, B),)), (0, 0, 0)), ((7, ()), (0, 0, 0)))), True)
        self.assertIs(is_table(9, RANK, A, table + (((8, ((3, B),)), (1, 0, 0)), ((10, ()), (0, 0, 0)))), True)
        self.assertIs(is_table(9, RANK, A, table + (((8, ((3, B),)), (0, 0, 0)), ((10, ()), (0, 0, 0)))), False)

    def test_each_other_document_has_another(self):
        many = documents.any_many(225, 30)
        for one, other in zip(many, many[1:]):
            is_there = first_stand(other) in [stand for stand, _ in table_of(9, RANK, one)]
            self.assertIs(is_table(9, RANK, other, table_of(9, RANK, one)), is_there)

    def test_width_and_rank_count(self):
        table = table_of(12, RANK, CALL)
        self.assertIs(is_table(13, RANK, CALL, table), False)
        self.assertIs(is_table(17, RANK, CALL, table), False)
        for rank in RANKS[1:]:
            self.assertIs(is_table(12, rank, CALL, table), rank[0] == "over")
        self.assertIs(is_table(12, ("over", "broken", "lines"), CALL, table), True)

    def test_bounds(self):
        for document in (LONG, DEEP):
            table = self.check(20, RANK, document)
            self.assertIs(is_best(20, RANK, document, laid(20, RANK, document), table), True)
            self.assertIs(is_table(20, RANK, document, table[:-1]), False)
        document = ("row", tuple(("choice", ("text", "x" * 2 ** at), ("text", "")) for at in range(5)) + (A,) * 584)
        table = table_of(20, RANK, document)
        self.assertGreater(len(table), 15000)
        self.assertIs(is_table(20, RANK, document, table), True)
        self.assertIs(is_table(20, RANK, document, table[:9000] + table[9001:]), False)


class NoTables(unittest.TestCase):
    def check(self, thing, document=CALL):
        self.assertIs(is_table(12, RANK, document, thing), False, repr(thing)[:300])
        self.assertIs(is_best(12, RANK, document, TALL, thing), False)

    def test_a_badness_otherwise(self):
        table = table_of(12, RANK, CALL)
        for at, (stand, badness) in enumerate(table):
            for part in range(3):
                for more in (1, -1, 7):
                    other = badness[:part] + (badness[part] + more,) + badness[part + 1:]
                    self.check(table[:at] + ((stand, other),) + table[at + 1:])

    def test_all_worse_alike(self):
        table = table_of(12, RANK, CALL)
        for part in range(3):
            more = tuple(
                (stand, badness if not stand[1] else badness[:part] + (badness[part] + 1,) + badness[part + 1:])
                for stand, badness in table)
            self.check(more)
            self.check(tuple((stand, badness[:part] + (badness[part] + 1,) + badness[part + 1:]) for stand, badness in table))

    def test_a_stand_left_out(self):
        for document in [CALL] + documents.any_many(325, 20):
            table = table_of(12, RANK, document)
            for at in range(len(table)):
                self.check(table[:at] + table[at + 1:], document)

    def test_a_stand_twice(self):
        table = table_of(12, RANK, CALL)
        for at, entry in enumerate(table):
            self.check(table + (entry,))
            self.check((entry,) + table)
            self.check(table + ((entry[0], (9, 9, 9)),))
        again = table_of(12, RANK, eval(repr(CALL)))
        self.check(table + again)

    def test_first_moves_alone(self):
        # What the worse moves come to has to be there, too.
        def one_way(place):
            found, stand = [], first_stand(CALL)
            while stand[1]:
                told = moves(12, stand)
                move = told[min(place, len(told) - 1)]
                found.append((stand, move[1]))
                stand = move[2]
            sums = []
            badness = (0, 0, 0)
            for stand_then, more in found[::-1]:
                badness = tuple(map(sum, zip(badness, more)))
                sums.append((stand_then, badness))
            return tuple(sums) + ((stand, (0, 0, 0)),)

        self.check(one_way(0))
        self.check(one_way(1))

    def test_each_part_otherwise(self):
        document = ("nest", 1, ("row", (A, ("group", ("nest", 0, LINE)), ("align", ("fill", (B, ("raw", ("", "c"))))))))
        table = table_of(8, RANK, document)
        self.assertIs(is_table(8, RANK, document, table), True)
        for part, put in list(parts_otherwise(table, lambda other: other)):
            others = [None, True, False, -1, "", (), [], {}]
            if isinstance(part, tuple):
                others += [list(part), part[:-1], part + (None,), part + part[-1:], dict(enumerate(part))]
            elif isinstance(part, int):
                others += [part + 1, str(part), bool(part), (part,)]
            elif isinstance(part, str):
                others += [part + "x", part + "\n", (part,)]
            for other in others:
                if other != part or type(other) is not type(part):
                    self.assertIs(is_table(8, RANK, document, put(other)), False, (part, other))

    def test_truths_alone_otherwise(self):
        def with_truths(thing):
            if isinstance(thing, tuple):
                return tuple(with_truths(part) for part in thing)
            return bool(thing) if thing in (0, 1) and isinstance(thing, int) else thing

        document = ("nest", 1, ("row", (A, LINE)))
        table = table_of(8, RANK, document)
        self.assertIs(is_table(8, RANK, document, table), True)
        self.assertEqual(with_truths(table), table)
        self.assertIs(is_table(8, RANK, document, with_truths(table)), False)
        for at, (stand, badness) in enumerate(table):
            for other in ((with_truths(stand), badness), (stand, with_truths(badness))):
                if repr(other) != repr((stand, badness)):
                    self.assertIs(is_table(8, RANK, document, table[:at] + (other,) + table[at + 1:]), False)
                    self.assertIs(is_table(8, RANK, document, table + (other,)), False)

    def test_any_value(self):
        for thing in OTHERS + STRANGE + ((None,), ((),), (((), ()),), ((None, ()),), (((None, ()), (0, 0, 0)),), A, CALL, TALL):
            self.check(thing)
            self.check((thing,))
            self.check((thing, thing))
            self.check(((thing, (0, 0, 0)),))
            self.check(((first_stand(CALL), thing),))
            self.check(table_of(12, RANK, CALL) + (thing,))
            self.check([thing])
        self.check(list(table_of(12, RANK, CALL)))
        self.check(dict(enumerate(table_of(12, RANK, CALL))))
        self.check(tuple(list(entry) for entry in table_of(12, RANK, CALL)))
        self.check(tuple(stand for stand, _ in table_of(12, RANK, CALL)))
        self.check(tuple(stands_of(12, CALL)))
        self.check(((first_stand(CALL), (0, 3, 1)),))

    def test_what_is_told_stays(self):
        thing = tuple(list(entry) for entry in table_of(12, RANK, CALL))
        told = repr(thing)
        self.check(thing)
        self.assertEqual(repr(thing), told)


class HasLayout(unittest.TestCase):
    def check(self, width, document):
        found = {(text, plain_docs.badness(width, text, broken)) for _, text, broken in plain_docs.layouts(document)}
        for text, badness in sorted(found):
            self.assertIs(has_layout(width, document, text, badness), True)
            others = [text + "a", text + " ", text + "\n", text[:-1], text[1:], text.replace("a", "b", 1), text.replace("\n", " ", 1)]
            near = [(other, plain_docs.badness(width, other, badness[2])) for other in others]
            for part in range(3):
                near += [(text, badness[:part] + (badness[part] + more,) + badness[part + 1:]) for more in (-1, 1)]
            for other in near:
                self.assertIs(has_layout(width, document, *other), other in found, (document, other))

    def test_small_ones(self):
        for document in documents.small_ones():
            self.check(8, document)

    def test_any_many(self):
        for document in documents.any_many(425, 150, most=6):
            for width in (8, 9, 20):
                self.check(width, document)

    def test_few(self):
        self.assertIs(has_layout(12, CALL, FLAT, (5, 0, 0)), True)
        self.assertIs(has_layout(12, CALL, FLAT, (5, 0, 1)), False)
        self.assertIs(has_layout(12, CALL, TALL, (0, 3, 1)), True)
        self.assertIs(has_layout(12, CALL, TALL, (0, 3, 0)), False)
        self.assertIs(has_layout(12, CALL, "call(\n alpha, beta\n)", (0, 2, 1)), False)
        self.assertIs(has_layout(12, ("group", A), "a", (0, 0, 0)), True)
        self.assertIs(has_layout(12, ("group", A), "a", (0, 0, 1)), True)
        self.assertIs(has_layout(12, ("group", A), "a", (0, 0, 2)), False)
        self.assertIs(has_layout(12, ("group", HARD), "", (0, 0, 0)), False)

    def test_many_choices(self):
        document = ("row", (("group", A),) * 150)
        for broken in (0, 1, 77, 150):
            self.assertIs(has_layout(8, document, "a" * 150, (142, 0, broken)), True)
        self.assertIs(has_layout(8, document, "a" * 150, (142, 0, 151)), False)
        self.assertIs(has_layout(8, document, "a" * 151, (143, 0, 0)), False)
        self.assertIs(has_layout(8, ("fill", (A,) * 599), "a\n" * 300 + "a " * 298 + "a", (589, 300, 0)), True)

    def test_more_stands_than_are_gone_through(self):
        self.assertIs(has_layout(8, documents.WIDE, "x" * 511 + "a" * 60, (563, 0, 0)), True)
        self.assertIs(has_layout(8, documents.WIDE, "x" * 512 + "a" * 60, (564, 0, 0)), False)


class IsBest(unittest.TestCase):
    def check(self, width, rank, document):
        table = table_of(width, rank, document)
        least = plain_docs.best(width, rank, document)[0]
        best = {
            text for _, text, broken in plain_docs.layouts(document) if plain_docs.badness(width, text, broken) == least}
        for _, text, _ in plain_docs.layouts(document):
            self.assertIs(is_best(width, rank, document, text, table), text in best)
            self.assertIs(is_best(width, rank, document, text, table[::-1]), text in best)
        for text in sorted(best):
            for other in (text + "a", text + "\n", text[:-1], text.replace("a", "b")):
                self.assertIs(is_best(width, rank, document, other, table), other in best)
            self.assertIs(is_best(width, rank, document, text, table[1:]), False)
            self.assertIs(is_best(width, rank, document, text, ()), False)
            self.assertIs(is_best(width, rank, document, text, None), False)

    def test_small_ones(self):
        for at, document in enumerate(documents.small_ones()[::3]):
            self.check(8, RANKS[at % 6], document)

    def test_any_many(self):
        for at, document in enumerate(documents.any_many(525, 120, most=5)):
            self.check((8, 9, 13)[at % 3], RANKS[at % 6], document)

    def test_any_best_one(self):
        document = ("row", (("choice", A, ("text", "b")), GAP, ("choice", C, ("text", "abc"))))
        table = table_of(8, RANK, document)
        for text in ("a ccc", "b ccc", "a abc", "b abc"):
            self.assertIs(is_best(8, RANK, document, text, table), True)
        self.assertIs(is_best(8, RANK, document, "a\nccc", table), False)
        # The text alone is not enough: it takes a layout with as few broken moves.
        document = ("choice", ("group", ("row", (A, HARD))), ("row", (B, HARD)))
        table = table_of(8, RANK, document)
        self.assertIs(is_best(8, RANK, document, "a\n", table), False)
        self.assertIs(is_best(8, RANK, document, "bb\n", table), True)


if __name__ == "__main__":
    unittest.main()

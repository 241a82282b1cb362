"""Point 14: pairs of brackets."""

import itertools
import unittest

from leastlaid.brackets import deep_at, paired
from leastlaid.cutting import cut, place_of

SORTS = {"(": ")", "[": "]", "{": "}"}


def pairs_of(text):
    return paired(text, cut(text)[0])


def plain_pairs(text):
    """Pairs and FAULTS of a text of brackets and blanks, by taking out couples."""
    still, pairs, faults = [], {}, []
    for at, token in enumerate(cut(text)[0]):
        if token[1] in SORTS:
            still = still + [(at, token)]
        elif still and SORTS[still[-1][1][1]] == token[1]:
            pairs[still[-1][0]] = at
            still = still[:-1]
        else:
            faults.append((place_of(text, token[2]), "close"))
    faults += [(place_of(text, token[2]), "open") for _, token in still]
    return pairs, tuple(sorted(faults))


class Paired(unittest.TestCase):
    def test_pairs(self):
        self.assertEqual(pairs_of(""), ({}, ()))
        self.assertEqual(pairs_of("a; b"), ({}, ()))
        self.assertEqual(pairs_of("()"), ({0: 1}, ()))
        self.assertEqual(pairs_of("f(a[1], {b: c}) []"), ({1: 12, 3: 5, 7: 11, 13: 14}, ()))
        self.assertEqual(pairs_of("([{}])"), ({0: 5, 1: 4, 2: 3}, ()))

    def test_kinds(self):
        pairs, faults = pairs_of("([")
        self.assertEqual((type(pairs_of("(")), type(pairs), type(faults)), (tuple, dict, tuple))

    def test_keys_ascend(self):
        for text in ("((()))", "(()(()))", "[{}()]()", "( [ ] ) ] (", "(" * 50 + ")" * 50):
            pairs = pairs_of(text)[0]
            self.assertEqual(list(pairs), sorted(pairs))

    def test_close(self):
        for sign in ")]}":
            self.assertEqual(pairs_of("a\n " + sign), ({}, (((1, 1), "close"),)))
        self.assertEqual(pairs_of("())"), ({0: 1}, (((0, 2), "close"),)))
        self.assertEqual(pairs_of(")()"), ({1: 2}, (((0, 0), "close"),)))

    def test_open(self):
        for sign in "([{":
            self.assertEqual(pairs_of("a\n " + sign), ({}, (((1, 1), "open"),)))
        self.assertEqual(pairs_of("(()"), ({1: 2}, (((0, 0), "open"),)))

    def test_other_sort(self):
        for one, other in itertools.product("([{", ")]}"):
            if SORTS[one] != other:
                self.assertEqual(pairs_of(one + other), ({}, (((0, 0), "open"), ((0, 1), "close"))))
                text = one + other + SORTS[one]
                self.assertEqual(pairs_of(text), ({0: 2}, (((0, 1), "close"),)))

    def test_faults_ascend(self):
        self.assertEqual(pairs_of("( [ )\n] ) ( }\n{"), (
            {1: 3, 0: 4}, (((0, 4), "close"), ((1, 4), "open"), ((1, 6), "close"), ((2, 0), "open"))))
        self.assertEqual(pairs_of("(]"), ({}, (((0, 0), "open"), ((0, 1), "close"))))

    def test_signs_in_words(self):
        self.assertEqual(pairs_of("\"(\" '''[''' # {\n <* ( *> )"), ({}, (((1, 9), "close"),)))

    def test_some_tokens(self):
        text = "# ((\n(a # b\n) <* c *> [1]"
        tokens = cut(text)[0]
        self.assertEqual(paired(text, tokens), ({1: 4, 6: 8}, ()))
        words = tuple(token for token in tokens if token[0] not in ("line", "block"))
        self.assertEqual(paired(text, words), ({0: 2, 3: 5}, ()))
        self.assertEqual(paired(text, list(words)), ({0: 2, 3: 5}, ()))
        self.assertEqual(paired(text, tokens[5:]), ({1: 3}, ()))
        self.assertEqual(paired(text, tokens[:3]), ({}, (((1, 0), "open"),)))

    def test_all_short_texts(self):
        for size in range(7):
            for signs in itertools.product("()[]", repeat=size):
                text = " ".join(signs)
                self.assertEqual(pairs_of(text), plain_pairs(text))

    def test_new_each_time(self):
        pairs = pairs_of("()")[0]
        pairs[5] = 6
        self.assertEqual(pairs_of("()")[0], {0: 1})

    def test_long_texts(self):
        text = "(" * 2000 + ")" * 2000
        self.assertEqual(pairs_of(text), ({at: 3999 - at for at in range(2000)}, ()))
        self.assertEqual(deep_at(text, cut(text)[0]), tuple(range(1, 2001)) + tuple(range(2000, 0, -1)))
        self.assertEqual(len(pairs_of("(" * 4000)[1]), 4000)


class Deep(unittest.TestCase):
    def deep(self, text):
        return deep_at(text, cut(text)[0])

    def test_deep(self):
        self.assertEqual(self.deep(""), ())
        self.assertEqual(self.deep("a b"), (0, 0))
        self.assertEqual(self.deep("a(b[c]d)e"), (0, 1, 1, 2, 2, 2, 1, 1, 0))
        self.assertEqual(self.deep("()()"), (1, 1, 1, 1))
        self.assertEqual(self.deep("{([])}"), (1, 2, 3, 3, 2, 1))

    def test_those_left_out(self):
        self.assertEqual(self.deep("( a"), (0, 0))
        self.assertEqual(self.deep("a )"), (0, 0))
        self.assertEqual(self.deep("[ ( a ]"), (0, 0, 0, 0))
        self.assertEqual(self.deep("[ ) a ]"), (1, 1, 1, 1))
        self.assertEqual(self.deep("( [ a ]"), (0, 1, 1, 1))

    def test_comments(self):
        text = "( # b (\n a <* ) *> )"
        self.assertEqual(self.deep(text), (1, 1, 1, 1, 1))
        words = [token for token in cut(text)[0] if token[0] not in ("line", "block")]
        self.assertEqual(deep_at(text, words), (1, 1, 1))

    def test_all_short_texts(self):
        for signs in itertools.product("(){}a", repeat=5):
            text = " ".join(signs)
            pairs = pairs_of(text)[0]
            expected = tuple(sum(begin <= at <= end for begin, end in pairs.items()) for at in range(5))
            self.assertEqual(self.deep(text), expected)
            self.assertIs(type(self.deep(text)), tuple)


if __name__ == "__main__":
    unittest.main()

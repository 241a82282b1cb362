"""Any values, for functions that take them."""

from leastlaid.errors import Faulty, NoCommand, Nothing, Wrong

OTHERS = (
    None, True, False, 0, 1, -1, 10 ** 39, (), ("a",), ("name", "a"), [], ["a"], [[]], {}, {"a": 1}, {1: ()},
    Wrong(0), Faulty(()), Nothing(), NoCommand(), (("name", "a"),), ([],), (None, None),
)
# Strings with signs that no TEXT has.
STRANGE = ("\t", "\r", "\x00", "\x7f", "\u00e9", "a\u00e9", "\u0660", "\uff41", '"\t"', "# \u00e9", "<* \r *>", "'''\x0b'''")

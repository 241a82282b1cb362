"""Any values, for functions that take them."""

from leastlaid.desk import Desk
from leastlaid.errors import Faulty, NoCommand, Nothing, Wrong
from leastlaid.keeper import Keeper
from leastlaid.project import Project
from leastlaid.styles import plain_style

OTHERS = (
    None, True, False, 0, 1, -1, 10 ** 39, (), ("a",), ("name", "a"), [], ["a"], [[]], {}, {"a": 1}, {1: ()},
    Wrong(0), Faulty(()), Nothing(), NoCommand(), (("name", "a"),), ([],), (None, None),
    Keeper("a;", plain_style()), Project({"a": "b;"}, plain_style()), Desk({}, plain_style()),
    (Keeper("", plain_style()), [Project({}, plain_style())]), [Desk({}, plain_style())], {"a": Keeper("let", plain_style())},
)
# Strings with signs that no TEXT has.
STRANGE = ("\t", "\r", "\x00", "\x7f", "\u00e9", "a\u00e9", "\u0660", "\uff41", '"\t"', "# \u00e9", "<* \r *>", "'''\x0b'''")

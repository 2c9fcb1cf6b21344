"""Values of all kinds that callers may pass, to ask what they are, and values beside those that are asked for."""

from onewaybits.chip import Chip
from onewaybits.errors import InvalidChip, NoThing
from onewaybits.records import Chunk, Head, Keep, Name, Node, Seal
from onewaybits.tree import Tree

DEEP = [[[[[[[[1]]]]]]]]
DEEP_TUPLE = ((((((((1,),),),),),),),)

ANY_VALUES = [
    None, True, False, 0, 1, -1, 31, 2 ** 5000, -2 ** 5000, "", "a", "all", "sync", "file", " ~\n\t", "a" * 4000,
    [], [0], [1, 2], ["sync"], [["sync"]], [None], [[]], [()], (), (0,), ("a",), ("all",), ("file",), ("sync", 1),
    ("all", None), ("all", ()), ((),), ([],), ({},), ("a", {}), (True,), {}, {"a": 1}, {"file": ["a"]}, DEEP,
    DEEP_TUPLE,
    Tree(), Chip(8, 8, 0), InvalidChip(None), NoThing("a"), Head(1, 1, False), Seal(1, 0), Node(1, 0, 2, 2, 1, 0, 0),
    Name(1, 1, 2, 1, "a", 2), Chunk(1, 0, 2, 2, 0, [0] * 16), Keep(1, 0, 1, "a", True), [Tree()], (Tree(),),
    (Head(1, 1, False), 0), Tree, Chip,
]

NO_NAMES = [
    None, True, 0, 97, "", "A", "aA", "a1", "a b", " a", "a ", "a\n", "a/b", "a-b", "~", "abcdefghi", "z" * 4000, ["a"],
    ("a",), [], (), {}, {"a": 1}, [["a"]], Tree(),
]

NO_PATHS = [
    None, True, 1, "", "a", "/a", [], ["a"], [("a",)], {}, {"a": 1}, ("",), ("A",), ("abcdefghi",), ("a", ""), ("a", 1),
    ("a", None), ("a", True), ("a", "b "), (("a",),), (["a"],), ("a", ("b",)), (None,), (1,), Tree(), (Tree(),),
]

"""Points 6 and 51 to 55: records, and the octets that tell them."""

from onewaybits import records as module
from onewaybits.errors import InvalidData, InvalidName, InvalidNumber, InvalidOctets, InvalidRecord
from onewaybits.records import Chunk, Head, Keep, Name, Node, Seal, moved, read_record, written
from tests.helper import NO_INTS, NO_OCTETS, PointTest, dice, some_octets
from tests.values import ANY_VALUES, NO_NAMES

SESSION = """
>>> from onewaybits.records import Chunk, Head, Keep, Name, Node, moved, read_record, written
>>> written(Head(260, 4, True))[:9]
(2, 0, 0, 1, 4, 0, 0, 0, 4)
>>> name = Name(9, 1, 2, 1, "ab", 300)
>>> [name.key(), name.until, written(name)[4:15], written(moved(name, 258))[4:8], written(moved(name, 258))[26:]]
[('name', 1, 'ab'), 0, (9, 1, 2, 0, 1, 1, 44, 2, 97, 98, 0), (9, 0, 0, 0), (0, 0, 1, 2)]
>>> [read_record(written(name)) == name, read_record([4] + [0] * 29), written(Keep(7, 0, 1, "c", True))[4:11]]
[True, None, (7, 0, 1, 1, 1, 99, 0)]
>>> [Chunk(3, 0, 2, 2, 5, [7] * 16).key(), Node(3, 1, 2, 2, 1, 96, 33).size]
[('chunk', 2, 5), 96]
>>> Node(3, 1, 2, 2, 1, 80, 33)
raises InvalidNumber(33)
"""
MOST = 2 ** 32 - 1
OCTETS = list(range(240, 256))

# The arguments of a record of each class, by name and in order.
PARTS = {
    Head: {"seq": 9, "tail": 4, "is_cleaning": True},
    Seal: {"tail": 5, "count": 3},
    Node: {"deed": 7, "at": 1, "of": 3, "node": 300, "what": 1, "size": 40, "chunks": 5, "until": 0},
    Name: {"deed": 7, "at": 2, "of": 3, "directory": 5, "name": "doc", "node": 300, "until": 0},
    Chunk: {"deed": 7, "at": 0, "of": 3, "node": 300, "index": 2, "octets": tuple(OCTETS), "until": 0},
    Keep: {"deed": 7, "at": 0, "of": 1, "name": "old", "is_kept": False, "until": 0},
}
TREE_CLASSES = [Node, Name, Chunk, Keep]
# What each of them may be instead, with what a moved record may have.
OTHERS = {
    "seq": [4, 10, MOST], "tail": [1, 3, 9], "is_cleaning": [False], "count": [0, 1, 14],
    "deed": [1, 6, 8, MOST], "node": [2, 299, 301, 65535], "what": [], "size": [33, 39, 41, 48], "chunks": [0, 1, 4, 7],
    "directory": [1, 4, 6, 65535], "name": ["a", "z", "do", "docs", "abcdefgh", "zzzzzzzz"], "index": [0, 1, 3, 5],
    "octets": [(0,) * 16, (255,) * 16, (1,) + (0,) * 15, (0,) * 15 + (1,)], "is_kept": [True],
}
STAMPS = [(at, of) for at in range(6) for of in range(at + 1, 7)]


def made(record_class, **changes):
    return record_class(**{**PARTS[record_class], **changes})


def some_records():
    """Return unlike records of each class, with each number at its bounds."""
    found = []
    for record_class, parts in PARTS.items():
        found.append(made(record_class))
        for part in parts:
            found += [made(record_class, **{part: value}) for value in OTHERS.get(part, [])]
    for record_class in TREE_CLASSES:
        found += [made(record_class, at=at, of=of) for at, of in STAMPS if (at, of) != stamp(record_class)]
        found += [made(record_class, at=0, of=0, until=until) for until in (0, 8, 2 ** 16, MOST)]
    found += [Seal(MOST, 14), Head(MOST, MOST, False), Name(1, 0, 1, 1, "a", 0), Node(1, 0, 1, 2, 0, 0, 0)]
    found += [Node(1, 0, 1, 2, 2, 0, 0), Node(1, 0, 1, 2, 1, 96, 63), Node(1, 0, 1, 2, 1, 0, 0)]
    return found


def stamp(record_class):
    return PARTS[record_class]["at"], PARTS[record_class]["of"]


def by_hand(record):
    """Return the octets of a record, worked out apart from the program."""
    octets = bytearray(30)
    if isinstance(record, Head):
        octets[0] = 2 if record.is_cleaning else 1
        octets[1:5], octets[5:9] = record.seq.to_bytes(4, "big"), record.tail.to_bytes(4, "big")
        return tuple(octets)
    if isinstance(record, Seal):
        octets[0], octets[5] = 3, record.count
        octets[1:5] = record.tail.to_bytes(4, "big")
        return tuple(octets)
    octets[0] = {Node: 4, Name: 5, Chunk: 6, Keep: 7}[type(record)]
    octets[1:5], octets[5], octets[6] = record.deed.to_bytes(4, "big"), record.at, record.of
    octets[26:30] = record.until.to_bytes(4, "big")
    if isinstance(record, Node):
        octets[7:9] = record.node.to_bytes(2, "big")
        octets[9:12] = bytes([record.what, record.size, record.chunks])
    elif isinstance(record, Name):
        octets[7:9], octets[9:11] = record.directory.to_bytes(2, "big"), record.node.to_bytes(2, "big")
        octets[11], octets[12:12 + len(record.name)] = len(record.name), record.name.encode("ascii")
    elif isinstance(record, Chunk):
        octets[7:9], octets[9], octets[10:26] = record.node.to_bytes(2, "big"), record.index, bytes(record.octets)
    else:
        octets[7], octets[8] = (1 if record.is_kept else 0), len(record.name)
        octets[9:9 + len(record.name)] = record.name.encode("ascii")
    return tuple(octets)


class RecordsTest(PointTest):

    def assert_number(self, record_class, part, wrong, **changes):
        self.assert_invalid(InvalidNumber, wrong, made, record_class, **{**changes, part: wrong})

    def assert_bounds(self, record_class, part, least, greatest, **changes):
        """Check that an argument may be just an integer from the least to the greatest one."""
        for number in (least, greatest):
            self.assertEqual(getattr(made(record_class, **{**changes, part: number}), part), number)
        for wrong in NO_INTS + [least - 1, greatest + 1, least - 2 ** 40, 2 ** 200]:
            self.assert_number(record_class, part, wrong, **changes)

    def test_examples(self):
        self.assert_session(SESSION)

    def test_each_name_is_defined_in_its_file(self):
        for name in ("Head", "Seal", "Node", "Name", "Chunk", "Keep", "moved", "written", "read_record"):
            self.assertEqual(getattr(module, name).__module__, "onewaybits.records")
        for record_class in PARTS:
            self.assertIn("__eq__", vars(record_class))
        for record_class in TREE_CLASSES:
            self.assertIn("key", vars(record_class))

    def test_51_attributes_are_the_arguments(self):
        for record_class, parts in PARTS.items():
            for record in (record_class(**parts), record_class(*parts.values())):
                for part, value in parts.items():
                    self.assertEqual(getattr(record, part), value)
                    self.assertIs(type(getattr(record, part)), type(value))

    def test_51_an_until_that_is_left_out_is_0(self):
        for record_class in TREE_CLASSES:
            parts = list(PARTS[record_class].values())[:-1]
            self.assertEqual(record_class(*parts).until, 0)
            self.assertTrue(record_class(*parts) == made(record_class))

    def test_51_the_octets_of_a_chunk_are_a_tuple_of_its_own(self):
        octets = list(OCTETS)
        chunk = made(Chunk, octets=octets)
        octets[0] = 0
        self.assert_octets(chunk.octets, OCTETS)
        self.assert_octets(moved(chunk, 0).octets, OCTETS)

    def test_52_heads_and_seals(self):
        self.assert_bounds(Head, "seq", 1, MOST, tail=1)
        self.assert_bounds(Head, "tail", 1, 9)
        self.assert_bounds(Head, "tail", 1, 1, seq=1)
        self.assert_bounds(Seal, "tail", 1, MOST)
        self.assert_bounds(Seal, "count", 0, 14)

    def test_52_a_tail_above_the_seq_is_a_wrong_tail(self):
        self.assert_invalid(InvalidNumber, 10, Head, 9, 10, False)
        self.assert_invalid(InvalidNumber, 2, Head, 1, 2, None)

    def test_52_true_and_false_alone(self):
        for wrong in [0, 1, None, "True", [], (True,), 2]:
            self.assert_number(Head, "is_cleaning", wrong)
            self.assert_number(Keep, "is_kept", wrong)
        for flag in (True, False):
            self.assertIs(made(Head, is_cleaning=flag).is_cleaning, flag)
            self.assertIs(made(Keep, is_kept=flag).is_kept, flag)

    def test_52_deed_and_at_and_of(self):
        for record_class in TREE_CLASSES:
            self.assert_bounds(record_class, "deed", 1, MOST)
            self.assert_bounds(record_class, "at", 0, 5, of=6)
            for at in range(1, 6):
                self.assert_bounds(record_class, "of", at + 1, 6, at=at)
            self.assert_bounds(record_class, "of", 0, 6, at=0)

    def test_52_an_at_above_5_is_a_wrong_at(self):
        for record_class in TREE_CLASSES:
            for of in (0, 1, 5, 7, 8):
                self.assert_number(record_class, "at", 6, of=of)

    def test_52_an_of_that_is_not_above_at_is_a_wrong_of(self):
        for record_class in TREE_CLASSES:
            self.assert_number(record_class, "of", 0, at=1)
            self.assert_number(record_class, "of", 3, at=3)
            self.assert_number(record_class, "of", 5, at=5)

    def test_52_until(self):
        for record_class in TREE_CLASSES:
            for of in range(1, 7):
                for wrong in NO_INTS + [-1, 1, 6, 7, 8, MOST]:
                    self.assert_number(record_class, "until", wrong, at=0, of=of)
                self.assertEqual(made(record_class, at=0, of=of, until=0).until, 0)
            for until in (0, 8, 9, MOST):
                self.assertEqual(made(record_class, at=0, of=0, until=until).until, until)
            for wrong in NO_INTS + [-1, 1, 6, 7, MOST + 1, 2 ** 200]:
                self.assert_number(record_class, "until", wrong, at=0, of=0)
            self.assertEqual(made(record_class, at=0, of=0, deed=MOST, until=0).until, 0)
            self.assert_number(record_class, "until", MOST, at=0, of=0, deed=MOST)
            self.assert_number(record_class, "until", 1, at=0, of=0, deed=1)

    def test_52_ids(self):
        self.assert_bounds(Node, "node", 2, 65535)
        self.assert_bounds(Chunk, "node", 2, 65535)
        self.assert_bounds(Name, "directory", 1, 65535)
        for node in (0, 2, 65535):
            self.assertEqual(made(Name, node=node).node, node)
        for wrong in NO_INTS + [-1, 1, 65536, 2 ** 70]:
            self.assert_number(Name, "node", wrong)
        self.assert_number(Node, "node", 0)
        self.assert_number(Node, "node", 1)
        self.assert_number(Chunk, "node", 1)
        self.assert_number(Name, "directory", 0)

    def test_52_what_and_size_and_chunks(self):
        self.assert_bounds(Node, "what", 0, 2, size=0, chunks=0)
        self.assert_bounds(Node, "size", 0, 96, chunks=0)
        for what in (0, 2):
            self.assert_bounds(Node, "size", 0, 0, what=what, chunks=0)
            self.assert_bounds(Node, "chunks", 0, 0, what=what, size=0)
        for size in range(97):
            self.assert_bounds(Node, "chunks", 0, 2 ** len(range(0, size, 16)) - 1, size=size)

    def test_52_index_and_octets(self):
        self.assert_bounds(Chunk, "index", 0, 5)
        for wrong in NO_OCTETS + [[], (), [0] * 15, [0] * 17, [0] * 15 + [256], [0] * 15 + [True], (-1,) + (0,) * 15]:
            self.assert_invalid(InvalidOctets, wrong, made, Chunk, octets=wrong)

    def test_52_names(self):
        for name in ("a", "z", "abcdefgh", "qrstuvwx", "yz"):
            self.assertEqual((made(Name, name=name).name, made(Keep, name=name).name), (name, name))
        for wrong in NO_NAMES:
            self.assert_invalid(InvalidName, wrong, made, Name, name=wrong)
            self.assert_invalid(InvalidName, wrong, made, Keep, name=wrong)

    def test_52_the_first_wrong_argument_is_told(self):
        kinds = {"name": InvalidName, "octets": InvalidOctets}
        for record_class, parts in PARTS.items():
            values = list(parts.values())
            for place, part in enumerate(parts):
                wrong = [part]
                given = values[:place] + [wrong] + [[None] for _ in values[place + 1:]]
                self.assert_invalid(kinds.get(part, InvalidNumber), wrong, record_class, *given)

    def test_53_keys(self):
        self.assertEqual(made(Node).key(), ("node", 300))
        self.assertEqual(made(Name).key(), ("name", 5, "doc"))
        self.assertEqual(made(Chunk).key(), ("chunk", 300, 2))
        self.assertEqual(made(Keep).key(), ("keep", "old"))
        for record_class in TREE_CLASSES:
            self.assertIs(type(made(record_class).key()), tuple)
            self.assertEqual(moved(made(record_class), 9).key(), made(record_class).key())

    def test_53_equal_records(self):
        found, again = some_records(), some_records()
        for k, record in enumerate(found):
            for m, other in enumerate(again):
                self.assertEqual(record == other, k == m, (k, m))
                self.assertEqual(record != other, k != m, (k, m))

    def test_53_records_of_two_classes_are_never_equal(self):
        for record in some_records():
            for value in ANY_VALUES[:40] + [record.__class__, vars(record), tuple(vars(record).values())]:
                self.assertFalse(record == value)
                self.assertTrue(record != value)

    def test_53_moved(self):
        for record_class in TREE_CLASSES:
            parts = PARTS[record_class]
            for until in (0, 8, 1000, MOST):
                new = moved(until=until, record=made(record_class))
                self.assertTrue(new == record_class(**{**parts, "at": 0, "of": 0, "until": until}))
                self.assertIs(type(new), record_class)
            again = moved(moved(made(record_class), 9), 20)
            self.assertTrue(again == record_class(**{**parts, "at": 0, "of": 0, "until": 20}))
            self.assertEqual(moved(again, 0).until, 0)
            self.assertTrue(moved(again, 0) == moved(made(record_class), 0))

    def test_53_moving_leaves_the_record(self):
        for record_class in TREE_CLASSES:
            record = made(record_class)
            self.assertIsNot(moved(record, 0), record)
            self.assertTrue(record == made(record_class))

    def test_53_wrong_arguments_of_moved(self):
        no_tree_records = [value for value in ANY_VALUES if not isinstance(value, tuple(TREE_CLASSES))]
        for wrong in no_tree_records + [[made(Node)], Node, vars(made(Node))]:
            self.assert_invalid(InvalidRecord, wrong, moved, wrong, -1)
            self.assert_invalid(InvalidRecord, wrong, moved, wrong, 0)
        for record_class in TREE_CLASSES:
            for wrong in NO_INTS + [-1, 1, 6, 7, MOST + 1]:
                self.assert_invalid(InvalidNumber, wrong, moved, made(record_class), wrong)

    def test_54_written(self):
        for record in some_records():
            self.assert_octets(written(record), by_hand(record))
            self.assertEqual(len(written(record)), 30)

    def test_54_the_octets_of_each_kind(self):
        name = Name(0x01020304, 2, 3, 0x0506, "abcdefgh", 0x0708)
        self.assert_octets(written(name), [5, 1, 2, 3, 4, 2, 3, 5, 6, 7, 8, 8] + list(range(97, 105)) + [0] * 10)
        node = Node(0x01020304, 0, 0, 0x0506, 1, 96, 63, 0x11121314)
        self.assert_octets(written(node), [4, 1, 2, 3, 4, 0, 0, 5, 6, 1, 96, 63] + [0] * 14 + [17, 18, 19, 20])
        chunk = Chunk(9, 0, 0, 300, 5, OCTETS, 10)
        self.assert_octets(written(chunk), [6, 0, 0, 0, 9, 0, 0, 1, 44, 5] + OCTETS + [0, 0, 0, 10])
        keep = Keep(9, 0, 1, "z", True)
        self.assert_octets(written(keep), [7, 0, 0, 0, 9, 0, 1, 1, 1, 122] + [0] * 20)
        self.assert_octets(written(Keep(9, 0, 1, "yz", False))[7:12], [0, 2, 121, 122, 0])
        self.assert_octets(written(Head(260, 4, False)), [1, 0, 0, 1, 4, 0, 0, 0, 4] + [0] * 21)
        self.assert_octets(written(Seal(260, 14)), [3, 0, 0, 1, 4, 14] + [0] * 24)

    def test_54_no_record(self):
        records = tuple(PARTS)
        for wrong in [value for value in ANY_VALUES if not isinstance(value, records)] + [Head, [made(Head)]]:
            self.assert_invalid(InvalidRecord, wrong, written, wrong)

    def test_55_what_is_written_is_read(self):
        for record in some_records():
            for data in (written(record), list(written(record))):
                told = read_record(data)
                self.assertTrue(told == record)
                self.assertIs(type(told), type(record))
        self.assertTrue(read_record(data=written(made(Chunk))) == made(Chunk))
        self.assertIs(type(read_record(list(written(made(Chunk)))).octets), tuple)

    def test_55_unlike_records_have_unlike_octets(self):
        told = [written(record) for record in some_records()]
        self.assertEqual(len(set(told)), len(told))

    def test_55_what_is_read_is_written_as_the_same_octets(self):
        source = dice(55)
        for record in some_records():
            for place in range(30):
                for octet in {0, 1, 2, 3, 7, 14, 15, 96, 97, 122, 123, 255, source.randrange(256)}:
                    data = list(written(record))
                    data[place] = octet
                    self.check_reading(data)

    def test_55_any_octets(self):
        source = dice(550)
        for _ in range(2000):
            self.check_reading([source.randrange(1, 8)] + some_octets(source, 29))
            self.check_reading([source.randrange(8)] + [source.choice([0, 0, 0, 1, 2, 97]) for _ in range(29)])

    def check_reading(self, data):
        before = list(data)
        told = read_record(data)
        self.assertEqual(data, before)
        if told is not None:
            self.assert_octets(written(told), data)
            self.assertTrue(by_hand(told) == tuple(data))

    def test_55_octets_that_are_no_record_by_one_octet(self):
        cases = {
            Head: {0: [0, 8, 255], 8: [0, 10], 9: [1, 255], 29: [1]},
            Seal: {4: [0], 5: [15, 255], 6: [1], 29: [1]},
            Node: {0: [0, 8, 5, 7], 4: [0], 5: [3, 6], 6: [0, 1, 7], 9: [0, 2, 3], 10: [97, 32, 0], 11: [8, 255],
                   12: [1], 25: [1], 29: [1, 8]},
            Name: {4: [0], 5: [3], 6: [2, 7], 11: [0, 2, 4, 9, 255], 12: [0, 96, 123, 65], 14: [0, 65], 15: [97, 1],
                   20: [1], 25: [1], 29: [8]},
            Chunk: {4: [0], 5: [3], 6: [7], 9: [6, 255], 29: [8], 26: [1]},
            Keep: {4: [0], 5: [1], 6: [7], 7: [2, 255], 8: [0, 2, 4, 9], 9: [96, 123], 11: [0], 12: [97], 25: [1]},
        }
        for record_class, places in cases.items():
            for place, octets in places.items():
                for octet in octets:
                    data = list(written(made(record_class)))
                    data[place] = octet
                    self.assertIs(read_record(data), None, (record_class, place, octet))
        for data in ([0] * 30, [255] * 30, [4] + [0] * 29, [8] + list(written(made(Node)))[1:]):
            self.assertIs(read_record(data), None)

    def test_55_ids_that_no_record_has(self):
        for place, record_class, ids in ((7, Node, (0, 1)), (7, Chunk, (0, 1)), (7, Name, (0,)), (9, Name, (1,))):
            for node in ids:
                data = list(written(made(record_class)))
                data[place:place + 2] = [0, node]
                self.assertIs(read_record(data), None)

    def test_55_untils(self):
        for record_class in TREE_CLASSES:
            data = list(written(made(record_class, at=0, of=0, until=9)))
            for until in (0, 8, 255):
                self.assertEqual(read_record(data[:29] + [until]).until, until)
            for until in (1, 6, 7):
                self.assertIs(read_record(data[:29] + [until]), None)

    def test_55_no_data(self):
        for wrong in ANY_VALUES + NO_OCTETS + [[0] * 29, [0] * 31, [1] * 29 + [True], [0] * 29 + [256], "a" * 30]:
            self.assert_invalid(InvalidData, wrong, read_record, wrong)

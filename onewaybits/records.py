"""Records: what fits a page and tells a part of a chip or of a tree."""

from onewaybits.errors import InvalidData, InvalidName, InvalidNumber, InvalidOctets, InvalidRecord
from onewaybits.facts import CHUNK_OCTETS, DIRECTORY, FILE, GONE, MOST_CHUNKS, MOST_SIZE, NO_NODE, ROOT, chunk_count
from onewaybits.kinds import DATA_OCTETS, LETTERS, MOST_NUMBER, is_int_from, is_name, is_octets_of
from onewaybits.octets import number_told_by, octets_telling

MOST_RECORDS = 6
MOST_MOVED = 14
MOST_ID = 65535

HEAD_KIND = 1
CLEANING_KIND = 2
SEAL_KIND = 3
FACT_KINDS = {"node": 4, "name": 5, "chunk": 6, "keep": 7}
FIRST_LETTER = 97

# What a tree record tells stands between its numbers: the deed, at and of ahead of it, the until behind it.
FACT_PLACE = 7
UNTIL_PLACE = 26


class Head:
    """The record that begins a block."""

    def __init__(self, seq, tail, is_cleaning):
        _check_number(seq, 1, MOST_NUMBER)
        _check_number(tail, 1, seq)
        _check_flag(is_cleaning)
        self.seq = seq
        self.tail = tail
        self.is_cleaning = is_cleaning

    def __eq__(self, other):
        return isinstance(other, Head) and _head_parts(self) == _head_parts(other)


class Seal:
    """The record that ends what was moved into a cleaning block."""

    def __init__(self, tail, count):
        _check_number(tail, 1, MOST_NUMBER)
        _check_number(count, 0, MOST_MOVED)
        self.tail = tail
        self.count = count

    def __eq__(self, other):
        return isinstance(other, Seal) and self.tail == other.tail and self.count == other.count


class Node:
    """The record that tells a file or a directory, or that it is gone."""

    def __init__(self, deed, at, of, node, what, size, chunks, until=0):
        _check_stamp(deed, at, of)
        _check_number(node, ROOT + 1, MOST_ID)
        _check_number(what, GONE, DIRECTORY)
        _check_number(size, 0, MOST_SIZE if what == FILE else 0)
        _check_number(chunks, 0, (1 << chunk_count(size)) - 1)
        _check_until(until, deed, of)
        self.deed = deed
        self.at = at
        self.of = of
        self.node = node
        self.what = what
        self.size = size
        self.chunks = chunks
        self.until = until

    def __eq__(self, other):
        return isinstance(other, Node) and _parts(self) == _parts(other)

    def key(self):
        """Return the key of the record."""
        return ("node", self.node)

    def fact(self):
        """Return what the record tells of a tree."""
        return ("node", self.node, self.what, self.size, self.chunks)


class Name:
    """The record that tells to which node a name of a directory leads, or that it is gone."""

    def __init__(self, deed, at, of, directory, name, node, until=0):
        _check_stamp(deed, at, of)
        _check_number(directory, ROOT, MOST_ID)
        _check_name(name)
        if node == ROOT:
            raise InvalidNumber(node)
        _check_number(node, NO_NODE, MOST_ID)
        _check_until(until, deed, of)
        self.deed = deed
        self.at = at
        self.of = of
        self.directory = directory
        self.name = name
        self.node = node
        self.until = until

    def __eq__(self, other):
        return isinstance(other, Name) and _parts(self) == _parts(other)

    def key(self):
        """Return the key of the record."""
        return ("name", self.directory, self.name)

    def fact(self):
        """Return what the record tells of a tree."""
        return ("name", self.directory, self.name, self.node)


class Chunk:
    """The record that tells the octets of a chunk of a file."""

    def __init__(self, deed, at, of, node, index, octets, until=0):
        _check_stamp(deed, at, of)
        _check_number(node, ROOT + 1, MOST_ID)
        _check_number(index, 0, MOST_CHUNKS - 1)
        if not is_octets_of(octets, CHUNK_OCTETS):
            raise InvalidOctets(octets)
        _check_until(until, deed, of)
        self.deed = deed
        self.at = at
        self.of = of
        self.node = node
        self.index = index
        self.octets = tuple(octets)
        self.until = until

    def __eq__(self, other):
        return isinstance(other, Chunk) and _parts(self) == _parts(other)

    def key(self):
        """Return the key of the record."""
        return ("chunk", self.node, self.index)

    def fact(self):
        """Return what the record tells of a tree."""
        return ("chunk", self.node, self.index, self.octets)


class Keep:
    """The record that tells that the tree was kept under a name, or that the kept one was let go."""

    def __init__(self, deed, at, of, name, is_kept, until=0):
        _check_stamp(deed, at, of)
        _check_name(name)
        _check_flag(is_kept)
        _check_until(until, deed, of)
        self.deed = deed
        self.at = at
        self.of = of
        self.name = name
        self.is_kept = is_kept
        self.until = until

    def __eq__(self, other):
        return isinstance(other, Keep) and _parts(self) == _parts(other)

    def key(self):
        """Return the key of the record."""
        return ("keep", self.name)

    def fact(self):
        """Return what the record tells of a tree."""
        return ("keep", self.name, self.is_kept)


def is_tree_record(value):
    """Tell whether a value is a record that tells a part of a tree."""
    return isinstance(value, (Node, Name, Chunk, Keep))


def is_moved(value):
    """Tell whether a value is a moved record."""
    return is_tree_record(value) and value.of == 0


def record_of(fact, deed, at, of, until=0):
    """Return the tree record that tells a fact with these numbers."""
    if fact[0] == "node":
        _, node, what, size, chunks = fact
        return Node(deed, at, of, node, what, size, chunks, until)
    if fact[0] == "name":
        _, directory, name, node = fact
        return Name(deed, at, of, directory, name, node, until)
    if fact[0] == "chunk":
        _, node, index, octets = fact
        return Chunk(deed, at, of, node, index, octets, until)
    _, name, is_kept = fact
    return Keep(deed, at, of, name, is_kept, until)


def moved(record, until):
    """Return the moved record that tells what a tree record tells, with this until."""
    if not is_tree_record(record):
        raise InvalidRecord(record)
    return record_of(record.fact(), record.deed, 0, 0, until)


def written(record):
    """Return the 30 octets that tell a record."""
    if isinstance(record, Head):
        kind = CLEANING_KIND if record.is_cleaning else HEAD_KIND
        return _filled((kind,) + octets_telling(record.seq, 4) + octets_telling(record.tail, 4), DATA_OCTETS)
    if isinstance(record, Seal):
        return _filled((SEAL_KIND,) + octets_telling(record.tail, 4) + (record.count,), DATA_OCTETS)
    if not is_tree_record(record):
        raise InvalidRecord(record)
    fact = record.fact()
    numbers = (FACT_KINDS[fact[0]],) + octets_telling(record.deed, 4) + (record.at, record.of)
    return _filled(numbers + _octets_of_fact(fact), UNTIL_PLACE) + octets_telling(record.until, 4)


def read_record(data):
    """Return the record that is written as these octets, or None if there is none."""
    if not is_octets_of(data, DATA_OCTETS):
        raise InvalidData(data)
    return record_told_by(tuple(data))


def record_told_by(octets):
    """Return the record that is written as what is known to be a tuple of 30 octets, or None."""
    try:
        record = _seeming_record(octets)
    except (InvalidNumber, InvalidName):
        return None
    # Octets that mean nothing to the reader, and those that it reads with mercy, are not as the record is written.
    if record is None or written(record) != octets:
        return None
    return record


def _check_number(value, least, greatest):
    if not is_int_from(value, least, greatest):
        raise InvalidNumber(value)


def _check_flag(value):
    if not isinstance(value, bool):
        raise InvalidNumber(value)


def _check_name(value):
    if not is_name(value):
        raise InvalidName(value)


def _check_stamp(deed, at, of):
    _check_number(deed, 1, MOST_NUMBER)
    _check_number(at, 0, MOST_RECORDS - 1)
    _check_number(of, 0 if at == 0 else at + 1, MOST_RECORDS)


def _check_until(until, deed, of):
    if of > 0 or not is_int_from(until, deed + 1, MOST_NUMBER):
        _check_number(until, 0, 0)


def _head_parts(head):
    return (head.seq, head.tail, head.is_cleaning)


def _parts(record):
    return (record.deed, record.at, record.of, record.fact(), record.until)


def _filled(octets, count):
    """Return the octets with zeros behind them, so many in all."""
    return octets + (0,) * (count - len(octets))


def _octets_of_fact(fact):
    if fact[0] == "node":
        _, node, what, size, chunks = fact
        return octets_telling(node, 2) + (what, size, chunks)
    if fact[0] == "name":
        _, directory, name, node = fact
        return octets_telling(directory, 2) + octets_telling(node, 2) + _octets_of_name(name)
    if fact[0] == "chunk":
        _, node, index, octets = fact
        return octets_telling(node, 2) + (index,) + octets
    _, name, is_kept = fact
    return (int(is_kept),) + _octets_of_name(name)


def _octets_of_name(name):
    return (len(name),) + tuple([ord(letter) for letter in name])


def _seeming_record(octets):
    """Return the record that the octets seem to tell, or None for octets of no kind."""
    kind = octets[0]
    if kind in (HEAD_KIND, CLEANING_KIND):
        return Head(number_told_by(octets[1:5]), number_told_by(octets[5:9]), kind == CLEANING_KIND)
    if kind == SEAL_KIND:
        return Seal(number_told_by(octets[1:5]), octets[5])
    fact = _seeming_fact(kind, octets[FACT_PLACE:UNTIL_PLACE])
    if fact is None:
        return None
    return record_of(fact, number_told_by(octets[1:5]), octets[5], octets[6], number_told_by(octets[UNTIL_PLACE:]))


def _seeming_fact(kind, octets):
    number = number_told_by(octets[:2])
    if kind == FACT_KINDS["node"]:
        return ("node", number, octets[2], octets[3], octets[4])
    if kind == FACT_KINDS["name"]:
        return ("name", number, _seeming_name(octets[4:]), number_told_by(octets[2:4]))
    if kind == FACT_KINDS["chunk"]:
        return ("chunk", number, octets[2], octets[3:])
    if kind == FACT_KINDS["keep"]:
        return ("keep", _seeming_name(octets[1:]), octets[0] == 1)
    return None


def _seeming_name(octets):
    """Return the string of so many letters as the first octet tells, with a ? for an octet that tells no letter."""
    return "".join([_seeming_letter(octet) for octet in octets[1:1 + octets[0]]])


def _seeming_letter(octet):
    if FIRST_LETTER <= octet < FIRST_LETTER + len(LETTERS):
        return LETTERS[octet - FIRST_LETTER]
    return "?"

"""What points 83 and 86 tell of lists of records, told anew and slowly, to compare the program with."""

from onewaybits.records import Chunk, Keep, Name, Node, moved

NOW = float("inf")


def plain_selected(records, key, version):
    """Return the index of the record of a key that is selected for a version, or None."""
    found = [
        (record.deed, place) for place, record in enumerate(records)
        if record.key() == key and record.deed <= version and (record.until == 0 or record.until > version)
    ]
    return max(found)[1] if found else None


def plain_there(records, version):
    """Return the indices of the records that are there in a version."""
    return [place for place, record in enumerate(records)
            if plain_selected(records, record.key(), version) == place and is_there(records, record, version)]


def is_there(records, record, version):
    if isinstance(record, Node):
        return record.what != 0
    if isinstance(record, Name):
        return record.node != 0
    if isinstance(record, Keep):
        return version == NOW and record.is_kept
    node = plain_selected(records, ("node", record.node), version)
    return node is not None and (records[node].chunks // 2 ** record.index) % 2 == 1


def plain_versions(records):
    return [NOW] + [records[place].deed for place in plain_there(records, NOW) if isinstance(records[place], Keep)]


def plain_needed(records):
    return sorted({place for version in plain_versions(records) for place in plain_there(records, version)})


def is_in_order(records):
    for first in records:
        for second in records:
            if first.key() == second.key():
                if first.deed == second.deed and moved(first, first.until) != moved(second, second.until):
                    return False
                if first.deed < second.deed and (first.until > second.deed or first.until == 0 < second.until):
                    return False
    return True


def plain_until(records, record):
    """Return the until of a record, or the deed of the next newer record of its key, or 0."""
    newer = [other.deed for other in records if other.key() == record.key() and other.deed > record.deed]
    return record.until or min(newer, default=0)


def thinned(records, gone):
    """Return a list without those records, by index, that are to go and those that go with them, as point 86 has it.

    The needed ones stay, as moved ones, behind the others.
    """
    needed, gone = plain_needed(records), set(gone)
    count = -1
    while count < len(gone):
        count = len(gone)
        for place in list(gone):
            record = records[place]
            for other, beside in enumerate(records):
                if beside.key() == record.key():
                    older = beside.deed < record.deed and beside.until == 0
                    if older or place in needed and beside.deed == record.deed:
                        gone.add(other)
    left = [record for place, record in enumerate(records) if place not in gone]
    return left + [moved(records[place], plain_until(records, records[place])) for place in needed if place in gone]


def ids_of(records):
    return [1] + [record.node for record in records if isinstance(record, (Node, Name, Chunk))] + [
        record.directory for record in records if isinstance(record, Name)]

"""Versions: which records of a list tell a tree, as it is now and as it was when it was kept.

A version is the number of a deed, or NOW. Records are told by their indices in the list.
"""

from onewaybits.facts import GONE, NO_NODE, has_chunk
from onewaybits.records import Chunk, Keep, Name, Node

NOW = None


def selected(records, version):
    """Return, by key, the index of the record that is selected for a version."""
    chosen = {}
    for place, record in enumerate(records):
        if _is_for(record, version):
            key = record.key()
            if key not in chosen or records[chosen[key]].deed <= record.deed:
                chosen[key] = place
    return chosen


def there(records, version):
    """Return the indices, ascending, of the records that are there in a version."""
    chosen = selected(records, version)
    return sorted([place for place in chosen.values() if _is_there(records, chosen, place, version)])


def keeps_there(records):
    """Return the Keeps, in order, of the trees that are kept now."""
    return [records[place] for place in there(records, NOW) if isinstance(records[place], Keep)]


def versions(records):
    """Return the versions of a list of records: now, and the deeds by which the kept trees were kept."""
    return [NOW] + [keep.deed for keep in keeps_there(records)]


def needed(records):
    """Return the indices, ascending, of the records that are there in a version of the list."""
    found = {}
    for version in versions(records):
        for place in there(records, version):
            found[place] = True
    return sorted(list(found))


def facts_in(records, version):
    """Return the facts of the nodes, names and chunks that are there in a version."""
    return [records[place].fact() for place in there(records, version) if not isinstance(records[place], Keep)]


def _is_for(record, version):
    if version == NOW:
        return record.until == 0
    return record.deed <= version and (record.until == 0 or version < record.until)


def _is_there(records, chosen, place, version):
    record = records[place]
    if isinstance(record, Node):
        return record.what != GONE
    if isinstance(record, Name):
        return record.node != NO_NODE
    if isinstance(record, Chunk):
        node = chosen.get(("node", record.node))
        return node is not None and has_chunk(records[node].chunks, record.index)
    return version == NOW and record.is_kept

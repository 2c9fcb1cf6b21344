"""Groups: the records that tell what a deed does, and the trees that records tell."""

from onewaybits.changes import MOST_KEPT, outcome
from onewaybits.errors import InvalidDeed, InvalidNumber, InvalidRecords, InvalidTree
from onewaybits.facts import ROOT, key_of, last_of_each_key, tells_tree
from onewaybits.kinds import MOST_NUMBER, is_int_from, is_list
from onewaybits.records import MOST_ID, Keep, Name, is_tree_record, record_of
from onewaybits.tree import Tree, is_deed
from onewaybits.versions import NOW, facts_in, keeps_there, versions

# A node is to be there ahead of its names, and its chunks are told behind it.
TELLING_ORDER = ("node", "name", "chunk")


def group(tree, deed, number):
    """Return the records that tell what a deed does if it is done next at a tree; none if it is refused."""
    _check_tree(tree)
    if not is_deed(deed):
        raise InvalidDeed(deed)
    if not is_int_from(number, 1, MOST_NUMBER):
        raise InvalidNumber(number)
    _, told = outcome(tree, deed)
    facts = last_of_each_key(told)
    return [record_of(fact, number, at, len(facts)) for at, fact in enumerate(facts)]


def keys(tree):
    """Return the set of the keys of what is there in a tree."""
    _check_tree(tree)
    return sorted([key_of(fact) for fact in tree.facts()])


def living(tree):
    """Return the measure of a tree: the number of its keys and of those of the trees that it keeps."""
    _check_tree(tree)
    kept = [tree.kept(name) for name in tree.kept_names()]
    return sum([len(shown.facts()) for shown in [tree] + kept])


def tree_of(records, next_id):
    """Return the tree that records tell, with the trees that they tell to be kept."""
    if not _tell_trees(records):
        raise InvalidRecords(records)
    if not is_int_from(next_id, greatest_id(records) + 1, MOST_ID + 1):
        raise InvalidNumber(next_id)
    tree = _tree_in(records, NOW)
    for keep in keeps_there(records):
        tree.keep_tree(keep.name, _tree_in(records, keep.deed))
    tree.next_id = next_id
    return tree


def greatest_id(records):
    """Return the greatest id that tree records tell as node or directory, and that of the root if it is greater."""
    ids = [ROOT]
    for record in records:
        if isinstance(record, Name):
            ids.append(record.directory)
        if not isinstance(record, Keep):
            ids.append(record.node)
    return max(ids)


def _check_tree(tree):
    if not isinstance(tree, Tree):
        raise InvalidTree(tree)


def _tell_trees(records):
    """Tell whether a value is a list of tree records that tell a tree in each version of the list."""
    if not is_list(records) or not all([is_tree_record(record) for record in records]):
        return False
    if len(keeps_there(records)) > MOST_KEPT:
        return False
    return all([tells_tree(facts_in(records, version)) for version in versions(records)])


def _tree_in(records, version):
    """Return the tree, without kept ones, of what is there in a version."""
    tree = Tree()
    facts = facts_in(records, version)
    for kind in TELLING_ORDER:
        tree.tell([fact for fact in facts if fact[0] == kind])
    return tree

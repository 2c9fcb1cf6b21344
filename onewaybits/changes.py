"""What deeds do to a tree: the word by which the tree refuses one, or the facts that are new behind it."""

from onewaybits.facts import CHUNK_OCTETS, DIRECTORY, FILE, GONE, MOST_SIZE, NO_NODE, chunk_count, last_of_each_key

MOST_KEPT = 3
MOST_KEYS = 6


def outcome(tree, deed):
    """Return the word by which a tree refuses a deed, or None, and the facts that the deed tells one by one.

    The tree stays as it is. No facts are told by a refused deed, and several ones of one key perhaps by an "all".
    """
    if deed[0] == "all":
        return _outcome_of_all(tree, deed[1])
    word = _refusal(tree, deed)
    if word is not None:
        return word, []
    return None, _changes(tree, deed)


def _outcome_of_all(tree, deeds):
    trial = tree.copy()
    told = []
    for deed in deeds:
        word, facts = outcome(trial, deed)
        if word is not None:
            return word, []
        trial.tell(facts)
        told.extend(facts)
    if len(last_of_each_key(told)) > MOST_KEYS:
        return "large", []
    return None, told


def _refusal(tree, deed):
    refuse = REFUSALS[deed[0]]
    return refuse(tree, deed)


def _changes(tree, deed):
    change = CHANGES[deed[0]]
    return change(tree, deed)


def _word_if_none(tree, path):
    """Return the word that is due if a path is to lead to a node."""
    if tree.parent_at(path) is None:
        return "path"
    if tree.node_at(path) is None:
        return "none"
    return None


def _word_if_any(tree, path):
    """Return the word that is due if a path is to be free for a new name."""
    if tree.parent_at(path) is None:
        return "path"
    if tree.node_at(path) is not None:
        return "exists"
    return None


def _word_if_no_file(tree, path):
    """Return the word that is due if a path is to lead to a file."""
    word = _word_if_none(tree, path)
    if word is None and tree.is_directory(tree.node_at(path)):
        return "kind"
    return word


def _refuse_making(tree, deed):
    return _word_if_any(tree, deed[1])


def _refuse_write(tree, deed):
    _, path, at, octets = deed
    word = _word_if_no_file(tree, path)
    if word is None and at + len(octets) > MOST_SIZE:
        return "long"
    return word


def _refuse_cut(tree, deed):
    return _word_if_no_file(tree, deed[1])


def _refuse_link(tree, deed):
    _, path, new = deed
    word = _word_if_no_file(tree, path)
    if word is None:
        return _word_if_any(tree, new)
    return word


def _refuse_move(tree, deed):
    _, path, new = deed
    word = _word_if_none(tree, path)
    if word is not None:
        return word
    if tree.parent_at(new) is None:
        return "path"
    node = tree.node_at(path)
    # No file is on the way, as new has a parent.
    if node in [tree.node_at(new[:count]) for count in range(len(new))]:
        return "ring"
    return _refuse_replacing(tree, node, tree.node_at(new))


def _refuse_replacing(tree, node, other):
    """Return the word that is due if a node is to be where another one is, or nothing."""
    if other is None:
        return None
    if other == node:
        return "exists"
    if tree.is_directory(node) != tree.is_directory(other):
        return "kind"
    if tree.is_filled(other):
        return "filled"
    return None


def _refuse_drop(tree, deed):
    _, path = deed
    word = _word_if_none(tree, path)
    if word is None and tree.is_filled(tree.node_at(path)):
        return "filled"
    return word


def _refuse_keep(tree, deed):
    kept = tree.kept_names()
    if deed[1] in kept:
        return "exists"
    if len(kept) == MOST_KEPT:
        return "many"
    return None


def _refuse_let(tree, deed):
    if deed[1] not in tree.kept_names():
        return "none"
    return None


def _make_file(tree, deed):
    return _make(tree, deed[1], FILE)


def _make_directory(tree, deed):
    return _make(tree, deed[1], DIRECTORY)


def _make(tree, path, what):
    node = tree.next_id
    return [("node", node, what, 0, 0), _name(tree, path, node)]


def _write(tree, deed):
    _, path, at, octets = deed
    node = tree.node_at(path)
    _, size, chunks = tree.told_of(node)
    end = at + len(octets)
    facts = []
    for index in range(at // CHUNK_OCTETS, chunk_count(end)):
        facts.append(("chunk", node, index, _with_written(tree.chunk_of(node, index), index, at, octets)))
        chunks = chunks | (1 << index)
    return facts + [("node", node, FILE, max(size, end), chunks)]


def _with_written(chunk, index, at, octets):
    """Return the octets of a chunk, with those of a write from a place of the file on in it."""
    found = list(chunk)
    for place in range(CHUNK_OCTETS):
        k = CHUNK_OCTETS * index + place - at
        if 0 <= k < len(octets):
            found[place] = octets[k]
    return tuple(found)


def _cut(tree, deed):
    _, path, size = deed
    node = tree.node_at(path)
    _, _, chunks = tree.told_of(node)
    facts = []
    index = size // CHUNK_OCTETS
    left = size % CHUNK_OCTETS
    if left > 0:
        # The one chunk that begins ahead of the new size and may reach beyond it.
        chunk = tree.chunk_of(node, index)
        shortened = chunk[:left] + (0,) * (CHUNK_OCTETS - left)
        if shortened != chunk:
            facts.append(("chunk", node, index, shortened))
    return facts + [("node", node, FILE, size, chunks & ((1 << chunk_count(size)) - 1))]


def _link(tree, deed):
    _, path, new = deed
    return [_name(tree, new, tree.node_at(path))]


def _move(tree, deed):
    _, path, new = deed
    names = [_name(tree, path, NO_NODE), _name(tree, new, tree.node_at(path))]
    return names + _gone_with_name(tree, tree.node_at(new))


def _drop(tree, deed):
    _, path = deed
    return [_name(tree, path, NO_NODE)] + _gone_with_name(tree, tree.node_at(path))


def _gone_with_name(tree, node):
    """Return the fact that a node is gone if it is to lose a name and has no other one."""
    if node is None or tree.name_count(node) > 1:
        return []
    return [("node", node, GONE, 0, 0)]


def _keep(tree, deed):
    return [("keep", deed[1], True)]


def _let(tree, deed):
    return [("keep", deed[1], False)]


def _name(tree, path, node):
    return ("name", tree.parent_at(path), path[-1], node)


REFUSALS = {
    "file": _refuse_making, "dir": _refuse_making, "write": _refuse_write, "cut": _refuse_cut, "link": _refuse_link,
    "move": _refuse_move, "drop": _refuse_drop, "keep": _refuse_keep, "let": _refuse_let,
}
CHANGES = {
    "file": _make_file, "dir": _make_directory, "write": _write, "cut": _cut, "link": _link, "move": _move,
    "drop": _drop, "keep": _keep, "let": _let,
}

"""Facts: what records tell of a tree, without the numbers that say when.

A fact is one of these tuples, where a node that is gone has the what GONE, and a name that is gone the node NO_NODE:
("node", node, what, size, chunks), ("name", directory, name, node), ("chunk", node, index, octets) and
("keep", name, is_kept).
"""

GONE = 0
FILE = 1
DIRECTORY = 2

NO_NODE = 0
ROOT = 1

CHUNK_OCTETS = 16
MOST_CHUNKS = 6
MOST_SIZE = 96
EMPTY_CHUNK = (0,) * 16

KEY_SIZES = {"node": 2, "name": 3, "chunk": 3, "keep": 2}


def key_of(fact):
    """Return the key of a fact; of two facts with one key the later one holds."""
    return fact[:KEY_SIZES[fact[0]]]


def last_of_each_key(facts):
    """Return, in order, those facts behind which no other one has their key."""
    places = {key_of(fact): place for place, fact in enumerate(facts)}
    return [facts[place] for place in sorted(list(places.values()))]


def chunk_count(size):
    """Return the number of the chunks that begin ahead of a size."""
    return (size + CHUNK_OCTETS - 1) // CHUNK_OCTETS


def has_chunk(chunks, index):
    """Tell whether a sum of 2 to the power of indices has this index."""
    return (chunks >> index) & 1 == 1


def chunk_indices(chunks):
    """Return the indices, ascending, of which a sum of 2 to the power of indices is made."""
    return [index for index in range(MOST_CHUNKS) if has_chunk(chunks, index)]


def tells_tree(facts):
    """Tell whether facts of what is there, with unlike keys, make up a tree."""
    nodes = {fact[1]: fact for fact in facts if fact[0] == "node"}
    names = [fact for fact in facts if fact[0] == "name"]
    chunks = {key_of(fact): fact[3] for fact in facts if fact[0] == "chunk"}
    return (
        all([_leads(name, nodes) for name in names])
        and _have_names(nodes, names)
        and _lead_up(nodes, names)
        and all([_has_its_chunks(nodes[node], chunks) for node in nodes])
    )


def _leads(name, nodes):
    """Tell whether a name is in a directory that is there and leads to a node that is there."""
    _, directory, _, node = name
    return (directory == ROOT or _is_directory(directory, nodes)) and node in nodes


def _is_directory(node, nodes):
    return node in nodes and nodes[node][2] == DIRECTORY


def _have_names(nodes, names):
    """Tell whether names lead to each node, and to a directory just one."""
    counts = {node: 0 for node in nodes}
    for name in names:
        counts[name[3]] += 1
    return all([counts[node] == 1 or counts[node] > 1 and not _is_directory(node, nodes) for node in nodes])


def _lead_up(nodes, names):
    """Tell whether the way up leads from each directory to the root."""
    above = {name[3]: name[1] for name in names if _is_directory(name[3], nodes)}
    return all([_leads_up(directory, above) for directory in above])


def _leads_up(directory, above):
    place = directory
    for _ in range(len(above)):
        if place == ROOT:
            return True
        place = above[place]
    return place == ROOT


def _has_its_chunks(fact, chunks):
    """Tell whether each chunk of a node is there, with zeros from the size of the node on."""
    _, node, _, size, indices = fact
    for index in chunk_indices(indices):
        octets = chunks.get(("chunk", node, index))
        if octets is None or max((0,) + octets[size - CHUNK_OCTETS * index:]) > 0:
            return False
    return True

"""Trees of directories and files, as plain values, and the deeds that change them."""

from onewaybits.changes import outcome
from onewaybits.errors import InvalidDeed, InvalidName, InvalidPath, NoThing
from onewaybits.facts import (
    DIRECTORY, EMPTY_CHUNK, GONE, MOST_CHUNKS, MOST_SIZE, NO_NODE, ROOT, chunk_indices, has_chunk,
)
from onewaybits.kinds import is_int_from, is_name, is_octets, is_path

MOST_WRITTEN = 48
LEAST_TOGETHER = 2
MOST_TOGETHER = 4

# The word of each deed but "all", and what its further items are.
DEED_PARTS = {
    "file": ("path",), "dir": ("path",), "write": ("path", "size", "octets"), "cut": ("path", "size"),
    "link": ("path", "path"), "move": ("path", "path"), "drop": ("path",), "keep": ("name",), "let": ("name",),
}


class Tree:
    """A tree of directories and files, with the trees that it keeps."""

    def __init__(self):
        self.next_id = ROOT + 1
        # By node: its what, size and chunks; the names of a directory; how many names lead to it.
        self._told = {ROOT: (DIRECTORY, 0, 0)}
        self._names = {ROOT: {}}
        self._name_counts = {}
        self._chunks = {}
        self._kept = {}

    def __eq__(self, other):
        return isinstance(other, Tree) and self.whole() == other.whole()

    def copy(self):
        """Return a new tree that is as this one is."""
        tree = self.copy_without_kept()
        # Kept trees are never changed, so both may have the very same ones.
        tree._kept = dict(self._kept)
        return tree

    def copy_without_kept(self):
        """Return a new tree that is as this one is, but keeps no trees."""
        tree = Tree()
        tree.next_id = self.next_id
        tree._told = dict(self._told)
        tree._names = {node: dict(self._names[node]) for node in self._names}
        tree._name_counts = dict(self._name_counts)
        tree._chunks = {key: self._chunks[key] for key in self._chunks}
        return tree

    def do(self, deed):
        """Do a deed and return None, or change nothing and return the word by which it is refused."""
        if not is_deed(deed):
            raise InvalidDeed(deed)
        word, facts = outcome(self, deed)
        self.tell(facts)
        return word

    def kind_of(self, path):
        """Return "file" or "dir", or None if the path leads to nothing."""
        node = self._checked_node_at(path)
        if node is None:
            return None
        return self._word_of(node)

    def size_of(self, path):
        """Return the size of a file, or None if the path does not lead to one."""
        node = self._checked_node_at(path)
        if node is None or self.is_directory(node):
            return None
        return self._told[node][1]

    def read(self, path):
        """Return the octets of a file, or None if the path does not lead to one."""
        node = self._checked_node_at(path)
        if node is None or self.is_directory(node):
            return None
        return self._octets_of(node)

    def listing(self, path):
        """Return the names of a directory, ascending, or None if the path does not lead to one."""
        node = self._checked_node_at(path)
        if not self.is_directory(node):
            return None
        return sorted(list(self._names[node]))

    def picture(self):
        """Return what each path but the empty one leads to, ascending by path."""
        first = {}
        shown = []
        for path, node in self._ways():
            octets = None
            if not self.is_directory(node):
                octets = self._octets_of(node)
            chunks = tuple(chunk_indices(self._told[node][2]))
            shown.append((path, self._word_of(node), octets, first.setdefault(node, path), chunks))
        return tuple(shown)

    def whole(self):
        """Return the picture of the tree, and the names and pictures of the trees that it keeps."""
        return (self.picture(), tuple([(name, self._kept[name].picture()) for name in self.kept_names()]))

    def kept_names(self):
        """Return the names under which trees are kept, ascending."""
        return sorted(list(self._kept))

    def kept(self, name):
        """Return a new tree that is as the one that is kept under a name."""
        if not is_name(name):
            raise InvalidName(name)
        if name not in self._kept:
            raise NoThing(name)
        tree = self._kept[name].copy()
        tree.next_id = self.next_id
        return tree

    def keep_tree(self, name, tree):
        """Keep a tree, which is not changed from then on, under a name."""
        self._kept[name] = tree

    def node_at(self, path):
        """Return the node to which a path leads, or None."""
        node = ROOT
        for name in path:
            # Files have no names, and None, where a path leads to nothing, has none either.
            node = self._names.get(node, {}).get(name)
        return node

    def parent_at(self, path):
        """Return the directory that is the parent of a path, or None if it has none."""
        if len(path) == 0:
            return None
        node = self.node_at(path[:-1])
        if not self.is_directory(node):
            return None
        return node

    def is_directory(self, node):
        """Tell whether a node is a directory; None, where a path leads to nothing, is none."""
        return node in self._names

    def is_filled(self, node):
        """Tell whether a node is a directory that has names."""
        return len(self._names.get(node, {})) > 0

    def told_of(self, node):
        """Return the what, the size and the chunks of a node."""
        return self._told[node]

    def chunk_of(self, node, index):
        """Return the octets of a chunk, zeros if it is not there."""
        return self._chunks.get((node, index), EMPTY_CHUNK)

    def name_count(self, node):
        """Return how many names lead to a node."""
        return self._name_counts.get(node, 0)

    def facts(self):
        """Return the facts of what is there, those of the names of the kept trees among them."""
        found = [("node", node) + self._told[node] for node in self._told if node != ROOT]
        for directory in self._names:
            found.extend([("name", directory, name, node) for name, node in self._names[directory].items()])
        found.extend([("chunk", node, index, octets) for (node, index), octets in self._chunks.items()])
        return found + [("keep", name, True) for name in self._kept]

    def tell(self, facts):
        """Change the tree by facts, one behind the other."""
        for fact in facts:
            if fact[0] == "node":
                _, node, what, size, chunks = fact
                self._tell_node(node, what, size, chunks)
            elif fact[0] == "name":
                _, directory, name, node = fact
                self._tell_name(directory, name, node)
            elif fact[0] == "chunk":
                _, node, index, octets = fact
                self._chunks[(node, index)] = octets
            else:
                _, name, is_kept = fact
                self._tell_keep(name, is_kept)

    def _tell_node(self, node, what, size, chunks):
        self.next_id = max(self.next_id, node + 1)
        for index in range(MOST_CHUNKS):
            if not has_chunk(chunks, index):
                self._chunks.pop((node, index), None)
        if what == GONE:
            self._told.pop(node, None)
            self._names.pop(node, None)
            self._name_counts.pop(node, None)
        else:
            self._told[node] = (what, size, chunks)
            if what == DIRECTORY:
                self._names.setdefault(node, {})

    def _tell_name(self, directory, name, node):
        names = self._names[directory]
        before = names.pop(name, None)
        if before is not None:
            self._name_counts[before] -= 1
        if node != NO_NODE:
            names[name] = node
            self._name_counts[node] = self.name_count(node) + 1

    def _tell_keep(self, name, is_kept):
        self._kept.pop(name, None)
        if is_kept:
            self._kept[name] = self.copy_without_kept()

    def _checked_node_at(self, path):
        if not is_path(path):
            raise InvalidPath(path)
        return self.node_at(path)

    def _word_of(self, node):
        if self.is_directory(node):
            return "dir"
        return "file"

    def _octets_of(self, node):
        _, size, _ = self._told[node]
        octets = []
        for index in range(MOST_CHUNKS):
            octets.extend(self.chunk_of(node, index))
        return tuple(octets[:size])

    def _ways(self):
        """Return each path but the empty one that leads to a node, with this node, ascending."""
        found = []
        waiting = [((), ROOT)]
        while len(waiting) > 0:
            path, directory = waiting.pop()
            for name, node in self._names[directory].items():
                found.append((path + (name,), node))
                if self.is_directory(node):
                    waiting.append((path + (name,), node))
        return sorted(found)


def is_deed(value):
    """Tell whether a value is a deed."""
    if not _is_worded(value):
        return False
    if value[0] == "all":
        return len(value) == 2 and _are_deeds_together(value[1])
    return _is_single_deed(value)


def lasting_deed(deed):
    """Return a deed that tells the same, but in which octets are a tuple, so that nobody can change it."""
    if deed[0] == "all":
        return ("all", tuple([lasting_deed(part) for part in deed[1]]))
    if deed[0] == "write":
        return deed[:3] + (tuple(deed[3]),)
    return deed


def _is_worded(value):
    return isinstance(value, tuple) and len(value) > 0 and isinstance(value[0], str)


def _is_single_deed(value):
    parts = DEED_PARTS.get(value[0])
    if parts is None or len(value) != 1 + len(parts):
        return False
    return all([_is_part(part, item) for part, item in zip(parts, value[1:])])


def _is_part(part, item):
    if part == "path":
        return is_path(item)
    if part == "name":
        return is_name(item)
    if part == "size":
        return is_int_from(item, 0, MOST_SIZE)
    return is_octets(item) and 1 <= len(item) <= MOST_WRITTEN


def _are_deeds_together(value):
    if not isinstance(value, tuple) or not LEAST_TOGETHER <= len(value) <= MOST_TOGETHER:
        return False
    return all([_is_worded(deed) and deed[0] not in ("keep", "let") and _is_single_deed(deed) for deed in value])

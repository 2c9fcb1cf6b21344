"""A second tree, told anew by points 61 to 70 and 81, to compare a Tree with.

Its directories and files are objects that stand in one another, so it knows nothing of facts, keys and numbers but the
ids that it gives.
"""

import copy

from onewaybits.records import Chunk, Keep, Name, Node

WORDS = ["file", "dir", "write", "cut", "link", "move", "drop", "keep", "let", "all"]


class PlainFile:

    def __init__(self, number):
        self.number, self.size, self.chunks = number, 0, {}

    def octets(self):
        every = [octet for index in range(6) for octet in self.chunks.get(index, [0] * 16)]
        return tuple(every[:self.size])

    def write(self, at, octets):
        self.size = max(self.size, at + len(octets))
        for k, octet in enumerate(octets):
            self.chunks.setdefault((at + k) // 16, [0] * 16)[(at + k) % 16] = octet

    def cut(self, size):
        self.size = size
        self.chunks = {index: chunk for index, chunk in self.chunks.items() if 16 * index < size}
        for index, chunk in self.chunks.items():
            self.chunks[index] = [octet if 16 * index + k < size else 0 for k, octet in enumerate(chunk)]


class PlainDirectory:

    def __init__(self, number):
        self.number, self.names = number, {}


class PlainTree:

    def __init__(self):
        self.root, self.next_id, self.kept = PlainDirectory(1), 2, {}

    def at(self, path):
        node = self.root
        for name in path:
            node = node.names.get(name) if isinstance(node, PlainDirectory) else None
        return node

    def parent(self, path):
        node = self.at(path[:-1]) if path else None
        return node if isinstance(node, PlainDirectory) else None

    def ways(self):
        """Return all (path, node) but that of the root, ascending by path."""
        found, waiting = [], [((), self.root)]
        for path, node in waiting:
            for name, below in node.names.items():
                found.append((path + (name,), below))
                if isinstance(below, PlainDirectory):
                    waiting.append((path + (name,), below))
        return sorted(found, key=lambda way: way[0])

    def picture(self):
        ways, shown = self.ways(), []
        for path, node in ways:
            first = min(other for other, same in ways if same is node)
            if isinstance(node, PlainFile):
                shown.append((path, "file", node.octets(), first, tuple(sorted(node.chunks))))
            else:
                shown.append((path, "dir", None, first, ()))
        return tuple(shown)

    def keys(self):
        nodes = {node.number: node for _, node in self.ways()}
        found = [("node", number) for number in nodes]
        found += [("name", self.parent(path).number, path[-1]) for path, _ in self.ways()]
        found += [("chunk", number, index) for number, node in nodes.items() if isinstance(node, PlainFile)
                  for index in node.chunks]
        return sorted(found + [("keep", name) for name in self.kept])

    def living(self):
        return len(self.keys()) + sum(len(kept.keys()) for kept in self.kept.values())

    def word(self, deed):
        """Return the word by which a deed is refused, or None."""
        kind, path = deed[0], deed[1]
        if kind in ("keep", "let"):
            return self.keeping_word(kind, path)
        if kind == "all":
            return self.together_word(path)
        if kind in ("file", "dir"):
            return self.free_word(path)
        if self.parent(path) is None:
            return "path"
        if self.at(path) is None:
            return "none"
        node = self.at(path)
        if kind == "drop":
            return "filled" if isinstance(node, PlainDirectory) and node.names else None
        if kind == "move":
            return self.moving_word(path, deed[2])
        if isinstance(node, PlainDirectory):
            return "kind"
        if kind == "write":
            return "long" if deed[2] + len(deed[3]) > 96 else None
        return self.free_word(deed[2]) if kind == "link" else None

    def free_word(self, path):
        if self.parent(path) is None:
            return "path"
        return None if self.at(path) is None else "exists"

    def moving_word(self, path, new):
        if self.parent(new) is None:
            return "path"
        node, other = self.at(path), self.at(new)
        if isinstance(node, PlainDirectory) and any(self.at(new[:k]) is node for k in range(len(new))):
            return "ring"
        if other is None:
            return None
        if other is node:
            return "exists"
        if type(other) is not type(node):
            return "kind"
        return "filled" if isinstance(other, PlainDirectory) and other.names else None

    def keeping_word(self, kind, name):
        if kind == "let":
            return None if name in self.kept else "none"
        if name in self.kept:
            return "exists"
        return "many" if len(self.kept) == 3 else None

    def together_word(self, deeds):
        trial, told = copy.deepcopy(self), {}
        for deed in deeds:
            word = trial.word(deed)
            if word is not None:
                return word
            for record in trial.group(deed, 1):
                told[record.key()] = True
            trial.do(deed)
        return "large" if len(told) > 6 else None

    def do(self, deed):
        word = self.word(deed)
        if word is None:
            self.change(deed)
        return word

    def change(self, deed):
        kind, path = deed[0], deed[1]
        if kind == "all":
            for part in path:
                self.change(part)
        elif kind in ("file", "dir"):
            made = PlainFile(self.next_id) if kind == "file" else PlainDirectory(self.next_id)
            self.parent(path).names[path[-1]] = made
            self.next_id += 1
        elif kind == "write":
            self.at(path).write(deed[2], deed[3])
        elif kind == "cut":
            self.at(path).cut(deed[2])
        elif kind == "link":
            self.parent(deed[2]).names[deed[2][-1]] = self.at(path)
        elif kind == "move":
            node = self.parent(path).names.pop(path[-1])
            self.parent(deed[2]).names[deed[2][-1]] = node
        elif kind == "drop":
            del self.parent(path).names[path[-1]]
        elif kind == "keep":
            self.kept[path] = copy.deepcopy(self)
            self.kept[path].kept = {}
        else:
            del self.kept[path]

    def group(self, deed, number):
        """Return the group of a deed that is not refused."""
        told = self.contents(deed)
        return [numbered(content, number, at, len(told)) for at, content in enumerate(told)]

    def contents(self, deed):
        """Return, for each record of the group of a deed, its class and what it tells."""
        kind, path, behind = deed[0], deed[1], copy.deepcopy(self)
        if kind == "all":
            told = []
            for part in path:
                told += behind.contents(part)
                behind.change(part)
            return [one for k, one in enumerate(told) if key(one) not in [key(later) for later in told[k + 1:]]]
        behind.change(deed)
        if kind in ("keep", "let"):
            return [(Keep, path, kind == "keep")]
        if kind in ("file", "dir"):
            return [node_of(behind.at(path)), behind.name_at(path)]
        if kind == "link":
            return [behind.name_at(deed[2])]
        if kind in ("write", "cut"):
            number, chunks = self.at(path).number, behind.at(path).chunks
            if kind == "write":
                due = sorted({place // 16 for place in range(deed[2], deed[2] + len(deed[3]))})
            else:
                due = [index for index in sorted(chunks) if chunks[index] != self.at(path).chunks[index]]
            return [(Chunk, number, index, tuple(chunks[index])) for index in due] + [node_of(behind.at(path))]
        told = [(Name, self.parent(path).number, path[-1], 0)]
        if kind == "move":
            told.append(behind.name_at(deed[2]))
        here, left = {node.number for _, node in self.ways()}, {node.number for _, node in behind.ways()}
        return told + [(Node, gone, 0, 0, 0) for gone in here - left]

    def name_at(self, path):
        return Name, self.parent(path).number, path[-1], self.at(path).number


def node_of(node):
    if isinstance(node, PlainDirectory):
        return Node, node.number, 2, 0, 0
    return Node, node.number, 1, node.size, sum(2 ** index for index in node.chunks)


def numbered(content, number, at, of):
    return content[0](number, at, of, *content[1:])


def key(content):
    return numbered(content, 1, 0, 1).key()


def some_path(source, tree=None):
    """Return a path, often one that leads to a node of a tree, or just below one."""
    shown = [] if tree is None else [way[0] for way in tree.picture()]
    if shown and source.random() < 0.7:
        path = source.choice(shown)
        return path + (source.choice("abcd"),) if source.random() < 0.3 and len(path) < 4 else path
    count = source.choice([0, 1, 1, 1, 1, 2, 2, 3])
    return tuple(source.choice("abcd") for _ in range(count))


def some_deed(source, tree=None, words=WORDS):
    """Return a deed of one of these words, often one that a tree does."""
    word = source.choice(words)
    path, new = some_path(source, tree), some_path(source, tree)
    if word in ("keep", "let"):
        return word, source.choice(["a", "b", "old", "new", "last"])
    if word == "all":
        inner = [other for other in words if other not in ("keep", "let", "all")]
        return word, tuple(some_deed(source, tree, inner) for _ in range(source.choice([2, 2, 2, 3, 4])))
    if word == "write":
        count = source.choice([1, 2, 15, 16, 17, 33, 48])
        at = source.choice([0, 1, 15, 16, 17, 47, 48, 80, 95, 96, source.randrange(97)])
        octets = [source.choice([0, 7, source.randrange(256)]) for _ in range(count)]
        return word, path, at, tuple(octets) if source.random() < 0.5 else octets
    if word == "cut":
        return word, path, source.choice([0, 1, 15, 16, 17, 48, 80, 96, source.randrange(97)])
    if word in ("link", "move"):
        return word, path, new
    return word, path

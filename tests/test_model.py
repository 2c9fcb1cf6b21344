"""Points 61 to 70, 81, 82 and 85: trees and their groups, compared with a second tree that is told anew."""

from onewaybits.groups import group, keys, living, tree_of
from onewaybits.tree import Tree, is_deed
from tests.helper import PointTest, dice
from tests.model import WORDS, PlainTree, some_deed, some_path

NOT_KEPT = [word for word in WORDS if word not in ("keep", "let")]


class ModelTest(PointTest):

    def test_random_deeds(self):
        words = {}
        for seed in range(300):
            source = dice(seed)
            tree, plain, told = Tree(), PlainTree(), []
            for number in range(1, 61):
                deed = some_deed(source, tree)
                self.assertTrue(is_deed(deed))
                expected = plain.group(deed, number) if plain.word(deed) is None else []
                records = group(tree, deed, number)
                self.assertEqual(records, expected)
                word = tree.do(deed)
                self.assertEqual(word, plain.do(deed), deed)
                self.assertEqual(records == [], word is not None)
                words[(deed[0], word)] = words.get((deed[0], word), 0) + 1
                told += records
            self.check_alike(tree, plain, source)
            self.check_alike(tree_of(told, tree.next_id), plain, source)
        self.check_that_all_words_came(words)

    def check_alike(self, tree, plain, source):
        self.assertEqual(tree.picture(), plain.picture())
        self.assertEqual(tree.next_id, plain.next_id)
        self.assertEqual(keys(tree), plain.keys())
        self.assertEqual(living(tree), plain.living())
        self.assertEqual(tree.kept_names(), sorted(plain.kept))
        for name, kept in plain.kept.items():
            self.assertEqual(tree.kept(name).picture(), kept.picture())
            self.assertEqual(keys(tree.kept(name)), kept.keys())
        self.assertEqual(tree.whole(), (plain.picture(),
                                        tuple(sorted((name, kept.picture()) for name, kept in plain.kept.items()))))
        for _ in range(20):
            path = some_path(source)
            shown = dict((way[0], way) for way in plain.picture())
            if path:
                _, kind, octets, _, _ = shown.get(path, (None,) * 5)
                self.assertEqual(tree.kind_of(path), kind)
                self.assertEqual(tree.read(path), octets)
                self.assertEqual(tree.size_of(path), None if octets is None else len(octets))
            below = None if plain.at(path) is None else getattr(plain.at(path), "names", None)
            self.assertEqual(tree.listing(path), None if below is None else sorted(below))

    def check_that_all_words_came(self, words):
        due = {
            "file": ["path", "exists"], "dir": ["path", "exists"], "write": ["path", "none", "kind", "long"],
            "cut": ["path", "none", "kind"], "link": ["path", "none", "kind", "exists"],
            "move": ["path", "none", "ring", "exists", "kind", "filled"], "drop": ["path", "none", "filled"],
            "keep": ["exists", "many"], "let": ["none"],
            "all": ["path", "none", "kind", "long", "exists", "filled"],
        }
        for kind, found in due.items():
            for word in found + [None]:
                self.assertIn((kind, word), words)

    def test_random_deeds_together(self):
        for seed in range(150):
            source = dice(1000 + seed)
            tree, plain, told = Tree(), PlainTree(), []
            for number in range(1, 51):
                deed = some_deed(source, tree, NOT_KEPT + ["all"] * 6)
                records = group(tree, deed, number)
                self.assertEqual(tree.do(deed), plain.do(deed))
                told += records
            self.check_alike(tree, plain, source)
            self.check_alike(tree_of(told, tree.next_id), plain, source)

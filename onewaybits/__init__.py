"""Onewaybits: files on chips whose bits only fall."""

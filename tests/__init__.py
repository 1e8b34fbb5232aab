"""The tests of the package; each file speaks of some points of the document."""

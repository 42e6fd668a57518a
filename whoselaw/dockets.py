"""Dockets: questions that are kept by names, each with the answer and the tree that it had."""

from whoselaw.errors import NotTold, Twice
from whoselaw.treepaper import tree_holds
from whoselaw.trees import answer_of


class Docket:
    """What was asked of a realm's lands and a folk's book."""

    def __init__(self, realm, folk):
        self.realm = realm
        self.folk = folk
        # By each name (court, question, answer, tree).
        self.kept = {}

    def ask(self, name, court, question):
        if self.keeps(name):
            raise Twice()
        return self.keep(name, court, question)

    def again(self, name):
        court, question, answer, tree = self.kept_by(name)
        return self.keep(name, court, question)

    def still(self, name):
        court, question, answer, tree = self.kept_by(name)
        return tree_holds(self.realm.lands(), self.folk.book(), court, question, answer, tree)

    def tree(self, name):
        return self.kept_by(name)[2:]

    def drop(self, name):
        if not self.keeps(name):
            raise NotTold()
        del self.kept[name]

    def names(self):
        return tuple(sorted(self.kept))

    def turned_since(self):
        return tuple([name for name in sorted(self.kept) if not self.still(name)])

    def keeps(self, name):
        """Whether the name, whatever it is, is kept."""
        # Only texts are looked up: a list or a dict can't be.
        return isinstance(name, str) and name in self.kept

    def kept_by(self, name):
        if not self.keeps(name):
            raise NotTold()
        return self.kept[name]

    def keep(self, name, court, question):
        """Keeps the question by the name, with its answer and tree of now, and tells the answer."""
        answer, tree = answer_of(self.realm.lands(), self.folk.book(), court, question)
        self.kept[name] = (court, question, answer, tree)
        return answer

"""The search for plain questions, and for rings."""

from conceptworlds.books import book_words
from conceptworlds.concepts import collect_words, told_words
from conceptworlds.generalizing import Generalizing
from conceptworlds.kindtables import KindTable
from conceptworlds.marks import MarkTable
from conceptworlds.relevance import Relevance
from conceptworlds.ringsearch import RingSearch
from conceptworlds.supports import Supports


class QuestionSearch:
    """The search for the questions of a book and a target, or for a ring.

    known_words are those of the book and of the target, table has the kinds with the target as the asked concept.
    When a search has ended, ring has what a Ring has, or it is None, and there are the questions and the concepts
    of an Exact.
    """

    def __init__(self, book, target):
        self._target = target
        known = book_words(book)
        names, roles = {name: True for name in known[0]}, {role: True for role in known[1]}
        collect_words(target, names, roles)
        self.known_words = told_words(names, roles)
        self.table = KindTable(book, [target])
        self._general = Generalizing(self.table, target)
        self._found = []
        self.ring = None
        self.concepts = None

    def run(self):
        """Finds a ring, or the questions.

        A quick search for a ring goes first: asking alone would find one, too, but often after many questions.
        Then it asks in those words that can matter for the target, and at last in all words.
        """
        needed = Relevance(self.table, self._target, self.known_words).needed_words
        supports = Supports(self.table, self._target, needed)
        self.ring = RingSearch(self.table, self._target, needed[1], supports).find()
        while self.ring is None and self.concepts is None:
            self._ask(needed)
        if self.ring is None and needed != self.known_words:
            self.concepts = None
            while self.concepts is None:
                self._ask(self.known_words)

    def list_questions(self):
        """The ascending list of the questions."""
        forms = self._general.forms
        order = sorted([(forms.texts[number], number) for number in self._found])
        return [forms.concepts[number] for _, number in order]

    def _ask(self, words):
        """Finds concepts in told words with all marks, if each of these is answered.

        Otherwise there are questions then for those of least size that are not answered. A concept that is
        plainly within a question lies within the target, so only the other ones can be wrong.
        """
        marks = MarkTable(self.table, self._target, [self._general.forms.concepts[number] for number in self._found])
        search = marks.all_marks(words)
        size, mark = None, search.advance()
        while self.ring is None and mark is not None and (size is None or search.cost(mark) == size):
            if not marks.is_answered(mark):
                size = search.cost(mark)
                self._put_question(search.chosen(mark))
            mark = search.advance()
        if size is None:
            self.concepts = [search.chosen(one) for one in search.pieces]

    def _put_question(self, concept):
        """Puts a question that a concept lies plainly within, if there is none yet; or finds a ring in it."""
        forms = self._general.forms
        form = forms.of(concept)
        if not [other for other in self._found if forms.is_within(form, other)]:
            question = self._general.greatest(form)
            self._found.append(question)
            self.ring = self._general.find_ring(question)

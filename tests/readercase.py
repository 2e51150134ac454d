"""What the tests of readers of both sorts need."""

from tests.filemaking import MARK, wanted
from tests.samples import Case
from tornpictures.coarse import coarse
from tornpictures.errors import NoBytes, NotYet, PictureError, Stopped
from tornpictures.passes import parted

NO_BYTES = (
    None, True, False, 0, 1, "", "00", "TP", (), (84,), {}, {0: 84}, [256], [-1], [True], [False], [None], ["a"], [[84]],
    [84, 80, 300], b"TP", b"",
)


class ReaderCase(Case):
    """What the tests of readers of both sorts need."""

    def asked(self, reader):
        """All that a reader tells when it is asked."""
        told = {
            "state": reader.state(), "fed": reader.fed(), "place": reader.place(), "passed": reader.passed(),
            "lost": reader.lost(), "shape": reader.shape(), "whole": reader.whole(), "len": len(reader),
        }
        for name, deed in (("picture", reader.picture), ("coarse", reader.coarse)):
            try:
                told[name] = deed()
            except NotYet:
                told[name] = "not yet"
        return told

    def agrees(self, reader, bytes_of, strict, ended=False, shown=None):
        """That a reader that was fed these bytes tells just what the document requires."""
        right = wanted(bytes_of, strict=strict, ended=ended)
        told = self.asked(reader)
        for name in ("state", "place", "passed", "lost", "shape", "whole"):
            self.same(told[name], right[name], name)
        self.same(told["fed"], len(bytes_of))
        self.same(told["len"], len(right["lines"]))
        self.assertEqual(told["coarse"] == "not yet", right["whole"] == 0)
        self.assertEqual(told["picture"] == "not yet", right["state"] != "done" or right["lost"] != [])
        if shown is not None and right["whole"] > 0:
            kind, width, height, levels = right["shape"]
            self.same(told["coarse"], coarse(kind, width, height, levels, parted(shown, levels)[:right["whole"]]))
        if shown is not None and told["picture"] != "not yet":
            self.same(told["picture"], shown)
        return right

    def refused(self, error, reader, deed, *given, at=None):
        """That the reader refuses the deed, and that nothing but what is told is changed by it."""
        before = self.asked(reader)
        with self.assertRaises(error) as caught:
            deed(*given)
        self.assertEqual(caught.exception.__class__, error)
        if at is None:
            self.same(self.asked(reader), before)
        else:
            self.same(caught.exception.at, at)
        self.assertIsInstance(caught.exception, PictureError)

    def stopped(self, reader):
        """That the reader takes nothing more."""
        for piece in ([], [0], MARK):
            self.refused(Stopped, reader, reader.feed, piece)
        self.refused(Stopped, reader, reader.end)
        for thing in NO_BYTES:
            self.refused(NoBytes, reader, reader.feed, thing)

"""Fitting points one after another."""

from fewestlines.strips import Strip, exceeds


class Fitter:
    """Takes points with ascending places as long as they fit for the error."""

    def __init__(self, error):
        self.error = error
        self.count = 0
        self._strip = Strip()

    def add(self, point):
        """Take the point if the points taken so far fit together with it; answer whether they do."""
        place, height = point
        vertex = (place, height, self.count)
        step = self._strip.step_with(vertex)
        if exceeds(step[0], self.error):
            return False
        self._strip.take(vertex, step)
        self.count += 1
        return True

    def line(self):
        """A line that fits the points taken so far (point 2.4)."""
        return self._strip.line()

"""The prices of plans: the least rooms of the first values."""


class Starts:
    """The starts of last pieces of one width, with their costs, as far as they may be the cheapest."""

    def __init__(self, row):
        self._row = row
        # Tuples (cost, start) with ascending costs and starts; the first ones are passed.
        self._waiting = []
        self._passed = 0

    def put(self, start, cost):
        """Put a start behind all others; earlier ones that are not cheaper reach no further."""
        while len(self._waiting) > self._passed and self._waiting[-1][0] >= cost:
            self._waiting.pop()
        self._waiting.append((cost, start))

    def cheapest(self, end):
        """The cost and the start of the cheapest piece up to the end; the ends that are asked ascend."""
        while self._row[self._waiting[self._passed][1]][0] < end:
            self._passed += 1
        return self._waiting[self._passed]


def least_prices(reaches, header, length):
    """The least rooms of so many first values, and the last piece (start, width) for each number from 1 on.

    The ends of the reaches of each width do not descend.
    """
    prices = [0]
    steps = []
    queues = [Starts(row) for row in reaches]
    for end in range(1, length + 1):
        best = None
        for digits, queue in enumerate(queues):
            # What a piece costs beside its end: the room before it, and its start taken away.
            queue.put(end - 1, prices[end - 1] - (end - 1) * digits)
            cost, start = queue.cheapest(end)
            price = cost + header + end * digits
            if best is None or price < best[0]:
                best = (price, start, digits)
        prices.append(best[0])
        steps.append((best[1], best[2]))
    return prices, steps


def prices_stand(prices, row, digits, header):
    """Whether no price is above that of a piece of the width before it (point 11.3, condition 4).

    Each reach in the row ends behind its index and not behind the last price.
    """
    costs = [price - at * digits for at, price in enumerate(prices)]
    # Places with a greater cost than all between the start and them, the nearest one last.
    peaks = []
    for start in reversed(range(len(row))):
        while peaks and costs[peaks[-1]] <= costs[start + 1]:
            peaks.pop()
        peaks.append(start + 1)
        if costs[greatest_peak(peaks, row[start][0])] > costs[start] + header:
            return False
    return True


def greatest_peak(peaks, end):
    """The first of the descending places that is not behind the end; there is one."""
    first, last = 0, len(peaks) - 1
    while first < last:
        middle = (first + last) // 2
        if peaks[middle] > end:
            first = middle + 1
        else:
            last = middle
    return peaks[first]

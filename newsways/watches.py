"""A watch: looks at the rows of a run one by one, and finds what is missing of hands by the rows alone."""

from newsways.wishes import wish_takes


class Watch:
    """Moments are numbered by how many rows lie ahead of them."""

    def __init__(self, web):
        self.moment = 0
        self.last_still = 0
        # How many more letters were put out than steps done.
        self.outstanding = 0
        # From which moment on each post is there, and each hand wants each of its wishes.
        self.there_since = {post: 0 for post in range(len(web) + 1)}
        self.wants_since = {}
        # How many pieces each post told.
        self.tellings = {}
        # The pieces told since the last still moment, by teller and number, each with the hands that were given it.
        self.awaited = {}
        # What is missing, as tuples (hand, teller, number).
        self.found = []

    def see(self, row):
        deed, letters, given = row
        self.moment += 1
        self.take_in(deed)
        self.outstanding += len(letters)
        for hand, teller, number, piece in given:
            if (teller, number) in self.awaited:
                takers = self.awaited[(teller, number)][1]
                takers[hand] = True
        if self.outstanding == 0:
            self.judge()

    def take_in(self, deed):
        word = deed[0]
        if word == "come":
            self.wants_since[deed[1]] = {}
        elif word == "go":
            del self.wants_since[deed[1]]
        elif word == "want":
            self.wants_since[deed[1]][deed[2]] = self.moment
        elif word == "unwant":
            del self.wants_since[deed[1]][deed[2]]
        elif word == "tell":
            number = self.tellings.get(deed[1], 0)
            self.tellings[deed[1]] = number + 1
            self.awaited[(deed[1], number)] = (deed[2], {})
        elif word == "grow":
            self.there_since[len(self.there_since)] = self.moment
        elif word == "step":
            self.outstanding -= 1

    def judge(self):
        """This moment is still: each piece told since the last still one is due by now."""
        # Of all still moments ahead of a telling the last one counts: what was wanted at an earlier one, and has been
        # ever since, was wanted then, too.
        for (teller, number), (piece, takers) in self.awaited.items():
            if self.there_since[teller] <= self.last_still:
                due = [hand for hand in sorted(self.wants_since) if self.has_wanted(hand, piece)]
                self.found.extend([(hand, teller, number) for hand in due if hand not in takers])
        self.awaited = {}
        self.last_still = self.moment

    def has_wanted(self, hand, piece):
        """Whether the hand has wanted the piece by one wish since the last still moment, or for longer."""
        wishes = self.wants_since[hand]
        return any([since <= self.last_still and wish_takes(wish, piece) for wish, since in wishes.items()])

"""A talk as its helpers see it and change it, entry by entry (point 9)."""

from oldsights.books import behind, meets


class Talk:
    """A talk from its beginning on. Who calls its methods has asked whether their arguments are right."""

    def __init__(self, book, checks):
        self.book = book
        self.checks = checks
        # One more than the happenings: the state ahead of each, and the state now.
        self.states = [0]
        self.happened = []
        # For each helper with a sight the number of the happenings ahead of its moment.
        self.moments = {}

    def twin(self):
        """A talk that is as this one is now; neither changes with the other."""
        other = Talk(self.book, self.checks)
        other.states = list(self.states)
        other.happened = list(self.happened)
        other.moments = dict(self.moments)
        return other

    def come(self, k):
        """Let a kind come; the state behind it, or None if it cannot come."""
        state = behind(self.book, self.states[-1], k)
        if state is not None:
            self.happened.append(k)
            self.states.append(state)
        return state

    def look(self, h, late):
        """Give the helper a sight as of so many happenings ago; its state."""
        moment = max(0, len(self.happened) - late)
        self.moments[h] = moment
        return self.states[moment]

    def sight(self, h):
        """The state of the helper's sight, or None without a sight."""
        moment = self.moments.get(h, None)
        return None if moment is None else self.states[moment]

    def since(self, h):
        """The kinds that have happened since the moment of the helper's sight, or None without a sight."""
        moment = self.moments.get(h, None)
        return None if moment is None else self.happened[moment:]

    def allows(self, h, d):
        """Whether the deed would be accepted of the helper now."""
        seen = self.sight(h)
        if seen is None or behind(self.book, seen, d) is None:
            return False
        return behind(self.book, self.states[-1], d) is not None and not meets(self.checks[d], self.since(h))

    def do(self, h, d):
        """Let the helper do the deed if it is accepted; whether it was."""
        if not self.allows(h, d):
            return False
        self.come(d)
        self.moments[h] = len(self.happened)
        return True

"""What the papers that answer yes or no have in common."""


class Verdict:
    """The base of the papers that answer yes or no; it is not made itself."""

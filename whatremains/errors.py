"""What is refused, and what each refusal tells."""


class RestError(ValueError):
    """Any refusal."""


class BadProgram(RestError):
    """This is no program: `at` is the number of a part, `why` a word."""

    def __init__(self, at, why):
        super().__init__(f"part {at} cannot be: {why}")
        self.at = at
        self.why = why


class BadFuel(RestError):
    """This is no fuel."""


class BadPapers(RestError):
    """These are no papers: `number` is that of the first wrong one."""

    def __init__(self, number):
        super().__init__(f"paper {number} cannot be")
        self.number = number


class BadText(RestError):
    """This is no written program: `place` is that of the first wrong word."""

    def __init__(self, place):
        super().__init__(f"word {place} cannot be")
        self.place = place

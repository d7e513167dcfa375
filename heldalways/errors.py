"""The errors of the package."""


class PlantError(ValueError):
    """What all errors of this package are."""


class InvalidWeb(PlantError):
    def __init__(self, at):
        self.at = at


class InvalidText(PlantError):
    def __init__(self, line, at):
        self.line = line
        self.at = at


class InvalidValues(PlantError):
    def __init__(self, at):
        self.at = at


class InvalidRun(PlantError):
    def __init__(self, at):
        self.at = at


class InvalidPaper(PlantError):
    def __init__(self, at):
        self.at = at


class InvalidNumber(PlantError):
    def __init__(self, word):
        self.word = word


class Refused(PlantError):
    def __init__(self, word):
        self.word = word


class Broken(PlantError):
    def __init__(self, word):
        self.word = word

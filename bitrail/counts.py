"""The count of a post's faults, by which it is quiet and at last off."""

GREAT_FAULT = 8
SMALL_FAULT = 1
QUIET_FROM = 12
OFF_FROM = 18


class Count:
    def __init__(self):
        self.total = 0

    def fault(self, spoke):
        self.move(GREAT_FAULT if spoke else SMALL_FAULT)

    def blame(self):
        self.move(GREAT_FAULT)

    def good(self):
        self.move(-1)

    def move(self, step):
        if not self.is_off():
            self.total = max(0, self.total + step)

    def number(self):
        return self.total

    def is_quiet(self):
        return self.total >= QUIET_FROM

    def is_off(self):
        return self.total >= OFF_FROM

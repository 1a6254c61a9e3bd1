import unittest

from tidewarden.clocks import clock, read_clock
from tidewarden.errors import BadText


class ClockTest(unittest.TestCase):
    def test_clock(self):
        told = {
            0: "0/00:00", 1: "0/00:15", 2: "0/00:30", 3: "0/00:45", 4: "0/01:00", 39: "0/09:45", 40: "0/10:00",
            95: "0/23:45", 96: "1/00:00", 97: "1/00:15", 99: "1/00:45", 100: "1/01:00", 191: "1/23:45",
            192: "2/00:00", 960: "10/00:00", 96 * 999999999 + 95: "999999999/23:45"}
        for tick, text in told.items():
            self.assertEqual(clock(tick), text)
            self.assertEqual(read_clock(text), tick)

    def test_every_tick_of_some_days(self):
        for tick in range(96 * 12):
            day, minute = divmod(tick * 15, 24 * 60)
            text = f"{day}/{minute // 60:>02}:{minute % 60:>02}"
            self.assertEqual(clock(tick), text)
            self.assertEqual(read_clock(text), tick)

    def test_no_clock_texts(self):
        for text in [
                "", "/", "0", "0/", "/00:00", "0/24:00", "0/25:00", "0/99:00", "0/00:01", "0/00:10", "0/00:60",
                "0/00:14", "0/00:16", "0/0:00", "0/00:0", "0/00:5", "0/000:00", "0/00:000", "0/00:150", "00/00:00",
                "01/00:00", "+0/00:00", "-0/00:00", "-1/00:00", "0/+1:00", "0/-1:00", "0/ 1:00", "0/00:+5",
                "0/00: 0", " 0/00:00", "0/00:00 ", "0 /00:00", "0/ 00:00", "0/00 :00", "0/00:00\n", "\n0/00:00",
                "0/0000", "0:00:00", "0/00/00", "0/00.00", "000:00", "0//00:00", "0/00::00", "1/2/00:00",
                "a/00:00", "0/aa:00", "0/00:aa", "1_0/00:00", "0/1_:00", "1.0/00:00", "1000000000/00:00",
                "0/00:15:00", "0/12", "0/12:"]:
            with self.assertRaises(BadText, msg=text):
                read_clock(text)

    def test_every_hour_and_minute(self):
        for hour in range(100):
            for minute in range(100):
                text = f"3/{hour:02d}:{minute:02d}"
                if hour < 24 and minute < 60 and minute % 15 == 0:
                    self.assertEqual(clock(read_clock(text)), text)
                else:
                    with self.assertRaises(BadText):
                        read_clock(text)


if __name__ == "__main__":
    unittest.main()

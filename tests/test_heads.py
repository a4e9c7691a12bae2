import unittest

from headroad import errors
from headroad.heads import address_of, begins, heads_of, number_of, span_of
from samples import all_heads, texts_of


class Numbers(unittest.TestCase):
    def test_number_of_named_texts(self):
        for text, number in [("", 0), ("0", 0), ("1", 1), ("011", 3), ("110", 6), ("10", 2), ("0000", 0)]:
            with self.subTest(text=text):
                self.assertEqual(number_of(text), number)

    def test_number_of_every_text_of_each_length(self):
        for size in range(17):
            for number, text in enumerate(texts_of(size)):
                if number_of(text) != number:
                    self.fail(f"{text!r} is {number}, not {number_of(text)}")

    def test_number_of_is_a_whole_number(self):
        for text in ["", "0", "1", "1" * 16]:
            self.assertIs(type(number_of(text)), int)

    def test_address_of_named_numbers(self):
        for number, size, address in [
            (0, 1, "0"), (1, 1, "1"), (3, 3, "011"), (3, 4, "0011"), (6, 3, "110"),
            (0, 16, "0" * 16), (65535, 16, "1" * 16), (32768, 16, "1" + "0" * 15), (1, 16, "0" * 15 + "1"),
        ]:
            with self.subTest(number=number, size=size):
                self.assertEqual(address_of(number, size), address)

    def test_each_number_is_written_and_read_back(self):
        for size in range(1, 17):
            for number, address in enumerate(texts_of(size)):
                written = address_of(number, size)
                if written != address or number_of(written) != number:
                    self.fail(f"{number} of size {size} is written {written!r}")

    def test_sizes_beyond_sixteen_are_not_refused(self):
        self.assertEqual(address_of(2 ** 20 - 2, 20), "1" * 19 + "0")
        self.assertEqual(number_of("1" * 20), 2 ** 20 - 1)
        self.assertEqual(span_of("1", 20), (2 ** 19, 2 ** 20 - 1))
        self.assertEqual(heads_of(0, 2 ** 20 - 1, 20), [""])


class Beginning(unittest.TestCase):
    def test_begins(self):
        for head, address, answer in [
            ("", "0", True), ("", "1" * 16, True), ("011", "011", True), ("01", "0110", True),
            ("010", "011", False), ("0" * 15 + "1", "0" * 16, False), ("1", "0111", False), ("11", "0110", False),
            ("0110", "011", False), ("00", "0", False), ("1" * 16, "1" * 16, True), ("0", "", False), ("", "", True),
        ]:
            with self.subTest(head=head, address=address):
                self.assertIs(begins(head, address), answer)

    def test_begins_where_the_first_signs_are_the_heads(self):
        for head in all_heads(5):
            for address in texts_of(4):
                signs = list(zip(head, address))
                expected = len(head) <= 4 and all(one == other for one, other in signs)
                self.assertIs(begins(head, address), expected)


class SpanOfHead(unittest.TestCase):
    def test_named_spans(self):
        for head, size, span in [
            ("", 1, (0, 1)), ("0", 1, (0, 0)), ("1", 1, (1, 1)), ("", 16, (0, 65535)), ("1", 16, (32768, 65535)),
            ("01", 4, (4, 7)), ("0110", 4, (6, 6)), ("1" * 16, 16, (65535, 65535)), ("0" * 16, 16, (0, 0)),
            ("1" * 15, 16, (65534, 65535)),
        ]:
            with self.subTest(head=head, size=size):
                told = span_of(head, size)
                self.assertEqual(told, span)
                self.assertIs(type(told), tuple)

    def test_a_span_holds_just_the_addresses_that_the_head_begins(self):
        for size in range(1, 7):
            for head in all_heads(size):
                begun = [number for number, address in enumerate(texts_of(size)) if address[:len(head)] == head]
                self.assertEqual(span_of(head, size), (begun[0], begun[-1]))


def fewest_counts(low, size):
    """For each high, with how few heads the numbers from low to high can be covered."""
    last = 2 ** size - 1
    fewest = {low - 1: 0}
    for high in range(low, last + 1):
        counts = []
        for length in range(size + 1):
            wide = 2 ** (size - length)
            start = high - wide + 1
            if start >= low and start % wide == 0:
                counts.append(fewest[start - 1] + 1)
        fewest[high] = min(counts)
    return fewest


class HeadsOfSpan(unittest.TestCase):
    def test_named_spans(self):
        for low, high, size, heads in [
            (0, 1, 1, [""]), (0, 0, 1, ["0"]), (1, 1, 1, ["1"]), (0, 15, 4, [""]), (0, 65535, 16, [""]),
            (6, 6, 4, ["0110"]), (0, 0, 16, ["0" * 16]), (65535, 65535, 16, ["1" * 16]),
            (3, 8, 4, ["0011", "01", "1000"]), (1, 15, 4, ["0001", "001", "01", "1"]),
            (0, 14, 4, ["0", "10", "110", "1110"]), (4, 11, 4, ["01", "10"]), (1, 2, 2, ["01", "10"]),
            (8, 15, 4, ["1"]), (4, 7, 4, ["01"]), (5, 7, 3, ["101", "11"]),
        ]:
            with self.subTest(low=low, high=high, size=size):
                told = heads_of(low, high, size)
                self.assertEqual(told, heads)
                self.assertIs(type(told), list)
                self.assertEqual([type(head) for head in told], [str] * len(heads))

    def check_span(self, low, high, size, fewest):
        heads = heads_of(low, high, size)
        begun = []
        for head in heads:
            wide = 2 ** (size - len(head))
            first = int(head + "0" * (size - len(head)) or "0", 2)
            begun.extend(range(first, first + wide))
        self.assertEqual(begun, list(range(low, high + 1)))
        self.assertEqual(len(heads), fewest)

    def test_every_span_of_small_sizes(self):
        for size in range(1, 7):
            for low in range(2 ** size):
                fewest = fewest_counts(low, size)
                for high in range(low, 2 ** size):
                    self.check_span(low, high, size, fewest[high])

    def test_spans_of_the_greatest_size(self):
        for low in [0, 1, 255, 256, 32767, 32768, 65534]:
            fewest = fewest_counts(low, 16)
            for high in [low, low + 1, 32768, 40000, 65534, 65535]:
                if high >= low:
                    self.check_span(low, high, 16, fewest[high])

    def test_longest_answer(self):
        heads = heads_of(1, 65534, 16)
        rising = ["0" * zeros + "1" for zeros in range(15, 0, -1)]
        falling = ["1" * ones + "0" for ones in range(1, 16)]
        self.assertEqual(heads, rising + falling)

    def test_bad_spans(self):
        great = 10 ** 6000
        for low, high, size in [
            (-1, 3, 4), (-1, -1, 4), (-3, -5, 4), (-5, -3, 4), (-1, 16, 4), (0, 16, 4), (16, 16, 4), (16, 20, 4),
            (15, 16, 4), (4, 3, 4), (15, 0, 4), (0, -1, 4), (0, 2, 1), (-1, 1, 1), (1, 0, 1), (0, 65536, 16),
            (65535, 65536, 16), (-1, 65535, 16), (65535, 65534, 16),
            (-great, 3, 4), (0, great, 4), (great, great, 4), (-great, great, 4), (great, -great, 4),
            (great, 3, 4), (0, -great, 4), (-great, -great, 4), (great, great + 1, 16),
        ]:
            with self.subTest(low_bits=low.bit_length(), high_bits=high.bit_length(), size=size):
                with self.assertRaises(errors.BadSpan):
                    heads_of(low, high, size)

    def test_bad_span_is_that_refusal_alone(self):
        with self.assertRaises(ValueError) as taken:
            heads_of(2, 1, 4)
        refusal = taken.exception
        self.assertIs(type(refusal), errors.BadSpan)
        self.assertIsInstance(refusal, errors.RoadError)
        for other in [errors.BadHead, errors.BadAddress, errors.BadLine, errors.FullBoard, errors.NoHead]:
            self.assertNotIsInstance(refusal, other)


if __name__ == "__main__":
    unittest.main()

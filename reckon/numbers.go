package reckon

// Each of these tells what should come out, and whether that has room in 64 bits. Numbers wrap round
// where it has not, so what came out is held against what it was made of.

func sum(a, b int64) (int64, bool) {
	n := a + b
	return n, (n < a) == (b < 0)
}

func difference(a, b int64) (int64, bool) {
	n := a - b
	return n, (n < a) == (b > 0)
}

func product(a, b int64) (int64, bool) {
	switch b {
	case 0:
		return 0, true
	case -1: // dividing back by -1 would not show that the least number has wrapped round
		return difference(0, a)
	}
	n := a * b
	return n, n/b == a
}

// rescaled is a number brought from one scale to another.
func rescaled(n int64, from, to int) (int64, bool) {
	fits := true
	for ; from < to && fits; from++ {
		n, fits = product(n, 10)
	}
	for ; from > to; from-- {
		n /= 10
	}
	return n, fits
}

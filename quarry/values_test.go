package quarry_test

import (
	"math"
	"math/big"
	"slices"
	"strings"
	"testing"

	"quarry/api"
	"quarry/quarry"
)

// one is a table of one row: an Int, a Dec of the scale 3, a Str, and a null of each.
func one() []api.Table {
	return tables(table(wholes(5), decimals(3, -1500), words("m"), wholes(nil), decimals(3, nil), words(nil)))
}

// expectValue holds the value of an expression at the one row against a column of it; without one, the row errs.
func expectValue(t *testing.T, what string, terms []api.Term, want ...api.Column) {
	t.Helper()
	nodes := plan(scan(0), project(0, expr(col(0)), terms))
	got, errno, fault := quarry.Run(one(), nodes, 2, 1)
	if len(want) == 0 {
		if errno != api.ErrOverflow || fault.Node != 1 || !slices.Equal(fault.Rows, ints(0)) || len(got.Cols) != 0 {
			t.Errorf("%s: %+v = %+v, %d, %+v, want ErrOverflow", what, terms, got, errno, fault)
		}
	} else if errno != api.OK || !noFault(fault) || !same(got, table(wholes(5), want[0])) {
		t.Errorf("%s: %+v = %+v, %d, %+v, want %+v", what, terms, got, errno, fault, want[0])
	}
}

// verdict is what a Bool may be.
type verdict int

const (
	isFalse verdict = iota
	isTrue
	isNull
)

// bools are expressions of each of them.
func bools() [3][]api.Term {
	return [3][]api.Term{isFalse: expr(num(1), num(2), op(api.Eq)), isTrue: yes(), isNull: expr(col(3), num(1), op(api.Eq))}
}

// expectVerdict asks whether an expression is true, is not, and is null: just one of them holds.
func expectVerdict(t *testing.T, what string, terms []api.Term, want verdict) {
	t.Helper()
	asked := [3][]api.Term{isFalse: {op(api.Not)}, isTrue: {}, isNull: {op(api.IsNull)}}
	for v, behind := range asked {
		got, errno, _ := quarry.Run(one(), plan(scan(0), filter(0, slices.Concat(terms, behind)...)), 1, 1)
		if kept := errno == api.OK && len(got.Cols) == 6 && len(got.Cols[0].Nulls) == 1; kept != (verdict(v) == want) {
			t.Errorf("%s: %+v: asked for %d it is %v, want %d", what, terms, v, kept, want)
		}
	}
}

func verdictOf(is bool) verdict {
	if is {
		return isTrue
	}
	return isFalse
}

// far are numbers about the bounds of 64 bits, of 32 bits, of their root, of powers of ten, and of 0.
func far() []int64 {
	list := []int64{math.MinInt64, math.MinInt64 + 1, math.MaxInt64, math.MaxInt64 - 1, math.MinInt64 / 2, math.MaxInt64 / 2, math.MaxInt64/2 + 1, 3037000499, 3037000500, -3037000499, -3037000500, 1 << 32, 1 << 31, -1 << 31, -1 << 32}
	for power := int64(1); power <= 1000000; power *= 10 {
		list = append(list, power, -power, power-1, 1-power, math.MaxInt64/power, math.MinInt64/power, math.MaxInt64/power+1, math.MinInt64/power-1)
	}
	slices.Sort(list)
	return slices.Compact(list)
}

// outcome is a column of a number, or none, if it has not room in 64 bits.
func outcome(kind, scale int, n *big.Int) []api.Column {
	if !n.IsInt64() {
		return nil
	}
	return []api.Column{{Kind: kind, Scale: scale, Ints: []int64{n.Int64()}, Nulls: []bool{false}}}
}

func TestP5Arithmetic(t *testing.T) {
	for _, a := range far() {
		for _, b := range far() {
			left, right := big.NewInt(a), big.NewInt(b)
			expectValue(t, "P5: Add", expr(num(a), num(b), op(api.Add)), outcome(api.Int, 0, new(big.Int).Add(left, right))...)
			expectValue(t, "P5: Sub", expr(fix(a, 4), fix(b, 4), op(api.Sub)), outcome(api.Dec, 4, new(big.Int).Sub(left, right))...)
			expectValue(t, "P5: Mul", expr(fix(a, 2), fix(b, 3), op(api.Mul)), outcome(api.Dec, 5, new(big.Int).Mul(left, right))...)
		}
	}
}

func TestP5Rescale(t *testing.T) {
	ten := big.NewInt(10)
	for _, n := range append(far(), 15, -15, 19, -19, 99, -99, 150, -150) {
		for from := range api.MaxScale + 1 {
			for to := range api.MaxScale + 1 {
				factor := new(big.Int).Exp(ten, big.NewInt(int64(max(from-to, to-from))), nil)
				want := new(big.Int).Mul(big.NewInt(n), factor)
				if to < from {
					want.Quo(big.NewInt(n), factor)
				}
				expectValue(t, "P5: Rescale", expr(fix(n, from), rescale(to)), outcome(api.Dec, to, want)...)
				if from == 0 {
					expectValue(t, "P5: Rescale of an Int", expr(num(n), rescale(to)), outcome(api.Dec, to, want)...)
				}
			}
		}
	}
}

func TestP6Leaves(t *testing.T) {
	expectValue(t, "P6: Col", expr(col(0)), wholes(5))
	expectValue(t, "P6: Col", expr(col(1)), decimals(3, -1500))
	expectValue(t, "P6: Col", expr(col(2)), words("m"))
	expectValue(t, "P6: Col", expr(col(3)), wholes(nil))
	expectValue(t, "P6: Col", expr(col(4)), decimals(3, nil))
	expectValue(t, "P6: Col", expr(col(5)), words(nil))
	expectValue(t, "P6: Num", expr(num(math.MinInt64)), wholes(math.MinInt64))
	expectValue(t, "P6: Num", expr(num(math.MaxInt64)), wholes(math.MaxInt64))
	expectValue(t, "P6: Fix", expr(fix(math.MinInt64, 6)), decimals(6, math.MinInt64))
	expectValue(t, "P6: Fix", expr(fix(math.MaxInt64, 0)), decimals(0, math.MaxInt64))
	expectValue(t, "P6: Word", expr(word("")), words(""))
	expectValue(t, "P6: Word", expr(word("\xff\x00")), words("\xff\x00"))
}

func TestP6TypesOfNumbers(t *testing.T) {
	expectValue(t, "P6: two Int", expr(num(3), num(-4), op(api.Mul)), wholes(-12))
	expectValue(t, "P6: an Int and a Dec", expr(num(3), fix(-4, 2), op(api.Mul)), decimals(2, -12))
	expectValue(t, "P6: a Dec and an Int", expr(fix(-4, 2), num(3), op(api.Mul)), decimals(2, -12))
	expectValue(t, "P6: two Dec", expr(fix(-4, 2), fix(3, 4), op(api.Mul)), decimals(6, -12))
	expectValue(t, "P6: a product's scale", expr(fix(-41, 2), fix(3, 4), op(api.Mul), rescale(4)), decimals(4, -1))
	expectValue(t, "P6: a sum's scale", expr(col(1), fix(1, 3), op(api.Add), rescale(1)), decimals(1, -14))
	expectValue(t, "P6: a difference's scale", expr(col(1), fix(1, 3), op(api.Sub), rescale(1)), decimals(1, -15))
	expectValue(t, "P6: rescaled twice", expr(num(7), rescale(6), rescale(2)), decimals(2, 700))
	expectValue(t, "P6: down and up again", expr(fix(1999999, 6), rescale(0), rescale(6)), decimals(6, 1000000))
	expectValue(t, "P6: the left one and the right one", expr(num(3), num(10), op(api.Sub)), wholes(-7))
	expectValue(t, "P6: on the stack", expr(num(1), num(2), num(3), op(api.Mul), op(api.Sub)), wholes(-5))
}

func TestP6NumbersWithNulls(t *testing.T) {
	for _, kind := range ints(api.Add, api.Sub, api.Mul) {
		expectValue(t, "P6: a null, and Int", expr(col(3), num(math.MinInt64), op(kind)), wholes(nil))
		expectValue(t, "P6: Int, and a null", expr(num(math.MinInt64), col(3), op(kind)), wholes(nil))
		expectValue(t, "P6: two nulls", expr(col(3), col(3), op(kind)), wholes(nil))
	}
	expectValue(t, "P6: a null, and Dec", expr(col(4), fix(math.MaxInt64, 3), op(api.Add)), decimals(3, nil))
	expectValue(t, "P6: a null, and Dec", expr(fix(math.MaxInt64, 3), col(4), op(api.Mul)), decimals(6, nil))
	expectValue(t, "P6: a null, and Int", expr(num(math.MaxInt64), col(4), op(api.Mul)), decimals(3, nil))
	expectValue(t, "P6: a null rescaled", expr(col(4), rescale(6)), decimals(6, nil))
	expectValue(t, "P6: a null rescaled", expr(col(4), rescale(0)), decimals(0, nil))
	expectValue(t, "P6: a null Int rescaled", expr(col(3), rescale(2)), decimals(2, nil))
	expectValue(t, "P6: a null goes on", expr(col(3), num(1), op(api.Add), num(2), op(api.Mul)), wholes(nil))
}

// expectCompared holds Eq, Lt and Le of two against how they compare.
func expectCompared(t *testing.T, left, right api.Term, order int) {
	t.Helper()
	expectVerdict(t, "P6: Eq", expr(left, right, op(api.Eq)), verdictOf(order == 0))
	expectVerdict(t, "P6: Lt", expr(left, right, op(api.Lt)), verdictOf(order < 0))
	expectVerdict(t, "P6: Le", expr(left, right, op(api.Le)), verdictOf(order <= 0))
}

func TestP6Comparisons(t *testing.T) {
	some := []int64{math.MinInt64, math.MinInt64 + 1, -10, -1, 0, 1, 2, 10, math.MaxInt64 - 1, math.MaxInt64}
	for i, a := range some {
		for j, b := range some {
			expectCompared(t, num(a), num(b), i-j)
			expectCompared(t, fix(a, 2), fix(b, 2), i-j)
		}
	}
	rising := []string{"", "\x00", "\x00a", "10", "9", "A", "Z", "a", "a\x00", "a b", "aa", "aaaaaaaaaaaaaaaa", "ab", "b", "ba", "z", "~", "ä", "\xff", "\xff\x00"}
	for i, a := range rising {
		for j, b := range rising {
			expectCompared(t, word(a), word(b), i-j)
		}
	}
	expectCompared(t, col(0), num(5), 0)
	expectCompared(t, col(1), fix(-1499, 3), -1)
	expectCompared(t, word("n"), col(2), 1)
}

func TestP6ComparisonsWithNulls(t *testing.T) {
	of := [][2]api.Term{{num(5), col(3)}, {fix(-1500, 3), col(4)}, {word("m"), col(5)}, {num(0), col(3)}, {word(""), col(5)}}
	for _, kind := range ints(api.Eq, api.Lt, api.Le) {
		for _, pair := range of {
			expectVerdict(t, "P6: with a null on the right", expr(pair[0], pair[1], op(kind)), isNull)
			expectVerdict(t, "P6: with a null on the left", expr(pair[1], pair[0], op(kind)), isNull)
			expectVerdict(t, "P6: with two nulls", expr(pair[1], pair[1], op(kind)), isNull)
		}
	}
}

func TestP6Logic(t *testing.T) {
	all := bools()
	and := [3][3]verdict{isFalse: {isFalse, isFalse, isFalse}, isTrue: {isFalse, isTrue, isNull}, isNull: {isFalse, isNull, isNull}}
	or := [3][3]verdict{isFalse: {isFalse, isTrue, isNull}, isTrue: {isTrue, isTrue, isTrue}, isNull: {isNull, isTrue, isNull}}
	not := [3]verdict{isFalse: isTrue, isTrue: isFalse, isNull: isNull}
	for i, left := range all {
		expectVerdict(t, "P6: Not", slices.Concat(left, expr(op(api.Not))), not[i])
		expectVerdict(t, "P6: IsNull", slices.Concat(left, expr(op(api.IsNull))), verdictOf(verdict(i) == isNull))
		for j, right := range all {
			expectVerdict(t, "P6: And", slices.Concat(left, right, expr(op(api.And))), and[i][j])
			expectVerdict(t, "P6: Or", slices.Concat(left, right, expr(op(api.Or))), or[i][j])
		}
	}
}

func TestP6IsNull(t *testing.T) {
	for place := range 6 {
		expectVerdict(t, "P6: IsNull of a column", expr(col(place), op(api.IsNull)), verdictOf(place >= 3))
	}
	expectVerdict(t, "P6: IsNull of a Num", expr(num(0), op(api.IsNull)), isFalse)
	expectVerdict(t, "P6: IsNull of a Fix", expr(fix(0, 0), op(api.IsNull)), isFalse)
	expectVerdict(t, "P6: IsNull of a Word", expr(word(""), op(api.IsNull)), isFalse)
	expectVerdict(t, "P6: IsNull is not null itself", expr(col(3), op(api.IsNull), op(api.IsNull)), isFalse)
}

func TestP6NullsOfAllTypesAreKept(t *testing.T) {
	expectRows(t, "P6: the one row", one(), plan(scan(0)), wholes(5), decimals(3, -1500), words("m"), wholes(nil), decimals(3, nil), words(nil))
	expectRows(t, "P6: texts of all lengths", tables(table(words("", "a", strings.Repeat("\xff", 16), nil))), plan(scan(0)), words("", "a", strings.Repeat("\xff", 16), nil))
}

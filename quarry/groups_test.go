package quarry_test

import (
	"math"
	"math/big"
	"math/rand"
	"slices"
	"testing"

	"quarry/api"
	"quarry/quarry"
)

func agg(kind, place int) api.Agg { return api.Agg{Kind: kind, A: place} }

func rowsOf() api.Agg { return agg(api.Count, -1) }

func TestP6GroupExample(t *testing.T) {
	given := tables(sample())
	expectRows(t, "P6: a Group", given, plan(scan(0), group(0, ints(2), rowsOf(), agg(api.Count, 0), agg(api.Sum, 1), agg(api.Greatest, 0))),
		words("x", "y", "z"), wholes(2, 1, 1), wholes(1, 1, 1), decimals(2, 450, -25, nil), wholes(1, 2, 4))
	sums := plan(scan(0), group(0, nil, agg(api.Sum, 0)))
	expectRows(t, "P6: whatever comes between", tables(table(wholes(math.MaxInt64, 1, -1))), sums, wholes(math.MaxInt64))
	expectFault(t, "P5: without the -1", tables(table(wholes(math.MaxInt64, 1))), sums, api.ErrOverflow, 1, 0)
}

// mixed is a table of an Int, a Dec and a Str, each with nulls, and of the numbers of the rows.
func mixed() api.Table {
	return table(wholes(2, nil, 0, 2, nil, 0, 1), decimals(3, nil, 0, 5, nil, -5, 5, 0), words("", nil, "b", "", "a", nil, "b"), counting(7))
}

func TestP6GroupKeys(t *testing.T) {
	given := tables(mixed())
	of := func(keys []int, aggs ...api.Agg) []api.Node { return plan(scan(0), group(0, keys, aggs...)) }
	expectRows(t, "P6: by an Int", given, of(ints(0), rowsOf(), agg(api.Sum, 3)), wholes(2, nil, 0, 1), wholes(2, 2, 2, 1), wholes(3, 5, 7, 6))
	expectRows(t, "P6: by a Dec", given, of(ints(1), rowsOf(), agg(api.Sum, 3)), decimals(3, nil, 0, 5, -5), wholes(2, 2, 2, 1), wholes(3, 7, 7, 4))
	expectRows(t, "P6: by a Str", given, of(ints(2), rowsOf(), agg(api.Sum, 3)), words("", nil, "b", "a"), wholes(2, 2, 2, 1), wholes(3, 6, 8, 4))
	expectRows(t, "P6: by an Int and a Dec", given, of(ints(0, 1), agg(api.Sum, 3)), wholes(2, nil, 0, nil, 1), decimals(3, nil, 0, 5, -5, 0), wholes(3, 1, 7, 4, 6))
	expectRows(t, "P6: by a Str and an Int", given, of(ints(2, 0), agg(api.Sum, 3)), words("", nil, "b", "a", nil, "b"), wholes(2, nil, 0, nil, 0, 1), wholes(3, 1, 2, 4, 5, 6))
	expectRows(t, "P6: by all types", given, of(ints(2, 1, 0)), words("", nil, "b", "a", nil, "b"), decimals(3, nil, 0, 5, -5, 5, 0), wholes(2, nil, 0, nil, 0, 1))
	expectRows(t, "P6: by the same twice", given, of(ints(0, 0), rowsOf()), wholes(2, nil, 0, 1), wholes(2, nil, 0, 1), wholes(2, 2, 2, 1))
	expectRows(t, "P6: by each row", given, of(ints(3)), counting(7))
	expectRows(t, "P6: by keys alone", given, of(ints(2)), words("", nil, "b", "a"))
	expectRows(t, "P6: without keys", given, of(nil, rowsOf(), agg(api.Count, 0), agg(api.Count, 2)), wholes(7), wholes(5), wholes(5))
}

func TestP6GroupNullsAreTheSame(t *testing.T) {
	column := api.Column{Kind: api.Int, Ints: []int64{7, 0, 5, 0, 7}, Nulls: []bool{true, false, true, true, false}}
	letter := api.Column{Kind: api.Str, Strs: []string{"q", "", "r", "", "q"}, Nulls: []bool{true, false, true, true, false}}
	given := tables(table(column, letter))
	expectRows(t, "P6: nulls of an Int", given, plan(scan(0), group(0, ints(0), rowsOf())), wholes(nil, 0, 7), wholes(3, 1, 1))
	expectRows(t, "P6: nulls of a Str", given, plan(scan(0), group(0, ints(1), rowsOf())), words(nil, "", "q"), wholes(3, 1, 1))
	expectRows(t, "P6: nulls of both", given, plan(scan(0), group(0, ints(1, 0), rowsOf())), words(nil, "", "q"), wholes(nil, 0, 7), wholes(3, 1, 1))
	made := plan(scan(0), project(0, expr(col(0), num(1), op(api.Add)), expr(col(0), rescale(2))), group(1, ints(0, 1), rowsOf()))
	expectRows(t, "P6: nulls that were reckoned", given, made, wholes(nil, 1, 8), decimals(2, nil, 0, 700), wholes(3, 1, 1))
	apart := tables(table(wholes(nil, 1, nil, 1, nil), wholes(1, nil, nil, nil, 1)))
	expectRows(t, "P6: a null in either key", apart, plan(scan(0), group(0, ints(0, 1), rowsOf())), wholes(nil, 1, nil), wholes(1, nil, nil), wholes(2, 2, 1))
}

func TestP6GroupOrder(t *testing.T) {
	given := tables(table(wholes(3, 1, 2, 1, 3, 0, 2, 0), counting(8)))
	expectRows(t, "P6: by the first row of each", given, plan(scan(0), group(0, ints(0), agg(api.Least, 1), agg(api.Greatest, 1))), wholes(3, 1, 2, 0), wholes(0, 1, 2, 5), wholes(4, 3, 6, 7))
	rest := plan(scan(0), filter(0, num(1), col(1), op(api.Lt)), group(1, ints(0), agg(api.Least, 1)))
	expectRows(t, "P6: of what a Filter left", given, rest, wholes(2, 1, 3, 0), wholes(2, 3, 4, 5))
	expectPlaces(t, "P6: of all rows", placesOf(given, plan(scan(0), group(0, ints(0))), 0), ints(0), ints(1), ints(2), ints(5))
	expectPlaces(t, "P6: of what a Filter left", placesOf(given, rest, 0), ints(2), ints(3), ints(4), ints(5))
	expectPlaces(t, "P6: without keys", placesOf(given, plan(scan(0), filter(0, num(2), col(1), op(api.Lt)), group(1, nil, agg(api.Least, 1))), 0), ints(3))
	expectPlaces(t, "P6: of a Group of a Group", placesOf(given, plan(rest[0], rest[1], rest[2], group(2, nil, agg(api.Least, 0))), 0), ints(2))
	falls := falling()
	expectPlaces(t, "P6: the least place has not the least number", placesOf(falls, plan(scan(0), filter(0, col(0), num(3), op(api.Lt)), group(1, ints(0))), 0), ints(37), ints(38), ints(39))
}

func TestP6Aggregates(t *testing.T) {
	given := tables(table(words("p", "q", "p", "q", "p", "r"), wholes(3, nil, -4, nil, nil, 9), decimals(2, nil, 5, -7, nil, 7, 1), words("b", nil, "ab", nil, nil, "")))
	for _, c := range []struct {
		what string
		agg  api.Agg
		want api.Column
	}{
		{"Count of all rows", rowsOf(), wholes(3, 2, 1)},
		{"Count of the key", agg(api.Count, 0), wholes(3, 2, 1)},
		{"Count of an Int", agg(api.Count, 1), wholes(2, 0, 1)},
		{"Count of a Dec", agg(api.Count, 2), wholes(2, 1, 1)},
		{"Count of a Str", agg(api.Count, 3), wholes(2, 0, 1)},
		{"Sum of an Int", agg(api.Sum, 1), wholes(-1, nil, 9)},
		{"Sum of a Dec", agg(api.Sum, 2), decimals(2, 0, 5, 1)},
		{"Least of an Int", agg(api.Least, 1), wholes(-4, nil, 9)},
		{"Least of a Dec", agg(api.Least, 2), decimals(2, -7, 5, 1)},
		{"Least of a Str", agg(api.Least, 3), words("ab", nil, "")},
		{"Least of the key", agg(api.Least, 0), words("p", "q", "r")},
		{"Greatest of an Int", agg(api.Greatest, 1), wholes(3, nil, 9)},
		{"Greatest of a Dec", agg(api.Greatest, 2), decimals(2, 7, 5, 1)},
		{"Greatest of a Str", agg(api.Greatest, 3), words("b", nil, "")},
	} {
		expectRows(t, "P6: "+c.what, given, plan(scan(0), group(0, ints(0), c.agg)), words("p", "q", "r"), c.want)
		expectRows(t, "P6: behind another, "+c.what, given, plan(scan(0), group(0, ints(0), rowsOf(), c.agg)), words("p", "q", "r"), wholes(3, 2, 1), c.want)
	}
}

func TestP6AggregatesOfNullsAlone(t *testing.T) {
	numbers := api.Column{Kind: api.Int, Ints: []int64{7, -3}, Nulls: []bool{true, true}}
	given := tables(table(numbers, decimals(4, nil, nil), words(nil, nil)))
	expectRows(t, "P6: Count", given, plan(scan(0), group(0, nil, rowsOf(), agg(api.Count, 0), agg(api.Count, 1), agg(api.Count, 2))), wholes(2), wholes(0), wholes(0), wholes(0))
	expectRows(t, "P6: Sum", given, plan(scan(0), group(0, nil, agg(api.Sum, 0), agg(api.Sum, 1))), wholes(nil), decimals(4, nil))
	expectRows(t, "P6: Least", given, plan(scan(0), group(0, nil, agg(api.Least, 0), agg(api.Least, 1), agg(api.Least, 2))), wholes(nil), decimals(4, nil), words(nil))
	expectRows(t, "P6: Greatest", given, plan(scan(0), group(0, nil, agg(api.Greatest, 0), agg(api.Greatest, 1), agg(api.Greatest, 2))), wholes(nil), decimals(4, nil), words(nil))
	expectRows(t, "P6: and the key", given, plan(scan(0), group(0, ints(0), agg(api.Sum, 0), agg(api.Least, 2), rowsOf())), wholes(nil), wholes(nil), words(nil), wholes(2))
}

func TestP6LeastAndGreatest(t *testing.T) {
	of := func(column api.Column) ([]api.Table, []api.Node) {
		return tables(table(column)), plan(scan(0), group(0, nil, agg(api.Least, 0), agg(api.Greatest, 0)))
	}
	expect := func(what string, column, least, greatest api.Column) {
		t.Helper()
		for range len(column.Nulls) { // with each entry as the first one, so that none is told by where it stands
			column.Ints, column.Strs, column.Nulls = turned(column.Ints), turned(column.Strs), turned(column.Nulls)
			given, nodes := of(column)
			expectRows(t, what, given, nodes, least, greatest)
		}
	}
	expect("P6: bounds", wholes(0, math.MinInt64, -1, math.MaxInt64, nil, 1), wholes(math.MinInt64), wholes(math.MaxInt64))
	expect("P6: below 0", wholes(-3, nil, -2, -10), wholes(-10), wholes(-2))
	expect("P6: above 0", wholes(3, 20, nil, 100), wholes(3), wholes(100))
	expect("P6: of a Dec", decimals(6, -1, 1, 0, nil), decimals(6, -1), decimals(6, 1))
	expect("P6: texts", words("b", "a", "ab", nil, "B"), words("B"), words("b"))
	expect("P6: bytes", words("\xff", "z", "é", "~"), words("z"), words("\xff"))
	expect("P6: a text that another begins with", words("aa", nil, "aaa", "a", letters(16)), words("a"), words(letters(16)))
	expect("P6: a text without bytes", words("", nil, "\x00"), words(""), words("\x00"))
	expect("P6: texts of digits", words("10", "9", "-1"), words("-1"), words("9"))
	expect("P6: one and the same", wholes(4, 4, 4), wholes(4), wholes(4))
}

// turned is a list with its first entry put behind the others.
func turned[T any](list []T) []T {
	if len(list) == 0 {
		return nil
	}
	return slices.Concat(list[1:], list[:1])
}

func TestP6GroupWithoutRows(t *testing.T) {
	given := tables(table(wholes(), words(), decimals(2)), table(wholes(1, 2), words("a", "b"), decimals(2, 3, 4)))
	none := filter(0, num(1), num(2), op(api.Eq))
	for _, below := range [][]api.Node{plan(scan(0)), plan(scan(1), none), plan(scan(1), scan(0), join(0, 1, ints(0), ints(0)))} {
		last := len(below) - 1
		with := func(n api.Node) []api.Node { return append(slices.Clip(below), n) }
		expectRows(t, "P6: by a key", given, with(group(last, ints(1), rowsOf(), agg(api.Sum, 2))), words(), wholes(), decimals(2))
		expectRows(t, "P6: without keys", given, with(group(last, nil, rowsOf(), agg(api.Sum, 0), agg(api.Least, 1))), wholes(), wholes(), words())
		expectRows(t, "P6: by a key alone", given, with(group(last, ints(0))), wholes())
		expectRows(t, "P6: a Group of no groups", given, append(with(group(last, nil, rowsOf())), group(last+1, nil, rowsOf(), agg(api.Sum, 0))), wholes(), wholes())
	}
}

func TestP6GroupBounds(t *testing.T) {
	wide, long := full()
	given := tables(wide)
	var once, times []any
	for i, entry := range long {
		if i != slices.Index(long, entry) { // only nulls are there more than once
			times[3] = times[3].(int) + 1
			continue
		}
		once, times = append(once, entry), append(times, 1)
	}
	counts := wholes(times...)
	same := func(n int) []api.Column { return slices.Repeat([]api.Column{wholes(once...)}, n) }
	expectRows(t, "P6: MaxKeys", given, plan(scan(0), group(0, ints(7, 6, 5, 4))), same(4)...)
	expectRows(t, "P6: MaxKeys and MaxCols", given, plan(scan(0), group(0, ints(0, 1, 2, 3), agg(api.Least, 4), agg(api.Greatest, 5), agg(api.Sum, 6), rowsOf())), append(same(7), counts)...)
	expectRows(t, "P6: MaxAggs and MaxCols", given, plan(scan(0), group(0, ints(0, 1), slices.Repeat([]api.Agg{agg(api.Least, 7)}, api.MaxAggs)...)), same(8)...)
	expectRows(t, "P6: MaxRows in one group", given, plan(scan(0), group(0, nil, rowsOf(), agg(api.Count, 0))), wholes(api.MaxRows), wholes(api.MaxRows-6))
	most := plan(scan(0), project(0, expr(num(1)), expr(col(0))), scan(1), project(2, expr(num(1)), expr(col(0))), join(1, 3, ints(0), ints(0)), group(4, ints(1), rowsOf(), agg(api.Sum, 3)))
	expectRows(t, "P6: MaxOut rows", tables(table(counting(20)), table(counting(15))), most, counting(20), wholes(slices.Repeat([]any{15}, 20)...), wholes(slices.Repeat([]any{105}, 20)...))
	each := plan(most[0], most[1], most[2], most[3], most[4], group(4, ints(3, 1), rowsOf()), group(5, nil, rowsOf(), agg(api.Sum, 2)))
	expectRows(t, "P6: MaxOut groups", tables(table(counting(20)), table(counting(15))), each, wholes(api.MaxOut), wholes(api.MaxOut))
}

// sumOf is a plan of the Sum of a column, without keys.
func sumOf(place int) []api.Node { return plan(scan(0), group(0, nil, agg(api.Sum, place))) }

func TestP5SumsAtTheBounds(t *testing.T) {
	const high, low = math.MaxInt64, math.MinInt64
	for _, of := range []func(entries ...any) api.Column{wholes, func(entries ...any) api.Column { return decimals(4, entries...) }} {
		room := func(what string, want int, entries ...any) {
			t.Helper()
			expectRows(t, "P5: "+what, tables(table(of(entries...))), sumOf(0), of(want))
		}
		no := func(what string, entries ...any) {
			t.Helper()
			expectFault(t, "P5: "+what, tables(table(of(entries...))), sumOf(0), api.ErrOverflow, 1, 0)
		}
		room("the greatest", high, high)
		room("the least", low, low)
		room("the greatest of two", high, high-1, 1)
		room("the least of two", low, low+1, -1)
		room("the greatest with nulls", high, nil, high, nil)
		room("beyond the greatest and back", high, high, 1, -1)
		room("beyond the least and back", low, low, -1, 1)
		room("back first", high, -1, high, 1)
		room("far beyond and back", -1, high, high, high, low, low, low, 2)
		room("far below and back", 0, low, low, high, high, 2)
		room("from bound to bound", low, low, high, -high)
		room("between the pieces", high, high, high, -high, high, -high, high, -high)
		room("wrapped round all the way", 0, low, low, high, high, 1, 1)
		no("one too many", high, 1)
		no("one too few", low, -1)
		no("the one first", 1, high)
		no("behind nulls", nil, high, nil, 1, nil)
		no("twice the greatest", high, high)
		no("twice the least: wrapped round it would be 0", low, low)
		no("four times the least", low, low, low, low)
		no("twice the greatest and 2: wrapped round it would be 0", high, high, 2)
		no("just above", high, high, -high, 1)
		no("just below", low, high, low)
		expectFault(t, "P5: with nulls ahead the group's place is still the first row's", tables(table(of(nil, nil, low, -1))), sumOf(0), api.ErrOverflow, 1, 0)
		expectFault(t, "P5: MaxRows times the greatest", tables(table(of(slices.Repeat([]any{high}, api.MaxRows)...))), sumOf(0), api.ErrOverflow, 1, 0)
		expectFault(t, "P5: MaxRows times the least", tables(table(of(slices.Repeat([]any{low}, api.MaxRows)...))), sumOf(0), api.ErrOverflow, 1, 0)
	}
}

func TestP5SumsAgainstNumbersWithoutABound(t *testing.T) {
	r := rightPlans{rand.New(rand.NewSource(3)), 1}
	seen := map[api.Errno]int{}
	for i := range 3000 {
		column, total := api.Column{Kind: api.Int}, new(big.Int)
		add := func(n int64) {
			total.Add(total, big.NewInt(n))
			column.Ints, column.Nulls = append(column.Ints, n), append(column.Nulls, false)
		}
		for range 1 + r.source.Intn(8) {
			add(r.number())
		}
		for i%2 == 0 && !total.IsInt64() { // back to where there is room
			add(-int64(total.Sign()) * math.MaxInt64)
		}
		by := teams()[i%len(teams())]
		got, errno, _ := quarry.Run(tables(table(column)), sumOf(0), by.workers, by.morsel)
		seen[errno]++
		if want := outcome(api.Int, 0, total); (errno == api.OK) != (len(want) == 1) || !same(got, table(want...)) {
			t.Fatalf("P5: the Sum of %v by %v is %+v, %d, want %v", column.Ints, by, got, errno, total)
		}
	}
	if seen[api.OK] < 500 || seen[api.ErrOverflow] < 300 {
		t.Errorf("the sums are too much alike: %v", seen)
	}
}

func TestP5TheLeastGroupThatErrs(t *testing.T) {
	const high, low = math.MaxInt64, math.MinInt64
	keys := wholes(7, 5, 6, 5, 7, 6, 6)
	given := tables(table(keys, wholes(1, high, low, 1, high-1, -1, 1), wholes(high, 0, low, 0, 1, 0, 0)))
	of := func(aggs ...api.Agg) []api.Node { return plan(scan(0), group(0, ints(0), aggs...)) }
	for range 20 {
		expectFault(t, "P5: neither the first group nor the first row that is too much", given, of(agg(api.Sum, 1)), api.ErrOverflow, 1, 1)
		expectFault(t, "P5: another column", given, of(agg(api.Sum, 2)), api.ErrOverflow, 1, 0)
		expectFault(t, "P5: the last aggregate errs in the first group", given, of(agg(api.Sum, 1), rowsOf(), agg(api.Sum, 2)), api.ErrOverflow, 1, 0)
		expectFault(t, "P5: the first aggregate errs in the first group", given, of(agg(api.Sum, 2), agg(api.Sum, 1)), api.ErrOverflow, 1, 0)
		expectFault(t, "P5: the last group", given, plan(scan(0), filter(0, col(0), num(5), op(api.Eq), op(api.Not)), project(1, expr(col(0)), expr(col(1), num(1), op(api.Mul))), filter(2, col(1), num(1), op(api.Eq), op(api.Not)), group(3, ints(0), agg(api.Sum, 1))), api.ErrOverflow, 4, 2)
		expectFault(t, "P5: without keys", given, plan(scan(0), filter(0, col(0), num(5), op(api.Eq)), group(1, nil, rowsOf(), agg(api.Sum, 1))), api.ErrOverflow, 2, 1)
	}
	expectRows(t, "P5: only a Sum errs", given, of(agg(api.Count, 1), agg(api.Least, 1), agg(api.Greatest, 1)), wholes(7, 5, 6), wholes(2, 2, 3), wholes(1, 1, low), wholes(high-1, high, 1))
	expectRows(t, "P5: groups that are left out do not err", given, plan(scan(0), filter(0, col(0), num(7), op(api.Eq)), group(1, ints(0), agg(api.Sum, 1))), wholes(7), wholes(high))
}

// pairs has MaxRows rows of as many keys, each in the first half and once more in the second; the sums of
// the keys from n on have no room.
func pairs(n int) []api.Table {
	keys, values := numbers(api.Int, 0, api.MaxRows), numbers(api.Int, 0, api.MaxRows)
	for i := range api.MaxRows {
		keys.Ints[i] = int64(i % (api.MaxRows / 2))
		values.Ints[i] = math.MaxInt64/2 + 1
		if keys.Ints[i] < int64(n) {
			values.Ints[i] = math.MaxInt64 / 2
		}
	}
	return tables(table(keys, values))
}

func TestP5AnyGroupMayErrFirst(t *testing.T) {
	for n := range api.MaxRows / 2 {
		expectFault(t, "P5: groups from one on", pairs(n), plan(scan(0), group(0, ints(0), agg(api.Sum, 1))), api.ErrOverflow, 1, n)
	}
	expectRows(t, "P5: no group", pairs(api.MaxRows/2), plan(scan(0), group(0, ints(0), agg(api.Sum, 1))), counting(20), wholes(slices.Repeat([]any{math.MaxInt64 - 1}, 20)...))
}

func TestP5GroupAndAnotherFault(t *testing.T) {
	given := pairs(3)
	sums := func(child int) api.Node { return group(child, ints(0), agg(api.Sum, 1)) }
	for range 10 {
		expectFault(t, "P5: below the Group", given, plan(scan(0), filter(0, asks(above(11))...), sums(1)), api.ErrOverflow, 1, 12)
		expectFault(t, "P5: above the Group", given, plan(scan(0), sums(0), project(1, tooMuch())), api.ErrOverflow, 1, 3)
		expectFault(t, "P5: beside the Group, behind it", given, plan(scan(0), sums(0), scan(0), project(2, tooMuch()), join(1, 3, ints(0), ints(0))), api.ErrOverflow, 1, 3)
		expectFault(t, "P5: beside the Group, ahead of it", given, plan(scan(0), scan(0), project(1, tooMuch()), sums(0), join(2, 3, ints(0), ints(0))), api.ErrOverflow, 2, 0)
		expectFault(t, "P5: two Groups", given, plan(scan(0), scan(0), group(1, nil, agg(api.Sum, 1)), sums(0), join(2, 3, ints(0), ints(0))), api.ErrOverflow, 2, 0)
		expectFault(t, "P5: the Group of a Group", given, plan(scan(0), group(0, ints(0), agg(api.Greatest, 1)), group(1, nil, agg(api.Sum, 1))), api.ErrOverflow, 2, 0)
	}
}

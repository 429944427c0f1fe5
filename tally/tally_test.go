package tally_test

import (
	"math"
	"math/big"
	"math/rand"
	"testing"

	"quarry/api"
	"quarry/rows"
	"quarry/tally"
)

func number(n int64) rows.Value { return rows.Value{Num: n, Scale: 3} }

// parted is the tally of values that are parted at random, again and again.
func parted(source *rand.Rand, values []rows.Value) tally.Tally {
	switch len(values) {
	case 0:
		return tally.Tally{}
	case 1:
		return tally.Of(values[0])
	}
	at := source.Intn(len(values) + 1)
	if at == 0 || at == len(values) {
		at = 1
	}
	return parted(source, values[:at]).And(parted(source, values[at:]))
}

func expectValue(t *testing.T, what string, of tally.Tally, kind int, want rows.Value) {
	t.Helper()
	if got, fits := of.Value(kind); got != want || !fits {
		t.Errorf("%s: %+v, %v, want %+v", what, got, fits, want)
	}
}

func TestP6NothingAtAll(t *testing.T) {
	for _, of := range []tally.Tally{{}, tally.Of(rows.Null()), tally.Of(rows.Null()).And(tally.Of(rows.Null()))} {
		expectValue(t, "P6: Count", of, api.Count, rows.Value{})
		for _, kind := range []int{api.Sum, api.Least, api.Greatest} {
			expectValue(t, "P6: of none", of, kind, rows.Null())
		}
	}
}

func TestP6NullsAreLeftOut(t *testing.T) {
	null, one := tally.Of(rows.Null()), tally.Of(number(-7))
	for _, of := range []tally.Tally{one, one.And(null), null.And(one), null.And(one.And(null))} {
		expectValue(t, "P6: Count", of, api.Count, rows.Value{Num: 1})
		for _, kind := range []int{api.Sum, api.Least, api.Greatest} {
			expectValue(t, "P6: of one", of, kind, number(-7))
		}
	}
}

func TestP6Texts(t *testing.T) {
	of := tally.Of(rows.Value{Text: "b"}).And(tally.Of(rows.Value{Text: "ab"})).And(tally.Of(rows.Value{Text: "ba"}))
	expectValue(t, "P6: Count", of, api.Count, rows.Value{Num: 3})
	expectValue(t, "P6: Least", of, api.Least, rows.Value{Text: "ab"})
	expectValue(t, "P6: Greatest", of, api.Greatest, rows.Value{Text: "ba"})
}

// drawn are values, of which some are null, with their sum, their least and their greatest.
func drawn(source *rand.Rand, n int) (values []rows.Value, held int64, total *big.Int, least, greatest int64) {
	edges := []int64{math.MinInt64, math.MinInt64 + 1, math.MinInt64 / 2, -1, 0, 1, math.MaxInt64 / 2, math.MaxInt64/2 + 1, math.MaxInt64}
	total, least, greatest = new(big.Int), math.MaxInt64, math.MinInt64
	for range n {
		if source.Intn(5) == 0 {
			values = append(values, rows.Null())
			continue
		}
		num := edges[source.Intn(len(edges))]
		values = append(values, number(num))
		total.Add(total, big.NewInt(num))
		held, least, greatest = held+1, min(least, num), max(greatest, num)
	}
	return
}

func TestP7HoweverTheyAreParted(t *testing.T) {
	source := rand.New(rand.NewSource(9))
	room := 0
	for range 5000 {
		values, held, total, least, greatest := drawn(source, source.Intn(api.MaxOut)%(1+source.Intn(api.MaxOut)))
		of := parted(source, values)
		expectValue(t, "P7: Count", of, api.Count, rows.Value{Num: held})
		sum, fits := of.Value(api.Sum)
		if fits != total.IsInt64() {
			t.Fatalf("P5: the sum %v of %v has room: %v", total, values, fits)
		}
		if held == 0 {
			continue
		}
		expectValue(t, "P7: Least", of, api.Least, number(least))
		expectValue(t, "P7: Greatest", of, api.Greatest, number(greatest))
		if fits {
			room++
			if sum != number(total.Int64()) {
				t.Fatalf("P7: the sum of %v is %+v, want %v", values, sum, total)
			}
		}
	}
	if room < 500 || room > 4500 {
		t.Errorf("the sums are too much alike: %d have room", room)
	}
}

package rows_test

import (
	"iter"
	"math"
	"slices"
	"testing"

	"quarry/rows"
)

// counted tells n rows, of which each has its number as its place, and counts those that it told.
func counted(n int, told *int) iter.Seq[rows.Row] {
	return func(yield func(rows.Row) bool) {
		for i := range n {
			*told++
			if !yield(rows.Row{Place: rows.Place{i}}) {
				return
			}
		}
	}
}

// numbersOf tells the places of rows, which are of one number each.
func numbersOf(told iter.Seq[rows.Row]) []int {
	var list []int
	for row := range told {
		list = append(list, row.Place...)
	}
	return list
}

func TestP8Page(t *testing.T) {
	for _, c := range []struct {
		from, count int
		want        []int
	}{
		{0, 0, nil}, {0, 1, []int{0}}, {0, 2, []int{0, 1}}, {0, 3, []int{0, 1, 2}}, {0, 4, []int{0, 1, 2}},
		{1, 0, nil}, {1, 1, []int{1}}, {1, 2, []int{1, 2}}, {1, 3, []int{1, 2}},
		{2, 1, []int{2}}, {2, 2, []int{2}}, {3, 0, nil}, {3, 1, nil}, {4, 1, nil},
		{0, math.MaxInt, []int{0, 1, 2}}, {1, math.MaxInt, []int{1, 2}}, {2, math.MaxInt - 1, []int{2}}, {3, math.MaxInt, nil},
		{math.MaxInt, 0, nil}, {math.MaxInt, 1, nil}, {math.MaxInt, math.MaxInt, nil}, {math.MaxInt - 1, math.MaxInt, nil},
	} {
		told := 0
		page := rows.Page(counted(3, &told), c.from, c.count)
		for range 2 { // a page that was gone through can be gone through again
			if got := numbersOf(page); !slices.Equal(got, c.want) {
				t.Errorf("P8: from %d, %d rows: %v, want %v", c.from, c.count, got, c.want)
			}
		}
	}
}

func TestP8PageOfNoRows(t *testing.T) {
	for _, from := range []int{0, 1, math.MaxInt} {
		for _, count := range []int{0, 1, math.MaxInt} {
			told := 0
			if got := numbersOf(rows.Page(counted(0, &told), from, count)); len(got) != 0 {
				t.Errorf("P8: from %d, %d of no rows: %v", from, count, got)
			}
		}
	}
}

func TestP8WhoHasEnoughLeaves(t *testing.T) {
	told := 0
	if got := numbersOf(rows.Page(counted(1000, &told), 5, 3)); !slices.Equal(got, []int{5, 6, 7}) || told > 9 {
		t.Errorf("P8: %v of %d that were told, want 5 to 7, and at most one behind them", got, told)
	}
	told = 0
	for row := range rows.Page(counted(1000, &told), 2, 500) {
		if row.Place[0] == 4 {
			break
		}
	}
	if told != 5 {
		t.Errorf("P8: %d were told to one who left at the fifth", told)
	}
}

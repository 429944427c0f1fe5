package quarry_test

import (
	"testing"

	"quarry/api"
)

type wrongTable struct {
	what  string
	table api.Table
}

// wrongTables has one table for each way, alone, in which a table may not be right.
func wrongTables() []wrongTable {
	five := make([]bool, 5)
	list := []wrongTable{
		{"no columns", api.Table{}},
		{"an empty list of columns", table([]api.Column{}...)},
		{"too many columns", wide(api.MaxCols + 1)},
		{"too many rows of numbers", table(numbers(api.Int, 0, api.MaxRows+1))},
		{"too many rows of texts", table(texts(api.MaxRows + 1))},
		{"no kind", table(api.Column{})},
		{"a Bool", table(api.Column{Kind: api.Bool})},
		{"a Bool with entries", table(numbers(api.Bool, 0, 5))},
		{"a kind above all", table(numbers(api.Bool+1, 0, 5))},
		{"a kind below all", table(numbers(-1, 0, 5))},
		{"an Int with a scale", table(numbers(api.Int, 1, 5))},
		{"an Int with a scale below 0", table(numbers(api.Int, -1, 5))},
		{"a Str with a scale", table(api.Column{Kind: api.Str, Scale: 1})},
		{"a Str with a scale below 0", table(api.Column{Kind: api.Str, Scale: -1})},
		{"a scale below 0", table(numbers(api.Dec, -1, 5))},
		{"a scale above MaxScale", table(numbers(api.Dec, api.MaxScale+1, 5))},
		{"Ints that are too few", table(api.Column{Kind: api.Int, Ints: make([]int64, 4), Nulls: five})},
		{"Ints that are too many", table(api.Column{Kind: api.Dec, Ints: make([]int64, 6), Nulls: five})},
		{"no Ints", table(api.Column{Kind: api.Int, Nulls: five})},
		{"Ints without Nulls", table(api.Column{Kind: api.Int, Ints: make([]int64, 5)})},
		{"Strs that are too few", table(api.Column{Kind: api.Str, Strs: make([]string, 4), Nulls: five})},
		{"Strs that are too many", table(api.Column{Kind: api.Str, Strs: make([]string, 6), Nulls: five})},
		{"no Strs", table(api.Column{Kind: api.Str, Nulls: five})},
		{"Strs without Nulls", table(api.Column{Kind: api.Str, Strs: make([]string, 5)})},
		{"an Int with Strs beside", table(api.Column{Kind: api.Int, Ints: make([]int64, 5), Strs: make([]string, 5), Nulls: five})},
		{"an Int with one of Strs beside", table(api.Column{Kind: api.Int, Ints: make([]int64, 5), Strs: make([]string, 1), Nulls: five})},
		{"an Int with Strs instead", table(api.Column{Kind: api.Int, Strs: make([]string, 5), Nulls: five})},
		{"a Str with Ints beside", table(api.Column{Kind: api.Str, Ints: make([]int64, 5), Strs: make([]string, 5), Nulls: five})},
		{"a Str with Ints instead", table(api.Column{Kind: api.Str, Ints: make([]int64, 5), Nulls: five})},
		{"columns of two lengths", table(numbers(api.Int, 0, 5), numbers(api.Int, 0, 4))},
		{"columns of two lengths, the first without rows", table(numbers(api.Int, 0, 0), texts(1))},
		{"columns of two lengths, the last one's", table(texts(5), texts(5), texts(6))},
		{"a text that is too long", table(api.Column{Kind: api.Str, Strs: []string{"", letters(api.MaxText + 1)}, Nulls: make([]bool, 2)})},
		{"a text that is too long at a null", table(api.Column{Kind: api.Str, Strs: []string{"", letters(api.MaxText + 1)}, Nulls: []bool{false, true}})},
		{"a text of few letters and too many bytes", table(api.Column{Kind: api.Str, Strs: []string{"ääääääää" + "a"}, Nulls: make([]bool, 1)})},
	}
	for _, n := range edges() {
		list = append(list,
			wrongTable{"a kind at the edge of numbers", table(api.Column{Kind: n})},
			wrongTable{"a Dec's scale at the edge of numbers", table(api.Column{Kind: api.Dec, Scale: n})},
			wrongTable{"an Int's scale at the edge of numbers", table(api.Column{Kind: api.Int, Scale: n})},
			wrongTable{"a Str's scale at the edge of numbers", table(api.Column{Kind: api.Str, Scale: n})})
	}
	return list
}

// rightTables has tables at the bounds that the document names.
func rightTables() map[string]api.Table {
	scales := api.Table{}
	for scale := range api.MaxScale + 1 {
		scales.Cols = append(scales.Cols, numbers(api.Dec, scale, 3))
	}
	return map[string]api.Table{
		"the document's":          sample(),
		"without rows":            wide(1),
		"without rows, not nil":   table(api.Column{Kind: api.Int, Ints: []int64{}, Strs: []string{}, Nulls: []bool{}}),
		"of one row":              table(numbers(api.Int, 0, 1)),
		"of MaxCols columns":      wide(api.MaxCols),
		"of MaxRows numbers":      table(numbers(api.Int, 0, api.MaxRows)),
		"of MaxRows texts":        table(texts(api.MaxRows)),
		"of each scale":           scales,
		"of a text of MaxText":    table(api.Column{Kind: api.Str, Strs: []string{letters(api.MaxText)}, Nulls: make([]bool, 1)}),
		"of a text beyond ASCII":  table(api.Column{Kind: api.Str, Strs: []string{"ääääääää"}, Nulls: make([]bool, 1)}),
		"of a text that is wrong": table(api.Column{Kind: api.Str, Strs: []string{"\xff\x00\xc0"}, Nulls: make([]bool, 1)}),
	}
}

func TestP3RightTables(t *testing.T) {
	for what, given := range rightTables() {
		expect(t, "P3: a table "+what, tables(given), plan(scan(0)), api.OK, 0)
	}
}

func TestP3WrongTables(t *testing.T) {
	right := sample()
	for _, c := range wrongTables() {
		expect(t, "P3: "+c.what, tables(c.table), plan(scan(0)), api.ErrTable, 0)
		expect(t, "P3: "+c.what+", not scanned", tables(right, c.table), plan(scan(0)), api.ErrTable, 1)
		expect(t, "P3: "+c.what+", at the last table", tables(right, right, right, c.table), plan(scan(0)), api.ErrTable, 3)
		expect(t, "P3: "+c.what+", behind a right column", tables(table(append(sample().Cols, c.table.Cols...)...)), plan(scan(0)), wantBehind(c.table), 0)
	}
}

// wantBehind: columns that are not right are so behind others too; none at all do no harm there.
func wantBehind(wrong api.Table) api.Errno {
	if len(wrong.Cols) == 0 {
		return api.OK
	}
	return api.ErrTable
}

func TestP3NumberOfTables(t *testing.T) {
	right, wrong := sample(), api.Table{}
	one := plan(scan(0))
	expect(t, "P3: no tables, a scan", nil, one, api.ErrPlan, 0)
	expect(t, "P3: no tables, no nodes", nil, nil, api.ErrPlan, 0)
	expect(t, "P3: MaxTables", tables(right, right, right, right), plan(scan(api.MaxTables-1)), api.OK, 0)
	expect(t, "P3: one above MaxTables", tables(right, right, right, right, right), one, api.ErrTable, api.MaxTables)
	expect(t, "P3: one above MaxTables, that one wrong", tables(right, right, right, right, wrong), one, api.ErrTable, api.MaxTables)
	expect(t, "P3: two above MaxTables", tables(right, right, right, right, right, wrong), one, api.ErrTable, api.MaxTables)
}

func TestP3TwoSlipsOfTables(t *testing.T) {
	right, wrong := sample(), api.Table{}
	one := plan(scan(0))
	expect(t, "P3: two wrong tables", tables(right, wrong, wide(9)), one, api.ErrTable, 1)
	expect(t, "P3: too many tables, one ahead wrong", tables(right, right, wrong, right, right), one, api.ErrTable, 2)
	expect(t, "P3: too many tables, the last ahead wrong", tables(right, right, right, wrong, right), one, api.ErrTable, 3)
	expect(t, "P3: a wrong table, no nodes", tables(right, wrong), nil, api.ErrTable, 1)
	expect(t, "P3: a wrong table, a wrong plan", tables(right, wrong), plan(scan(7)), api.ErrTable, 1)
	expect(t, "P3: a wrong table, a wrong type", tables(right, wrong), plan(scan(0), filter(0, col(0))), api.ErrTable, 1)
	expect(t, "P3: too many tables, a wrong plan", tables(right, right, right, right, right), plan(scan(7)), api.ErrTable, 4)
}

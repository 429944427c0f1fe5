package quarry_test

import (
	"math"
	"math/rand"
	"reflect"
	"runtime"
	"slices"
	"sync"
	"testing"
	"time"
	"unsafe"

	"quarry/api"
	"quarry/quarry"
)

// callAll makes every call there is, so that one that panics or goes on for ever is seen.
func callAll(given []api.Table, nodes []api.Node, n int) {
	quarry.Check(given, nodes)
	quarry.Types(given, nodes)
	quarry.Run(given, nodes, n, n)
	quarry.Top(given, nodes, n, n, n, n)
}

func TestP1NilLists(t *testing.T) {
	for _, given := range [][]api.Table{nil, {}, {{}}, {{Cols: []api.Column{}}}, {{Cols: make([]api.Column, 3)}}, tables(sample())} {
		for kind := range 7 {
			for _, nodes := range [][]api.Node{nil, {}, {{Op: kind}}, {scan(0), {Op: kind}}, {scan(0), scan(0), {Op: kind, B: 1}}, {scan(0), project(0, nil, nil)}, {scan(0), {Op: api.Filter, Exprs: [][]api.Term{nil}}}} {
				for _, n := range append(edges(), -1, 0, 1) {
					callAll(given, nodes, n)
				}
			}
		}
	}
	expect(t, "P1: all nil", nil, nil, api.ErrPlan, 0)
	expect(t, "P1: an expression that is nil", tables(sample()), plan(scan(0), filter(0)), api.ErrType, 1)
}

func TestP1ListsWithoutEntries(t *testing.T) {
	bare := tables(table(api.Column{Kind: api.Int}))
	full := tables(table(api.Column{Kind: api.Int, Ints: []int64{}, Strs: []string{}, Nulls: []bool{}}))
	count := []api.Agg{{Kind: api.Count, A: -1}}
	for _, given := range [][]api.Table{bare, full} {
		for _, keys := range [][]int{nil, {}} {
			for _, aggs := range [][]api.Agg{nil, {}} {
				expect(t, "P1: a Group of none", given, plan(scan(0), group(0, keys, aggs...)), api.ErrType, 1)
				expect(t, "P1: a Group of a key", given, plan(scan(0), group(0, ints(0), aggs...)), api.OK, 0)
			}
			expect(t, "P1: a Group of an aggregate", given, plan(scan(0), group(0, keys, count...)), api.OK, 0)
			expect(t, "P1: a Join of none", given, plan(scan(0), scan(0), join(0, 1, keys, nil)), api.ErrPlan, 2)
		}
	}
}

func TestP1ManyEntries(t *testing.T) {
	const many = 1 << 20
	expect(t, "P1: many tables", make([]api.Table, many), nil, api.ErrTable, 0)
	expect(t, "P1: many columns", tables(wide(many)), nil, api.ErrTable, 0)
	expect(t, "P1: many rows", tables(table(texts(many))), nil, api.ErrTable, 0)
	expect(t, "P1: many nodes", tables(sample()), chain(1000), api.ErrPlan, api.MaxNodes)
	expect(t, "P1: many expressions", tables(sample()), plan(scan(0), project(0, make([][]api.Term, many)...)), api.ErrPlan, 1)
	expect(t, "P1: many terms", tables(sample()), plan(scan(0), filter(0, nots(many)...)), api.ErrType, 1)
	expect(t, "P1: many keys", tables(sample()), plan(scan(0), group(0, make([]int, many))), api.ErrPlan, 1)
	expect(t, "P1: a long text", tables(sample()), plan(scan(0), filter(0, word(letters(many)), word(""), op(api.Eq))), api.ErrType, 1)
}

// anyPlans makes plans of numbers drawn from those that are near a bound; the seed is fixed, so the plans are the same each time.
type anyPlans struct{ source *rand.Rand }

func (a anyPlans) number() int {
	odd := append(edges(), -1, 7, 8, 16)
	if a.source.Intn(12) == 0 {
		return odd[a.source.Intn(len(odd))]
	}
	return a.source.Intn(4)
}

func (a anyPlans) numbers(most int) []int {
	list := make([]int, a.source.Intn(most+1))
	for i := range list {
		list[i] = a.number()
	}
	return list
}

func (a anyPlans) expr() []api.Term {
	terms := make([]api.Term, a.source.Intn(5))
	for i := range terms {
		terms[i] = api.Term{Op: a.source.Intn(17), A: a.number(), V: math.MaxInt64 - int64(a.number()), S: letters(a.source.Intn(18))}
	}
	return terms
}

func (a anyPlans) node(place int) api.Node {
	node := api.Node{Op: 1 + a.source.Intn(5), A: place - 1, B: place - 2, Keys: a.numbers(2), Others: a.numbers(2)}
	if a.source.Intn(8) == 0 {
		node.Op, node.A, node.B = a.number(), a.number(), a.number()
	}
	if place == 0 || node.Op == api.Scan {
		node.Op, node.A = api.Scan, a.number()%2
	}
	for range 1 + a.source.Intn(2)*a.source.Intn(2) {
		node.Exprs = append(node.Exprs, a.expr())
	}
	for range a.source.Intn(3) {
		node.Aggs = append(node.Aggs, api.Agg{Kind: a.number(), A: a.number()})
	}
	return node
}

func (a anyPlans) plan() []api.Node {
	nodes := make([]api.Node, a.source.Intn(5))
	for i := range nodes {
		nodes[i] = a.node(i)
	}
	return nodes
}

// areTypes tells whether columns without entries are as those of a right table.
func areTypes(columns []api.Column) bool {
	errno, _ := quarry.Check(tables(table(columns...)), plan(scan(0)))
	return errno == api.OK
}

func TestP1AnyPlan(t *testing.T) {
	a := anyPlans{rand.New(rand.NewSource(1))}
	given := tables(sample(), wide(2))
	seen := map[api.Errno]int{}
	for range 50000 {
		nodes := a.plan()
		callAll(given, nodes, a.number())
		errno, fault := quarry.Check(given, nodes)
		columns, typed := quarry.Types(given, nodes)
		seen[errno]++
		switch {
		case errno == api.OK && fault.Node == 0 && areTypes(columns):
		case (errno == api.ErrPlan || errno == api.ErrType) && 0 <= fault.Node && fault.Node <= len(nodes) && len(columns) == 0:
		default:
			t.Fatalf("P1: %+v: Check = %d, %+v, Types = %+v", nodes, errno, fault, columns)
		}
		if typed != errno || len(fault.Rows) != 0 {
			t.Fatalf("P1: %+v: Check = %d, %+v, Types = %d", nodes, errno, fault, typed)
		}
		expectAnswer(t, given, nodes, errno, fault)
	}
	if seen[api.OK] < 100 || seen[api.ErrPlan] < 100 || seen[api.ErrType] < 100 {
		t.Errorf("the plans are too much alike: %v", seen)
	}
}

// expectAnswer holds Run to what is so of every answer, given that of Check, and Top to Run.
func expectAnswer(t *testing.T, given []api.Table, nodes []api.Node, checked api.Errno, at api.Fault) {
	t.Helper()
	got, errno, fault := quarry.Run(given, nodes, 3, 2)
	right := false
	switch {
	case checked != api.OK:
		right = errno == checked && len(got.Cols) == 0 && reflect.DeepEqual(fault, at)
	case errno == api.OK:
		right = len(got.Cols) > 0 && noFault(fault) && areTypes(got.Cols)
	case errno == api.ErrOverflow:
		right = len(got.Cols) == 0 && 0 < fault.Node && fault.Node < len(nodes) && len(fault.Rows) > 0
		for _, n := range fault.Rows {
			right = right && bounded(n+1, 4)
		}
	}
	if !right {
		t.Fatalf("P1: %+v: Check = %d, %+v, Run = %+v, %d, %+v", nodes, checked, at, got, errno, fault)
	}
	want := answer{cutTable(got, page{1, 2}), errno, fault}
	if some := top(given, nodes, team{2, 3}, page{1, 2}); !equal(some, want) {
		t.Fatalf("P1: %+v: Top = %+v, want %+v", nodes, some, want)
	}
}

// settled counts the goroutines, once those that have nothing more to do are gone.
func settled(most int) int {
	for range 1000 {
		if runtime.NumGoroutine() <= most {
			break
		}
		time.Sleep(time.Millisecond)
	}
	return runtime.NumGoroutine()
}

func TestP1NothingGoesOn(t *testing.T) {
	before := runtime.NumGoroutine()
	for _, c := range telling() {
		for _, n := range ints(1, 4, 16) {
			callAll(c.given, c.nodes, n)
		}
		if after := settled(before); after > before {
			t.Errorf("P1: %d goroutines ahead of the calls, %d behind them", before, after)
		}
	}
}

func TestP1RunByNilLists(t *testing.T) {
	bare := tables(table(api.Column{Kind: api.Int}, api.Column{Kind: api.Str}))
	expectFault(t, "P1: all nil", nil, nil, api.ErrPlan, 0)
	expectFault(t, "P1: no tables", nil, plan(scan(0)), api.ErrPlan, 0)
	expectFault(t, "P1: a table of nil", tables(api.Table{}), nil, api.ErrTable, 0)
	expectFault(t, "P1: an expression that is nil", tables(sample()), plan(scan(0), filter(0)), api.ErrType, 1)
	expectFault(t, "P1: expressions that are nil", tables(sample()), plan(scan(0), project(0)), api.ErrPlan, 1)
	expectRows(t, "P1: entries of nil", bare, plan(scan(0)), wholes(), words())
	expectRows(t, "P1: lists that a Scan has not", bare, plan(api.Node{Op: api.Scan, B: -5, Exprs: [][]api.Term{nil}, Keys: ints(99), Aggs: []api.Agg{{}}}), wholes(), words())
}

func TestP1TopByNilLists(t *testing.T) {
	bare := tables(table(api.Column{Kind: api.Int}, api.Column{Kind: api.Str}))
	for _, of := range pages() {
		expectTop(t, "P1: all nil", nil, nil, of, answer{errno: api.ErrPlan})
		expectTop(t, "P1: no tables", nil, plan(scan(0)), of, answer{errno: api.ErrPlan})
		expectTop(t, "P1: a table of nil", tables(api.Table{}), nil, of, answer{errno: api.ErrTable})
		expectTop(t, "P1: an expression that is nil", tables(sample()), plan(scan(0), filter(0)), of, answer{errno: api.ErrType, fault: api.Fault{Node: 1}})
		expectPage(t, "P1: entries of nil", bare, plan(scan(0)), of, wholes(), words())
	}
}

// call is what the calls are handed.
type call struct {
	given []api.Table
	nodes []api.Node
}

// telling has plans of every kind of node, some with a fault, and some that are wrong.
func telling() []call {
	var calls []call
	for _, nodes := range slices.Concat(goodPlans(), faultyPlans(), wrongPlans()) {
		calls = append(calls, call{tables(sample(), wide(2)), nodes})
	}
	for _, nodes := range bulkyPlans() {
		calls = append(calls, call{bulky(), nodes})
	}
	return calls
}

func goodPlans() [][]api.Node {
	return [][]api.Node{
		plan(scan(0)),
		plan(scan(0), filter(0, col(0), num(1), op(api.Eq), op(api.Not))),
		plan(scan(0), project(0, expr(col(1), fix(1, 2), op(api.Add)), expr(word("x")))),
		plan(scan(0), filter(0, col(0), num(0), op(api.Le), op(api.Not)), project(1, expr(col(0)), expr(col(2)), expr(col(0)), expr(col(2)), expr(word("w")))),
		plan(scan(0), scan(0), join(0, 1, ints(2, 0), ints(2, 0))),
		plan(scan(0), group(0, ints(2, 0), rowsOf(), agg(api.Sum, 1))),
		plan(scan(0), group(0, ints(2, 2), agg(api.Least, 2), agg(api.Greatest, 2), agg(api.Least, 1), agg(api.Greatest, 1), agg(api.Count, 0))),
		plan(scan(0), group(0, nil, agg(api.Greatest, 2), agg(api.Sum, 0))),
		plan(scan(0), scan(0), join(0, 1, ints(2), ints(2)), filter(2, yes()...), group(3, ints(5)), project(4, expr(col(0)))),
		plan(scan(0), group(0, ints(2), agg(api.Least, 0)), scan(0), join(1, 2, ints(0, 1), ints(2, 0)), filter(3, yes()...)),
	}
}

func faultyPlans() [][]api.Node {
	return [][]api.Node{
		plan(scan(0), project(0, expr(col(0), num(math.MaxInt64-1), op(api.Add)))),
		plan(scan(0), filter(0, yes()...), filter(1, num(math.MinInt64), col(0), op(api.Sub), num(0), op(api.Lt))),
		plan(scan(0), scan(0), join(0, 1, ints(2), ints(2)), project(2, tooMuch())),
		plan(scan(0), project(0, expr(col(2)), expr(num(math.MaxInt64))), group(1, ints(0), agg(api.Sum, 1))),
		plan(scan(0), scan(0), join(0, 1, ints(2), ints(2)), project(2, expr(num(math.MinInt64))), group(3, nil, agg(api.Sum, 0))),
	}
}

func wrongPlans() [][]api.Node {
	return [][]api.Node{
		plan(scan(0), scan(0)),
		plan(scan(0), filter(0, col(0))),
		plan(scan(0), scan(0), join(0, 1, ints(1), ints(0))),
		plan(scan(0), group(0, nil, agg(api.Sum, 2))),
		plan(),
	}
}

// roomy is a copy of a list with spare room behind it, in which something stands.
func roomy[T any](list []T, spare T) []T {
	out := make([]T, len(list), len(list)+3)
	copy(out, list)
	for i := len(list); i < cap(out); i++ {
		out[:cap(out)][i] = spare
	}
	return out
}

func roomyTables(list []api.Table) []api.Table {
	out := roomy(list, sample())
	for i := range list {
		out[i].Cols = roomy(out[i].Cols, api.Column{Kind: 77, Scale: 77})
		for j, column := range out[i].Cols {
			out[i].Cols[j].Ints = roomy(column.Ints, 77)
			out[i].Cols[j].Strs = roomy(column.Strs, "spare")
			out[i].Cols[j].Nulls = roomy(column.Nulls, true)
		}
	}
	return out
}

func roomyPlan(nodes []api.Node) []api.Node {
	out := roomy(nodes, api.Node{Op: 77})
	for i, node := range nodes {
		out[i].Keys, out[i].Others = roomy(node.Keys, 77), roomy(node.Others, 77)
		out[i].Aggs = roomy(node.Aggs, api.Agg{Kind: 77})
		out[i].Exprs = roomy(node.Exprs, expr(op(77)))
		for j, terms := range node.Exprs {
			out[i].Exprs[j] = roomy(terms, op(77))
		}
	}
	return out
}

// whole is a copy of a value in which each list goes on to the end of its spare room.
func whole(v reflect.Value) reflect.Value {
	out := reflect.New(v.Type()).Elem()
	switch v.Kind() {
	case reflect.Slice:
		out.Set(reflect.MakeSlice(v.Type(), v.Cap(), v.Cap()))
		for i := range v.Cap() {
			out.Index(i).Set(whole(v.Slice(0, v.Cap()).Index(i)))
		}
	case reflect.Struct:
		for i := range v.NumField() {
			out.Field(i).Set(whole(v.Field(i)))
		}
	default:
		out.Set(v)
	}
	return out
}

// snapshot is what stands in a list, its spare room too.
func snapshot(list any) any { return whole(reflect.ValueOf(list)).Interface() }

func TestP2NothingIsWrittenInto(t *testing.T) {
	for _, c := range telling() {
		given, nodes := roomyTables(c.given), roomyPlan(c.nodes)
		tablesBefore, planBefore := snapshot(given), snapshot(nodes)
		callAll(given, nodes, 4)
		if !reflect.DeepEqual(snapshot(given), tablesBefore) {
			t.Errorf("P2: %+v: the tables were written into", c.nodes)
		}
		if !reflect.DeepEqual(snapshot(nodes), planBefore) {
			t.Errorf("P2: %+v: the plan was written into", c.nodes)
		}
	}
}

// scribble writes into a list of columns, its spare room, and the lists in them.
func scribble(columns []api.Column) {
	columns = columns[:cap(columns)]
	for i := range columns {
		columns[i] = api.Column{Kind: 55, Scale: 55, Ints: append(columns[i].Ints, 55), Strs: append(columns[i].Strs, "55"), Nulls: append(columns[i].Nulls, true)}
	}
}

func TestP2AnswersAreTheCallers(t *testing.T) {
	for _, c := range telling() {
		given, nodes := roomyTables(c.given), roomyPlan(c.nodes)
		tablesBefore, planBefore := snapshot(given), snapshot(nodes)
		first, _ := quarry.Types(given, nodes)
		want := snapshot(first)
		second, _ := quarry.Types(given, nodes)
		scribble(second)
		if !reflect.DeepEqual(snapshot(first), want) {
			t.Errorf("P2: %+v: two answers share memory", c.nodes)
		}
		if !reflect.DeepEqual(snapshot(given), tablesBefore) || !reflect.DeepEqual(snapshot(nodes), planBefore) {
			t.Errorf("P2: %+v: an answer shares memory with an argument", c.nodes)
		}
		if third, _ := quarry.Types(given, nodes); !reflect.DeepEqual(snapshot(third), want) {
			t.Errorf("P2: %+v: what was written into an answer is seen in a later one: %+v", c.nodes, third)
		}
	}
}

// span is where the room of a list, or the bytes of a text, begins and ends.
type span struct{ from, to uintptr }

// spans are those of all lists and texts in a value, spare room too.
func spans(v reflect.Value) []span {
	var list []span
	switch v.Kind() {
	case reflect.String:
		if n := v.Len(); n > 0 {
			from := uintptr(unsafe.Pointer(unsafe.StringData(v.String())))
			list = append(list, span{from, from + uintptr(n)})
		}
	case reflect.Slice:
		if room := uintptr(v.Cap()) * v.Type().Elem().Size(); room > 0 {
			list = append(list, span{v.Pointer(), v.Pointer() + room})
		}
		for i := range v.Cap() {
			list = append(list, spans(v.Slice(0, v.Cap()).Index(i))...)
		}
	case reflect.Struct:
		for i := range v.NumField() {
			list = append(list, spans(v.Field(i))...)
		}
	}
	return list
}

// apart tells whether none of the ones shares memory with another one, or with any of the others.
func apart(ones, others []span) bool {
	for i, one := range ones {
		for _, other := range slices.Concat(ones[:i], others) {
			if one.from < other.to && other.from < one.to {
				return false
			}
		}
	}
	return true
}

// expectOwn wants answers of a call by each of the teams that share memory with nothing.
func expectOwn(t *testing.T, c call, ask func(given []api.Table, nodes []api.Node, by team) answer) {
	t.Helper()
	given, nodes := roomyTables(c.given), roomyPlan(c.nodes)
	tablesBefore, planBefore := snapshot(given), snapshot(nodes)
	taken := slices.Concat(spans(reflect.ValueOf(given)), spans(reflect.ValueOf(nodes)))
	var kept []answer // so that memory of one answer can't be that of the next one once more
	for _, by := range teams() {
		got := ask(given, nodes, by)
		kept = append(kept, got)
		mine := slices.Concat(spans(reflect.ValueOf(got.table)), spans(reflect.ValueOf(got.fault)))
		if !apart(mine, taken) {
			t.Errorf("P2: %+v: by %v: %+v shares memory in itself, or has some of what was handed in or came out ahead", c.nodes, by, got)
		}
		taken = append(taken, mine...)
	}
	for _, old := range kept {
		scribble(old.table.Cols)
		for i := range old.fault.Rows[:cap(old.fault.Rows)] {
			old.fault.Rows[:cap(old.fault.Rows)][i] = 55
		}
	}
	if !reflect.DeepEqual(snapshot(given), tablesBefore) || !reflect.DeepEqual(snapshot(nodes), planBefore) {
		t.Errorf("P2: %+v: an answer shares memory with an argument", c.nodes)
	}
}

func TestP2RunsAreTheCallers(t *testing.T) {
	for _, c := range telling() {
		expectOwn(t, c, func(given []api.Table, nodes []api.Node, by team) answer {
			return told(quarry.Run(given, nodes, by.workers, by.morsel))
		})
	}
}

func TestP2TopsAreTheCallers(t *testing.T) {
	for _, c := range telling() {
		for _, of := range []page{{0, 0}, {0, 1}, {1, 2}, {3, 30}, {0, math.MaxInt}, {math.MaxInt, math.MaxInt}} {
			expectOwn(t, c, func(given []api.Table, nodes []api.Node, by team) answer { return top(given, nodes, by, of) })
		}
	}
}

func TestP2RunKeepsNothing(t *testing.T) {
	given, nodes := tables(sample()), plan(scan(0), project(0, expr(col(0), num(1), op(api.Add)), expr(col(2))))
	before, _, _ := quarry.Run(given, nodes, 2, 1)
	given[0].Cols[0].Ints[1], given[0].Cols[0].Nulls[0], given[0].Cols[2].Strs[3] = 50, true, "q"
	if !same(before, table(wholes(2, 3, nil, 5), words("x", "y", "x", "z"))) {
		t.Errorf("P2: an answer changed with an argument: %+v", before)
	}
	expectRows(t, "P2: the table is another one now", given, nodes, wholes(nil, 51, nil, 5), words("x", "y", "x", "q"))
	nodes[1].Exprs[0][1] = num(math.MaxInt64)
	expectFault(t, "P2: the term is another one now", given, nodes, api.ErrOverflow, 1, 1)
	nodes[1].Exprs[0][1] = num(0)
	expectRows(t, "P2: the fault is gone", given, nodes, wholes(nil, 50, nil, 4), words("x", "y", "x", "q"))
}

func TestP2TopKeepsNothing(t *testing.T) {
	given, nodes := tables(sample()), plan(scan(0), project(0, expr(col(0), num(1), op(api.Add)), expr(col(2))))
	of := page{1, 3}
	before := top(given, nodes, team{2, 1}, of)
	given[0].Cols[0].Ints[1], given[0].Cols[0].Nulls[3], given[0].Cols[2].Strs[3] = 50, true, "q"
	if !same(before.table, table(wholes(3, nil, 5), words("y", "x", "z"))) {
		t.Errorf("P2: an answer changed with an argument: %+v", before)
	}
	expectPage(t, "P2: the table is another one now", given, nodes, of, wholes(51, nil, nil), words("y", "x", "q"))
	nodes[1].Exprs[0][1] = num(math.MaxInt64)
	expectTop(t, "P2: the term is another one now", given, nodes, of, answer{errno: api.ErrOverflow, fault: api.Fault{Node: 1, Rows: ints(0)}})
	nodes[1].Exprs[0][1] = num(0)
	expectPage(t, "P2: the fault is gone", given, nodes, of, wholes(50, nil, nil), words("y", "x", "q"))
	expectPage(t, "P2: the page is another one now", given, nodes, page{0, 1}, wholes(1), words("x"))
}

func TestP2NoJoinOrGroupIsKept(t *testing.T) {
	given := tables(sample())
	nodes := plan(scan(0), scan(0), join(0, 1, ints(2), ints(2)), group(2, ints(2), rowsOf(), agg(api.Greatest, 5)))
	before, _, _ := quarry.Run(given, nodes, 2, 1)
	given[0].Cols[2].Strs[1] = "x"
	if !same(before, table(words("x", "y", "z"), wholes(4, 1, 1), words("x", "y", "z"))) {
		t.Errorf("P2: an answer changed with an argument: %+v", before)
	}
	expectRows(t, "P2: the text is another one now", given, nodes, words("x", "z"), wholes(9, 1), words("x", "z"))
	nodes[2].Others[0], nodes[2].Keys[0] = 0, 0
	expectRows(t, "P2: the keys are others now", given, nodes, words("x", "z"), wholes(2, 1), words("x", "z"))
	nodes[3].Keys[0], nodes[3].Aggs[1].A = 0, 4
	expectRows(t, "P2: the group is another one now", given, nodes, wholes(1, 2, 4), wholes(1, 1, 1), decimals(2, 150, -25, nil))
}

func TestP2NothingIsKept(t *testing.T) {
	given, nodes := tables(sample()), plan(scan(0), project(0, expr(col(1))))
	before, _ := quarry.Types(given, nodes)
	given[0].Cols[1].Scale = 5
	if len(before) != 1 || before[0].Scale != 2 {
		t.Errorf("P2: an answer changed with an argument: %+v", before)
	}
	expectTypes(t, "P2: the scale is another one now", given, nodes, pair{api.Dec, 5})
	nodes[1].Exprs[0][0] = num(1)
	expectTypes(t, "P2: the term is another one now", given, nodes, pair{api.Int, 0})
	given[0].Cols[2].Strs[0] = letters(17)
	expect(t, "P2: the table is wrong now", given, nodes, api.ErrTable, 0)
	given[0].Cols[2].Strs[0] = ""
	expect(t, "P2: the table is right again", given, nodes, api.OK, 0)
}

func TestP2ManyAtOnce(t *testing.T) {
	var all sync.WaitGroup
	for _, c := range telling() {
		errno, fault := quarry.Check(c.given, c.nodes)
		columns, _ := quarry.Types(c.given, c.nodes)
		came := told(quarry.Run(c.given, c.nodes, 4, 1))
		some := top(c.given, c.nodes, team{4, 1}, page{1, 2})
		for range 8 {
			all.Go(func() {
				e, f := quarry.Check(c.given, c.nodes)
				l, typed := quarry.Types(c.given, c.nodes)
				r, re, rf := quarry.Run(c.given, c.nodes, 4, 1)
				if !reflect.DeepEqual(answer{r, re, rf}, came) {
					t.Errorf("P2: %+v: Run = %+v, %d, %+v, and then %+v", c.nodes, r, re, rf, came)
				}
				if again := top(c.given, c.nodes, team{4, 1}, page{1, 2}); !reflect.DeepEqual(again, some) {
					t.Errorf("P2: %+v: Top = %+v, and then %+v", c.nodes, some, again)
				}
				if e != errno || typed != errno || !reflect.DeepEqual(f, fault) || !reflect.DeepEqual(l, columns) {
					t.Errorf("P2: %+v: the answers are not the same each time", c.nodes)
				}
			})
		}
	}
	all.Wait()
}

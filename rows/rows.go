// Package rows: the rows that come of a plan's nodes, with their values and their places.
package rows

// Value is one value of a row, or on the stack of an expression. It carries its scale, so that whoever
// reckons with it needs no types beside it.
type Value struct {
	Null  bool
	Num   int64  // of an Int or a Dec; of a Bool 1 or 0
	Scale int    // of a Dec
	Text  string // of a Str
}

// Null is the one form of a null of any type, so that whatever stood behind it in a table is never seen.
func Null() Value { return Value{Null: true} }

// True tells whether a Bool is true, and not null.
func (v Value) True() bool { return !v.Null && v.Num == 1 }

// False tells whether a Bool is false, and not null.
func (v Value) False() bool { return !v.Null && v.Num == 0 }

// Place tells of which rows of the tables a row was made.
type Place []int

// Row is a row of a node. Rows of several nodes share their lists, so nobody writes into them.
type Row struct {
	Place  Place
	Values []Value
}

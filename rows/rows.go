// Package rows: the rows that come of a plan's nodes, with their values and their places.
package rows

import (
	"cmp"
	"iter"

	"quarry/api"
)

// Value is one value of a row, or on the stack of an expression. It carries its scale, so that whoever
// reckons with it needs no types beside it.
type Value struct {
	Null  bool
	Num   int64  // of an Int or a Dec; of a Bool 1 or 0
	Scale int    // of a Dec
	Text  string // of a Str
}

// Null is the one form of a null of any type, so that whatever stood behind it in a table is never seen.
func Null() Value { return Value{Null: true} }

// True tells whether a Bool is true, and not null.
func (v Value) True() bool { return !v.Null && v.Num == 1 }

// False tells whether a Bool is false, and not null.
func (v Value) False() bool { return !v.Null && v.Num == 0 }

// Compare tells the order of two values of one type, neither of them null. It needs no types: the text
// of a number is always empty, and the number of a text always 0.
func Compare(one, other Value) int {
	return cmp.Or(cmp.Compare(one.Num, other.Num), cmp.Compare(one.Text, other.Text))
}

// Place tells of which rows of the tables a row was made.
type Place []int

// Row is a row of a node. Rows of several nodes share their lists, so nobody writes into them.
type Row struct {
	Place  Place
	Values []Value
}

// Key has the values of some columns of a row. Values of one type that are the same are ==, nulls too, so
// the keys of rows are, if those columns are the same; what no column takes is the same in all of them.
type Key [api.MaxKeys]Value

// Key is that of a row in the columns, which are at most MaxKeys.
func (r Row) Key(columns []int) Key {
	var key Key
	for i, column := range columns {
		key[i] = r.Values[column]
	}
	return key
}

// HasNull tells whether one of the values is null.
func (k Key) HasNull() bool {
	for _, v := range k {
		if v.Null {
			return true
		}
	}
	return false
}

// Page tells count of the rows that are told, those from the row from on, and leaves when it has enough. Neither
// number is below 0. They are never added up, for the sum may have no room.
func Page(told iter.Seq[Row], from, count int) iter.Seq[Row] {
	return func(yield func(Row) bool) {
		at := 0
		for row := range told {
			if at-from >= count {
				return
			}
			if at >= from && !yield(row) {
				return
			}
			at++
		}
	}
}

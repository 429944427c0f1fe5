// Package quarry: plans over columns, worked by many hands: see DOC.md.
package quarry

import (
	"math"
	"slices"

	"quarry/answer"
	"quarry/api"
	"quarry/check"
	"quarry/crew"
	"quarry/engine"
	"quarry/rows"
)

// Check tells whether tables and a plan are right (P3).
func Check(tables []api.Table, plan []api.Node) (api.Errno, api.Fault) {
	_, errno, place := check.Look(tables, plan)
	return errno, api.Fault{Node: place}
}

// Types tells the types of what comes of a plan (P4).
func Types(tables []api.Table, plan []api.Node) ([]api.Column, api.Errno) {
	types, errno, _ := check.Look(tables, plan)
	if errno != api.OK {
		return nil, errno
	}
	return answer.Columns(types[len(types)-1]), api.OK
}

// Run works a plan out (P5 to P7): that is Top from the first row on, with more rows than any plan has.
func Run(tables []api.Table, plan []api.Node, workers int, morsel int) (api.Table, api.Errno, api.Fault) {
	return Top(tables, plan, workers, morsel, 0, math.MaxInt)
}

// Top works a plan out, and gives some of its rows (P8). The whole plan is worked out whatever rows are asked
// for, since its faults are told wherever they are.
func Top(tables []api.Table, plan []api.Node, workers int, morsel int, from int, count int) (api.Table, api.Errno, api.Fault) {
	hands := crew.Crew{Workers: workers, Morsel: morsel}
	if !hands.Fits() || from < 0 || count < 0 {
		return api.Table{}, api.ErrArg, api.Fault{}
	}
	types, errno, place := check.Look(tables, plan)
	if errno != api.OK {
		return api.Table{}, errno, api.Fault{Node: place}
	}
	came, errno, fault := engine.Plan(tables, plan, hands)
	if errno != api.OK {
		return api.Table{}, errno, fault
	}
	asked := rows.Page(slices.Values(came), from, count)
	return answer.Table(types[len(types)-1], asked), api.OK, api.Fault{}
}

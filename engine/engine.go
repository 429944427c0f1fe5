// Package engine works plans out, node by node.
package engine

import (
	"slices"

	"quarry/api"
	"quarry/crew"
	"quarry/rows"
)

// Knows tells whether there is a job for every node of a plan: for a Join or a Group there is none yet.
func Knows(nodes []api.Node) bool {
	for _, node := range nodes {
		if node.Op == api.Join || node.Op == api.Group {
			return false
		}
	}
	return true
}

// Plan tells the rows of the last node of a plan, in the order of their places, or its fault. The plan has
// been found right. Its nodes are done in the order of the list, so the first fault met is the one to tell.
func Plan(tables []api.Table, nodes []api.Node, hands crew.Crew) ([]rows.Row, api.Errno, api.Fault) {
	done := make([][]rows.Row, 0, len(nodes))
	for i, node := range nodes {
		came, errs := hands.Do(job(node, tables, done))
		if errs != nil {
			return nil, api.ErrOverflow, api.Fault{Node: i, Rows: slices.Clone(errs)}
		}
		done = append(done, came)
	}
	return done[len(done)-1], api.OK, api.Fault{}
}

// job is the work of a node; those ahead of it are done.
func job(node api.Node, tables []api.Table, done [][]rows.Row) crew.Job {
	switch node.Op {
	case api.Filter:
		return filter{expr: node.Exprs[0], child: done[node.A]}
	case api.Project:
		return project{exprs: node.Exprs, child: done[node.A]}
	}
	return scan{table: tables[node.A]}
}

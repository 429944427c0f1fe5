// Package engine works plans out, node by node.
package engine

import (
	"slices"

	"quarry/api"
	"quarry/crew"
	"quarry/rows"
)

// Plan tells the rows of the last node of a plan, in the order of their places, or its fault. The plan has
// been found right. Its nodes are done in the order of the list, so the first fault met is the one to tell.
func Plan(tables []api.Table, nodes []api.Node, hands crew.Crew) ([]rows.Row, api.Errno, api.Fault) {
	done := make([][]rows.Row, 0, len(nodes))
	for i, node := range nodes {
		came, errs := work(node, tables, done, hands)
		switch {
		case errs != nil:
			return nil, api.ErrOverflow, api.Fault{Node: i, Rows: slices.Clone(errs)}
		case len(came) > api.MaxOut: // only a Join has more rows than its children
			return nil, api.ErrLimit, api.Fault{Node: i}
		}
		done = append(done, came)
	}
	return done[len(done)-1], api.OK, api.Fault{}
}

// work tells the rows of a node, or the least place of one that errs; the nodes ahead of it are done.
func work(node api.Node, tables []api.Table, done [][]rows.Row, hands crew.Crew) ([]rows.Row, rows.Place) {
	switch node.Op {
	case api.Filter:
		return crew.Do(hands, filter{expr: node.Exprs[0], child: done[node.A]})
	case api.Project:
		return crew.Do(hands, project{exprs: node.Exprs, child: done[node.A]})
	case api.Join:
		return crew.Do(hands, newJoin(node, done[node.A], done[node.B]))
	case api.Group:
		return grouped(node, done[node.A], hands)
	}
	return crew.Do(hands, scan{table: tables[node.A]})
}

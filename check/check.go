// Package check looks tables and plans over ahead of any work, and tells the types of each node's columns.
package check

import (
	"quarry/api"
	"quarry/typing"
)

// survey is what is known of a plan, once its nodes ahead of some place have been found right.
type survey struct {
	tables []api.Table
	nodes  []api.Node
	types  [][]typing.Type // for each node looked at so far, those of its columns
	taken  []bool          // for each node looked at so far, whether it is a child already
}

// Look tells, for each node of a plan, the types of its columns. With an error it tells instead
// the place of the table or node that is at fault.
func Look(tables []api.Table, nodes []api.Node) ([][]typing.Type, api.Errno, int) {
	if place, wrong := wrongTable(tables); wrong {
		return nil, api.ErrTable, place
	}
	s := &survey{tables: tables, nodes: nodes}
	for i := range nodes {
		if errno := s.add(i); errno != api.OK {
			return nil, errno, i
		}
	}
	if place, loose := s.loose(); loose {
		return nil, api.ErrPlan, place
	}
	return s.types, api.OK, 0
}

// add looks at the node i. How it hangs together goes first: only then its children's types can be asked.
func (s *survey) add(i int) api.Errno {
	if !s.hangsTogether(i) {
		return api.ErrPlan
	}
	types, ok := s.columns(s.nodes[i])
	if !ok {
		return api.ErrType
	}
	for _, child := range children(s.nodes[i]) {
		s.taken[child] = true
	}
	s.types = append(s.types, types)
	s.taken = append(s.taken, false)
	return api.OK
}

// loose tells the first node but the last that is nobody's child, and whether there is one;
// a plan without nodes is told as one at 0.
func (s *survey) loose() (int, bool) {
	if len(s.nodes) == 0 {
		return 0, true
	}
	for place := range len(s.nodes) - 1 {
		if !s.taken[place] {
			return place, true
		}
	}
	return 0, false
}

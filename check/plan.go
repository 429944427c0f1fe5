package check

import "quarry/api"

// hangsTogether tells whether nothing of what the document calls ErrPlan is at the node i.
func (s *survey) hangsTogether(i int) bool {
	if i >= api.MaxNodes {
		return false
	}
	node := s.nodes[i]
	return s.sourceFits(node) && countsFit(node)
}

// sourceFits tells whether a node's kind is known, and its rows come from a table or from children it may have.
func (s *survey) sourceFits(node api.Node) bool {
	switch node.Op {
	case api.Scan:
		return 0 <= node.A && node.A < len(s.tables)
	case api.Filter, api.Project, api.Group:
		return s.free(node.A)
	case api.Join:
		return s.free(node.A) && s.free(node.B) && node.A != node.B
	}
	return false
}

// free tells whether a place is that of a node ahead, which is nobody's child yet.
func (s *survey) free(place int) bool {
	return 0 <= place && place < len(s.taken) && !s.taken[place]
}

// countsFit looks only at the lists that a node of its kind has.
func countsFit(node api.Node) bool {
	switch node.Op {
	case api.Filter:
		return len(node.Exprs) == 1
	case api.Project:
		return within(len(node.Exprs), 1, api.MaxExprs)
	case api.Join:
		return within(len(node.Keys), 1, api.MaxKeys) && len(node.Others) == len(node.Keys)
	case api.Group:
		return len(node.Keys) <= api.MaxKeys && len(node.Aggs) <= api.MaxAggs
	}
	return true
}

func within(n, least, most int) bool {
	return least <= n && n <= most
}

// children tells the places of the nodes that a node takes its rows from.
func children(node api.Node) []int {
	switch node.Op {
	case api.Filter, api.Project, api.Group:
		return []int{node.A}
	case api.Join:
		return []int{node.A, node.B}
	}
	return nil
}

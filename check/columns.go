package check

import (
	"slices"

	"quarry/api"
	"quarry/typing"
)

// columns tells the types of a node's columns, and whether all types fit. The node hangs together:
// its table or its children are there.
func (s *survey) columns(node api.Node) ([]typing.Type, bool) {
	switch node.Op {
	case api.Scan:
		return tableTypes(s.tables[node.A]), true
	case api.Filter:
		return filtered(node, s.types[node.A])
	case api.Project:
		return projected(node, s.types[node.A])
	case api.Join:
		return joined(node, s.types[node.A], s.types[node.B])
	case api.Group:
		return grouped(node, s.types[node.A])
	}
	return nil, false
}

func filtered(node api.Node, child []typing.Type) ([]typing.Type, bool) {
	asked, ok := typing.Expr(node.Exprs[0], child)
	return child, ok && asked.Kind == api.Bool
}

func projected(node api.Node, child []typing.Type) ([]typing.Type, bool) {
	var types []typing.Type
	for _, expr := range node.Exprs {
		result, ok := typing.Expr(expr, child)
		if !ok || result.Kind == api.Bool {
			return nil, false
		}
		types = append(types, result)
	}
	return types, true
}

func joined(node api.Node, one, other []typing.Type) ([]typing.Type, bool) {
	for i, key := range node.Keys {
		left, isLeft := typing.Column(one, key)
		right, isRight := typing.Column(other, node.Others[i])
		if !isLeft || !isRight || left != right {
			return nil, false
		}
	}
	types := slices.Concat(one, other)
	return types, len(types) <= api.MaxCols
}

func grouped(node api.Node, child []typing.Type) ([]typing.Type, bool) {
	var types []typing.Type
	for _, key := range node.Keys {
		column, ok := typing.Column(child, key)
		if !ok {
			return nil, false
		}
		types = append(types, column)
	}
	for _, agg := range node.Aggs {
		result, ok := typing.Aggregate(agg, child)
		if !ok {
			return nil, false
		}
		types = append(types, result)
	}
	return types, within(len(types), 1, api.MaxCols)
}

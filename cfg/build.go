package cfg

import "keyhole/api"

// none is the index of a step or a node where there is none.
const none = -1

// nodesOf returns the nodes of a valid program with this Body.
func nodesOf(body []api.Step) []api.Node {
	exit := 1 + width(body)
	nodes := []api.Node{{Kind: api.NodeEntry, At: none, Next: 1, Other: none}}
	at := none // the step that was added last
	add := func(kind api.NodeKind, next, other int) {
		nodes = append(nodes, api.Node{Kind: kind, At: at, Next: next, Other: other})
	}
	var addList func(list []api.Step, end int) // end: the node to which the end of the list leads
	addList = func(list []api.Step, end int) {
		for i, s := range list {
			at++
			first := len(nodes)
			after := first + width(list[i:i+1])
			if i == len(list)-1 {
				after = end
			}
			switch s.Do {
			case api.If:
				inside := first + 1
				add(api.NodeTest, start(s.Then, inside, after), start(s.Else, inside+width(s.Then), after))
				addList(s.Then, after)
				addList(s.Else, after)
			case api.Loop:
				head := first + 1
				add(api.NodeEnter, head, none)
				add(api.NodeHead, start(s.Then, head+1, head), after)
				addList(s.Then, head)
			default:
				add(api.NodeStep, after, none)
			}
		}
	}
	addList(body, exit)
	return append(nodes, api.Node{Kind: api.NodeExit, At: none, Next: none, Other: none})
}

// start returns the first node of a list whose nodes begin at first, and whose end leads to the node end.
func start(list []api.Step, first, end int) int {
	if len(list) == 0 {
		return end
	}
	return first
}

// width returns the number of nodes of steps and of the steps inside them.
func width(list []api.Step) int {
	count := 0
	for _, s := range list {
		count += 1 + width(s.Then) + width(s.Else)
		if s.Do == api.Loop {
			count++
		}
	}
	return count
}

// preorder returns steps and the steps inside them, in the order of their numbers.
func preorder(list []api.Step) []api.Step {
	var all []api.Step
	for _, s := range list {
		all = append(all, s)
		all = append(all, preorder(s.Then)...)
		all = append(all, preorder(s.Else)...)
	}
	return all
}

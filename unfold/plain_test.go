package unfold

import (
	"fmt"
	"slices"
	"sort"

	"familycheck/api"
	"familycheck/protocol"
)

// The functions of this file follow the document's sentences one by one, on configurations as api has them, and without any of the package's code.

// plainTree returns the parent and the children of each node; false if the list is no shape.
func plainTree(shape []int) (parent []int, children [][]int, ok bool) {
	parent, children = make([]int, len(shape)), make([][]int, len(shape))
	var read func(at, above int) int
	read = func(at, above int) int {
		if at < 0 || at >= len(shape) || shape[at] != 0 && shape[at] != 2 {
			return -1
		}
		parent[at] = above
		next := at + 1
		for range shape[at] {
			children[at] = append(children[at], next)
			next = read(next, at)
		}
		return next
	}
	return parent, children, read(0, -1) == len(shape)
}

// plainShapes joins all pairs of smaller trees.
func plainShapes(n int) [][]int {
	if n == 1 {
		return [][]int{{0}}
	}
	var all [][]int
	for left := 1; left <= n-2; left++ {
		for _, a := range plainShapes(left) {
			for _, b := range plainShapes(n - 1 - left) {
				all = append(all, slices.Concat([]int{2}, a, b))
			}
		}
	}
	slices.SortFunc(all, slices.Compare[[]int])
	return all
}

func plainNeighbors(topology int, shape []int, count, i int) [3]int {
	none := [3]int{-1, -1, -1}
	if i < 0 || i >= count {
		return none
	}
	switch topology {
	case api.Line:
		if i > 0 {
			none[0] = i - 1
		}
		if i < count-1 {
			none[1] = i + 1
		}
	case api.Ring:
		none[0], none[1] = (i+count-1)%count, (i+1)%count
	case api.Tree:
		parent, children, ok := plainTree(shape)
		if ok && len(shape) == count {
			none[2] = parent[i]
			copy(none[:], children[i])
		}
	}
	return none
}

func plainModeled(p api.Protocol, s api.Size) int {
	if p.Fault == api.Arbitrary {
		return s.N - s.F
	}
	return s.N
}

func plainValid(p api.Protocol, s api.Size, c api.Config) bool {
	if len(c.States) != plainModeled(p, s) || c.Correct != s.N-s.F {
		return false
	}
	for _, x := range c.States {
		if x < 0 || x >= len(p.States) {
			return false
		}
	}
	if len(c.Sent) != len(p.Messages) || len(c.Faulty) != len(p.Messages) {
		return false
	}
	for i := range p.Messages {
		if c.Sent[i] < 0 || c.Sent[i] > 1<<20 || c.Faulty[i] < 0 || c.Faulty[i] > 1<<20 {
			return false
		}
		if c.Faulty[i] != 0 && p.Fault != api.Crash && p.Fault != api.Omission {
			return false
		}
	}
	if len(p.Values) == 0 && c.Value != 0 || len(p.Values) > 0 && (c.Value < 0 || c.Value >= len(p.Values)) {
		return false
	}
	if p.Topology != api.Tree {
		return len(c.Shape) == 0
	}
	_, _, ok := plainTree(c.Shape)
	return ok && len(c.Shape) == s.N
}

func plainInitial(p api.Protocol, q api.Property, s api.Size) []api.Config {
	shapes := [][]int{nil}
	if p.Topology == api.Tree {
		shapes = plainShapes(s.N)
	}
	var all []api.Config
	for _, shape := range shapes {
		var choose func(states []int)
		choose = func(states []int) {
			i := len(states)
			if i == plainModeled(p, s) {
				c := plainStart(p, slices.Clone(states)...)
				c.Shape, c.Correct = slices.Clone(shape), s.N-s.F
				all = append(all, c)
				return
			}
			from := p.Initial
			if i < s.N-s.F && len(q.Start) > 0 {
				from = q.Start
			}
			if i == 0 && len(p.Leader) > 0 {
				from = p.Leader
			}
			for _, x := range from {
				choose(append(states, x))
			}
		}
		choose(nil)
	}
	return all
}

// plainCount returns the messages of a type that count for the guards; if certain, those that count for what is forced.
func plainCount(p api.Protocol, s api.Size, c api.Config, message int, certain bool) int {
	switch {
	case p.Fault == api.Crash, p.Fault == api.Omission && !certain:
		return c.Sent[message] + c.Faulty[message]
	case p.Fault == api.Arbitrary && !certain:
		return c.Sent[message] + s.F
	}
	return c.Sent[message]
}

func plainEnabled(p api.Protocol, s api.Size, c api.Config, x api.Step, certain bool) bool {
	if x.Rule < 0 || x.Rule >= len(p.Rules) || x.Process < 0 || x.Process >= len(c.States) {
		return false
	}
	r := p.Rules[x.Rule]
	if c.States[x.Process] != r.From {
		return false
	}
	near := plainNeighbors(p.Topology, c.Shape, len(c.States), x.Process)
	if r.Kind == api.Pair || r.Kind == api.Pass {
		if x.Partner < 0 || x.Partner >= len(c.States) || x.Partner == x.Process || c.States[x.Partner] != r.PartnerFrom {
			return false
		}
		switch {
		case r.Kind == api.Pair:
			return r.Read == -1 || r.Read == c.Value
		case r.Direction == api.ToRight:
			return near[1] == x.Partner
		case r.Direction == api.ToLeft:
			return near[0] == x.Partner
		case r.Direction == api.ToParent:
			return near[2] == x.Partner
		}
		return near[0] == x.Partner || near[1] == x.Partner
	}
	if x.Partner != -1 {
		return false
	}
	if r.Kind == api.Neighbor {
		isLast := x.Process == len(c.States)-1
		if p.Topology == api.Tree {
			isLast = c.Shape[x.Process] == 0
		}
		if r.At == api.AtFirst && x.Process != 0 || r.At == api.AtLast && !isLast {
			return false
		}
		for i, states := range [][]int{r.Left, r.Right, r.Parent} {
			if len(states) > 0 && (near[i] == -1 || !slices.Contains(states, c.States[near[i]])) {
				return false
			}
		}
		return true
	}
	for _, guard := range r.Guards {
		bound := guard.Bound.C + guard.Bound.N*s.N + guard.Bound.T*s.T + guard.Bound.F*s.F
		if guard.Coef*plainCount(p, s, c, guard.Message, certain) < bound {
			return false
		}
	}
	exists, forall := false, true
	for i, state := range c.States {
		if i != x.Process {
			exists = exists || slices.Contains(r.Exists, state)
			forall = forall && slices.Contains(r.Forall, state)
		}
	}
	return (exists || len(r.Exists) == 0) && (forall || len(r.Forall) == 0) && (r.Read == -1 || r.Read == c.Value)
}

// plainApply needs an enabled step.
func plainApply(p api.Protocol, c api.Config, x api.Step) api.Config {
	d := cloned(c)
	r := p.Rules[x.Rule]
	switch r.Kind {
	case api.Local:
		for _, message := range r.Send {
			if x.Process < c.Correct {
				d.Sent[message] = c.Sent[message] + 1
			} else {
				d.Faulty[message] = c.Faulty[message] + 1
			}
		}
	case api.Pair, api.Pass:
		d.States[x.Partner] = r.PartnerTo
	case api.Broadcast:
		for i, state := range c.States {
			d.States[i] = r.Response[state]
		}
	}
	d.States[x.Process] = r.To
	if (r.Kind == api.Local || r.Kind == api.Pair || r.Kind == api.Broadcast) && r.Write != -1 {
		d.Value = r.Write
	}
	return d
}

func plainSteps(p api.Protocol, s api.Size, c api.Config) []api.Step {
	var all []api.Step
	for rule := range p.Rules {
		for process := range c.States {
			for partner := -1; partner < len(c.States); partner++ {
				if x := with(rule, process, partner); plainEnabled(p, s, c, x, false) {
					all = append(all, x)
				}
			}
		}
	}
	return all
}

func plainForced(p api.Protocol, s api.Size, c api.Config, rule, process int) bool {
	forced := false
	for partner := -1; partner < len(c.States); partner++ {
		forced = forced || process < c.Correct && plainEnabled(p, s, c, with(rule, process, partner), true)
	}
	return forced
}

func plainBad(p api.Protocol, q api.Property, c api.Config) bool {
	for _, count := range q.Bad {
		found := 0
		for i, state := range c.States {
			if i < c.Correct && slices.Contains(count.States, state) {
				found++
			}
		}
		if found < count.Least {
			return false
		}
	}
	if len(q.Adjacent) == 0 {
		return true
	}
	for i := range c.States {
		near := plainNeighbors(p.Topology, c.Shape, len(c.States), i)
		if p.Topology != api.Tree {
			near[0] = -1
		}
		for _, k := range near[:2] {
			if k >= 0 && c.States[i] == q.Adjacent[0] && c.States[k] == q.Adjacent[1] {
				return true
			}
		}
	}
	return false
}

func plainReached(q api.Property, c api.Config) bool {
	for _, state := range c.States[:c.Correct] {
		if !slices.Contains(q.Goal, state) {
			return false
		}
	}
	return true
}

func plainCanonical(p api.Protocol, c api.Config) api.Config {
	d := cloned(c)
	if p.Topology == api.Clique {
		sort.Ints(d.States[:d.Correct])
		sort.Ints(d.States[d.Correct:])
	}
	return d
}

// plainLess compares one number after another.
func plainLess(a, b api.Config) bool {
	for i, x := range [][]int{a.Shape, a.States, a.Sent, a.Faulty, {a.Correct}, {a.Value}} {
		y := [][]int{b.Shape, b.States, b.Sent, b.Faulty, {b.Correct}, {b.Value}}[i]
		for k := range min(len(x), len(y)) {
			if x[k] != y[k] {
				return x[k] < y[k]
			}
		}
		if len(x) != len(y) {
			return len(x) < len(y)
		}
	}
	return false
}

// plainGraph has what is reachable from initial configurations, not made canonical: each configuration with the fewest steps to it and its steps.
type plainGraph struct {
	list   []api.Config
	depth  []int
	steps  [][]api.Step
	next   [][]int
	starts int
}

// plainExplore returns false if there are more than most configurations.
func plainExplore(p api.Protocol, q api.Property, s api.Size, most int) (plainGraph, bool) {
	g := plainGraph{}
	places := map[string]int{}
	place := func(c api.Config, depth int) int {
		key := fmt.Sprint(c)
		i, known := places[key]
		if !known {
			i = len(g.list)
			places[key] = i
			g.list, g.depth = append(g.list, c), append(g.depth, depth)
		}
		return i
	}
	for _, c := range plainInitial(p, q, s) {
		place(c, 0)
	}
	g.starts = len(g.list)
	for i := 0; i < len(g.list) && len(g.list) <= most; i++ {
		g.steps, g.next = append(g.steps, plainSteps(p, s, g.list[i])), append(g.next, nil)
		for _, x := range g.steps[i] {
			to := place(plainApply(p, g.list[i], x), g.depth[i]+1)
			g.next[i] = append(g.next[i], to)
		}
	}
	return g, len(g.list) <= most
}

// forms returns the canonical forms of all configurations in ascending order.
func (g plainGraph) forms(p api.Protocol) []api.Config {
	var all []api.Config
	seen := map[string]bool{}
	for _, c := range g.list {
		d := plainCanonical(p, c)
		if key := fmt.Sprint(d); !seen[key] {
			seen[key] = true
			all = append(all, d)
		}
	}
	sort.Slice(all, func(i, k int) bool { return plainLess(all[i], all[k]) })
	return all
}

// hasLasso reports whether a weakly fair run avoids the goal. It removes configurations until from each that is left, for each pair, one is reached in which the pair is not forced or is taken.
func (g plainGraph) hasLasso(p api.Protocol, q api.Property, s api.Size) bool {
	left := make([]bool, len(g.list))
	for i, c := range g.list {
		left[i] = !plainReached(q, c)
	}
	avoid := slices.Clone(left)
	for removed := true; removed; {
		removed = false
		for rule := range p.Rules {
			for process := range s.N - s.F {
				good := g.canServe(p, s, left, rule, process)
				for i := range left {
					if left[i] && !good[i] {
						left[i], removed = false, true
					}
				}
			}
		}
	}
	// The goal must also be avoided on the way.
	seen := make([]bool, len(g.list))
	found := false
	var visit func(i int)
	visit = func(i int) {
		if seen[i] || !avoid[i] {
			return
		}
		seen[i] = true
		found = found || left[i]
		for _, to := range g.next[i] {
			visit(to)
		}
	}
	for i := range g.starts {
		visit(i)
	}
	return found
}

// canServe reports from which configurations steps among those left lead to one where the pair is not forced, or take it.
func (g plainGraph) canServe(p api.Protocol, s api.Size, left []bool, rule, process int) []bool {
	good := make([]bool, len(g.list))
	for changed := true; changed; {
		changed = false
		for i, c := range g.list {
			if !left[i] || good[i] {
				continue
			}
			good[i] = !plainForced(p, s, c, rule, process)
			for k, to := range g.next[i] {
				x := g.steps[i][k]
				good[i] = good[i] || left[to] && (good[to] || x.Rule == rule && x.Process == process)
			}
			changed = changed || good[i]
		}
	}
	return good
}

// plainIsLasso follows P3.18.
func plainIsLasso(p api.Protocol, q api.Property, s api.Size, l api.Lasso) bool {
	list := []api.Config{l.Start}
	for _, x := range slices.Concat(l.Prefix, l.Loop) {
		c := list[len(list)-1]
		if !plainEnabled(p, s, c, x, false) {
			return false
		}
		list = append(list, plainApply(p, c, x))
	}
	for _, c := range list {
		if plainReached(q, c) {
			return false
		}
	}
	loop := list[len(l.Prefix):]
	if !same(loop[0], loop[len(loop)-1]) {
		return false
	}
	for rule := range p.Rules {
		for process := range s.N {
			starved := true
			for _, c := range loop {
				starved = starved && plainForced(p, s, c, rule, process)
			}
			for _, x := range l.Loop {
				starved = starved && !(x.Rule == rule && x.Process == process)
			}
			if starved {
				return false
			}
		}
	}
	return slices.ContainsFunc(plainInitial(p, q, s), func(c api.Config) bool { return same(c, l.Start) })
}

// plainSizes returns the admissible sizes with n processes.
func plainSizes(p api.Protocol, n int) []api.Size {
	var all []api.Size
	for f := 0; f <= n; f++ {
		for t := 0; t <= n; t++ {
			if s := size(n, t, f); protocol.Admissible(p, s) {
				all = append(all, s)
			}
		}
	}
	return all
}

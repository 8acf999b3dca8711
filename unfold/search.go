package unfold

import (
	"slices"

	"familycheck/api"
	"familycheck/protocol"
)

// Replay returns the configurations of the run: Start and the one after each step.
func Replay(p api.Protocol, s api.Size, r api.Run) ([]api.Config, api.Errno) {
	y, e := newSystem(p, s)
	if e != api.OK {
		return nil, e
	}
	c, ok := y.read(r.Start)
	if !ok {
		return nil, api.ErrRun
	}
	all := []api.Config{y.write(c)}
	for _, x := range r.Steps {
		if c, e = y.apply(c, x); e != api.OK {
			return nil, e
		}
		all = append(all, y.write(c))
	}
	return all, api.OK
}

// walk is an exploration breadth first: the configurations in the order in which they are found, and for each the place of the one from which it was found, -1 for a start.
type walk struct {
	places map[config]int
	list   []config
	from   []int
}

func newWalk() *walk {
	return &walk{places: map[config]int{}}
}

// add keeps one configuration more than allowed and no others: one shows that there are too many.
func (w *walk) add(c config, from int) {
	if _, known := w.places[c]; known || w.isOver() {
		return
	}
	w.places[c] = len(w.list)
	w.list = append(w.list, c)
	w.from = append(w.from, from)
}

// isOver reports whether there are more configurations than an exploration may hold. While there are not, each is found after fewer steps than there are configurations, so no number of messages comes near its limit.
func (w *walk) isOver() bool {
	return len(w.list) > api.MaxConfigs
}

// path returns the configurations that lead to the one at place i.
func (w *walk) path(i int) []config {
	var list []config
	for ; i >= 0; i = w.from[i] {
		list = append(list, w.list[i])
	}
	slices.Reverse(list)
	return list
}

// explore finds what is reachable from starts through configurations that keep accepts. The form of a configuration stands for it.
func (y *system) explore(starts []config, form func(config) config, keep func(config) bool) (*walk, api.Errno) {
	w := newWalk()
	for _, c := range starts {
		if keep(c) {
			w.add(c, -1)
		}
	}
	for i := 0; i < len(w.list); i++ {
		c := w.list[i]
		for x := range y.steps(c) {
			if next := form(y.after(c, x)); keep(next) {
				w.add(next, i)
			}
		}
		if w.isOver() {
			return nil, api.ErrLarge
		}
	}
	return w, api.OK
}

func itself(c config) config {
	return c
}

func keepAll(config) bool {
	return true
}

// canonicalStarts returns the canonical forms of the initial configurations, each once.
func (y *system) canonicalStarts(q api.Property) ([]config, api.Errno) {
	list, e := y.initial(q)
	if e != api.OK {
		return nil, e
	}
	for i, c := range list {
		list[i] = y.canonical(c)
	}
	return sortedSet(list, config.compare), api.OK
}

// sortedSet sorts a list and removes what appears again in it.
func sortedSet[T any](list []T, compare func(a, b T) int) []T {
	slices.SortFunc(list, compare)
	return slices.CompactFunc(list, func(a, b T) bool { return compare(a, b) == 0 })
}

// Reach returns the canonical forms of all reachable configurations in ascending order.
func Reach(p api.Protocol, q api.Property, s api.Size) ([]api.Config, api.Errno) {
	y, e := newSystemFor(p, q, s)
	if e != api.OK {
		return nil, e
	}
	starts, e := y.canonicalStarts(q)
	if e != api.OK {
		return nil, e
	}
	w, e := y.explore(starts, y.canonical, keepAll)
	if e != api.OK {
		return nil, e
	}
	return y.writeAll(sortedSet(w.list, config.compare)), api.OK
}

func (y *system) isBad(q api.Property, c config) bool {
	var links []link
	if len(y.links) > 0 {
		links = y.links[c.shape]
	}
	return isBad(y.family, q, c.states[:y.count], y.correct, links)
}

// IsViolation reports whether r is a run of the system from an initial configuration to a bad one.
func IsViolation(p api.Protocol, q api.Property, s api.Size, r api.Run) bool {
	y, e := newSystemFor(p, q, s)
	if e != api.OK || q.Kind != api.Never {
		return false
	}
	c, ok := y.read(r.Start)
	if !ok || !y.isInitial(q, c) {
		return false
	}
	for _, x := range r.Steps {
		if c, e = y.apply(c, x); e != api.OK {
			return false
		}
	}
	return y.isBad(q, c)
}

// Shortest returns a violation of q with as few steps as possible; false if there is none.
func Shortest(p api.Protocol, q api.Property, s api.Size) (api.Run, bool, api.Errno) {
	y, e := newSystemFor(p, q, s)
	if e != api.OK {
		return api.Run{}, false, e
	}
	if q.Kind != api.Never {
		return api.Run{}, false, api.ErrClass
	}
	starts, e := y.canonicalStarts(q)
	if e != api.OK {
		return api.Run{}, false, e
	}
	path, e := y.pathToBad(q, starts)
	if e != api.OK || len(path) == 0 {
		return api.Run{}, false, e
	}
	return api.Run{Start: y.write(path[0]), Steps: y.stepsAlong(path, y.canonical)}, true, api.OK
}

// pathToBad returns the canonical forms of the configurations of a shortest run to a bad one. Each round examines what one more step leads to, even if that is too much to be held.
func (y *system) pathToBad(q api.Property, starts []config) ([]config, api.Errno) {
	w := newWalk()
	for _, c := range starts {
		if y.isBad(q, c) {
			return []config{c}, api.OK
		}
		w.add(c, -1)
	}
	for done := 0; done < len(w.list); {
		for round := len(w.list); done < round; done++ {
			c := w.list[done]
			for x := range y.steps(c) {
				next := y.canonical(y.after(c, x))
				if y.isBad(q, next) {
					return append(w.path(done), next), api.OK
				}
				w.add(next, done)
			}
		}
		if w.isOver() {
			return nil, api.ErrLarge
		}
	}
	return nil, api.OK
}

// stepsAlong returns steps from the first configuration of the path through others with the forms that the path has.
func (y *system) stepsAlong(path []config, form func(config) config) []api.Step {
	var list []api.Step
	c := path[0]
	for _, next := range path[1:] {
		for x := range y.steps(c) {
			if after := y.after(c, x); form(after) == next {
				list = append(list, x)
				c = after
				break
			}
		}
	}
	return list
}

// Smallest returns the first size with at most so many processes at which q is violated, and a shortest violation there; false if there is none.
func Smallest(p api.Protocol, q api.Property, most int) (api.Size, api.Run, bool, api.Errno) {
	return smallest(p, q, most, api.Never, Shortest)
}

// smallest asks find at one size after another for a violation of a property of the kind.
func smallest[T any](p api.Protocol, q api.Property, most, kind int, find func(api.Protocol, api.Property, api.Size) (T, bool, api.Errno)) (api.Size, T, bool, api.Errno) {
	var none T
	if e := protocol.ValidateProperty(p, q); e != api.OK {
		return api.Size{}, none, false, e
	}
	if most > api.MaxProcesses {
		return api.Size{}, none, false, api.ErrArg
	}
	if q.Kind != kind {
		return api.Size{}, none, false, api.ErrClass
	}
	for n := 1; n <= most; n++ {
		sizes, _ := protocol.Sizes(p, n)
		for _, s := range sizes {
			x, ok, e := find(p, q, s)
			if e != api.OK {
				return api.Size{}, none, false, e
			}
			if ok {
				return s, x, true, api.OK
			}
		}
	}
	return api.Size{}, none, false, api.OK
}

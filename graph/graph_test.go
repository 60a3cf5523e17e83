package graph_test

import (
	"errors"
	"math"
	"slices"
	"testing"

	"broadside/api"
	"broadside/fault"
	"broadside/graph"
)

func of(n int, links ...[2]int) api.Graph { return api.Graph{Brokers: n, Links: links} }

// path is links that join n brokers in a row.
func path(n int) [][2]int {
	var l [][2]int
	for i := 1; i < n; i++ {
		l = append(l, [2]int{i - 1, i})
	}
	return l
}

// full is links that join each two of n brokers.
func full(n int) [][2]int {
	var l [][2]int
	for a := range n {
		for b := range a {
			l = append(l, [2]int{a, b})
		}
	}
	return l
}

// small is all graphs of few brokers, and up to that many links between those,
// and between such as aren't there.
func small(brokers, links int) []api.Graph {
	var l []api.Graph
	for n := -1; n <= brokers; n++ {
		lists := [][][2]int{nil}
		for from := 0; from < len(lists); from++ {
			l = append(l, of(n, lists[from]...))
			if len(lists[from]) == links {
				continue
			}
			for a := -1; a <= n; a++ {
				for b := -1; b <= n; b++ {
					lists = append(lists, append(slices.Clone(lists[from]), [2]int{a, b}))
				}
			}
		}
	}
	return l
}

// P6.1

// refused asks for a Fault of op graph and ErrGraph, at that place.
func refused(t *testing.T, g api.Graph, at int) {
	t.Helper()
	err := graph.Check(g)
	var f *fault.Fault
	if !errors.As(err, &f) || f.Op != "graph" || f.At != at || f.Err != error(api.ErrGraph) {
		t.Errorf("%v: %v, not at %d", g, err, at)
	}
	if fault.Kind(err) != api.ErrGraph || fault.Place(err) != at || !slices.Equal(fault.Trace(err), []string{"graph"}) {
		t.Errorf("%v: %v, %d, %v", g, fault.Kind(err), fault.Place(err), fault.Trace(err))
	}
}

func TestCheck(t *testing.T) {
	for i, g := range []api.Graph{
		of(1), {Brokers: 1, Links: [][2]int{}},
		of(2, [2]int{0, 1}), of(2, [2]int{1, 0}),
		of(3, [2]int{0, 1}, [2]int{1, 2}, [2]int{2, 0}), of(3, [2]int{2, 1}, [2]int{2, 0}),
		of(4, [2]int{2, 3}, [2]int{1, 2}, [2]int{0, 1}), of(4, [2]int{0, 3}, [2]int{1, 3}, [2]int{2, 3}),
		of(api.MaxBrokers, path(api.MaxBrokers)...),
		of(20, full(20)...), of(21, full(21)[:api.MaxLinks]...),
	} {
		if err := graph.Check(g); err != nil {
			t.Error(i, err)
		}
	}
}

func TestCheckCountsBrokers(t *testing.T) {
	for _, n := range []int{0, -1, math.MinInt, api.MaxBrokers + 1, 1000, math.MaxInt} {
		refused(t, of(n), -1)
		refused(t, of(n, path(api.MaxBrokers+1)...), -1)
		refused(t, of(n, [2]int{0, 0}), -1)
	}
}

func TestCheckCountsLinks(t *testing.T) {
	refused(t, of(21, full(21)[:api.MaxLinks+1]...), -1)
	refused(t, of(64, full(64)...), -1)
	// Such a list must repeat one, or lead elsewhere: but it is refused ahead of that.
	refused(t, of(2, make([][2]int, api.MaxLinks+1)...), -1)
	refused(t, of(2, make([][2]int, api.MaxLinks)...), 0)
	// The last of as many as there may be is looked at, too.
	refused(t, of(20, append(full(20), [2]int{0, 20})...), 190)
	most := full(21)[:api.MaxLinks]
	most[api.MaxLinks-1] = [2]int{1, 0}
	refused(t, of(21, most...), api.MaxLinks-1)
}

func TestCheckLooksAtEachLink(t *testing.T) {
	fine := path(5)
	for _, bad := range [][2]int{
		{0, 0}, {2, 2}, {4, 4}, {5, 5}, {-1, -1},
		{0, 5}, {5, 0}, {4, 5}, {-1, 0}, {0, -1}, {-1, 5}, {math.MinInt, 0}, {0, math.MaxInt}, {math.MaxInt, math.MinInt},
	} {
		for at := range len(fine) + 1 {
			refused(t, of(5, slices.Insert(slices.Clone(fine), at, bad)...), at)
			refused(t, of(5, slices.Insert(slices.Clone(fine), at, bad, bad)...), at)
			refused(t, of(5, append(slices.Clone(fine[:at]), bad)...), at)
		}
	}
	// The first one counts, whatever is wrong behind it.
	refused(t, of(3, [2]int{0, 1}, [2]int{2, 2}, [2]int{9, 9}, [2]int{1, 0}), 1)
	refused(t, of(3, [2]int{0, 1}, [2]int{9, 9}, [2]int{2, 2}, [2]int{1, 0}), 1)
	refused(t, of(3, [2]int{0, 1}, [2]int{1, 0}, [2]int{2, 2}, [2]int{9, 9}), 1)
}

func TestCheckWantsEachLinkOnce(t *testing.T) {
	fine := path(5)
	for i, l := range fine {
		for at := i + 1; at <= len(fine); at++ {
			refused(t, of(5, slices.Insert(slices.Clone(fine), at, l)...), at)
			refused(t, of(5, slices.Insert(slices.Clone(fine), at, [2]int{l[1], l[0]})...), at)
		}
	}
	// Links that share a broker, or the one's first and the other's second, are unlike.
	if err := graph.Check(of(4, [2]int{0, 1}, [2]int{2, 0}, [2]int{0, 3}, [2]int{1, 2}, [2]int{3, 1})); err != nil {
		t.Error(err)
	}
}

func TestCheckWantsAllReached(t *testing.T) {
	refused(t, of(2), -1)
	refused(t, of(4, [2]int{0, 1}, [2]int{2, 3}), -1)
	refused(t, of(4, [2]int{1, 2}, [2]int{2, 3}, [2]int{3, 1}), -1)
	all := path(api.MaxBrokers)
	for i := range all {
		refused(t, of(api.MaxBrokers, slices.Delete(slices.Clone(all), i, i+1)...), -1)
	}
	// A link that may not be counts ahead of that.
	refused(t, of(4, [2]int{2, 3}, [2]int{3, 2}), 1)
}

// linked is for each broker which ones a link joins it with.
func linked(g api.Graph) [][]bool {
	var rows [][]bool
	for range g.Brokers {
		rows = append(rows, make([]bool, g.Brokers))
	}
	for _, l := range g.Links {
		if min(l[0], l[1]) >= 0 && max(l[0], l[1]) < g.Brokers {
			rows[l[0]][l[1]], rows[l[1]][l[0]] = true, true
		}
	}
	return rows
}

// far is how far each broker is from each: 99, if there is no way.
func far(g api.Graph) [][]int {
	var rows [][]int
	for a, row := range linked(g) {
		rows = append(rows, nil)
		for b, there := range row {
			n := 99
			if there {
				n = 1
			}
			if a == b {
				n = 0
			}
			rows[a] = append(rows[a], n)
		}
	}
	for by := range rows {
		for a := range rows {
			for b := range rows {
				rows[a][b] = min(rows[a][b], rows[a][by]+rows[by][b])
			}
		}
	}
	return rows
}

// judge is what Check must say: at which place g is wrong, if it is.
func judge(g api.Graph) (at int, ok bool) {
	if g.Brokers < 1 {
		return -1, false
	}
	once := linked(of(g.Brokers))
	for i, l := range g.Links {
		low, high := min(l[0], l[1]), max(l[0], l[1])
		if low < 0 || high >= g.Brokers || low == high || once[low][high] {
			return i, false
		}
		once[low][high] = true
	}
	return -1, !slices.Contains(far(g)[0], 99)
}

func TestCheckOfSmallGraphs(t *testing.T) {
	right := 0
	for _, g := range append(small(4, 2), small(3, 3)...) {
		at, ok := judge(g)
		if !ok {
			refused(t, g, at)
		} else if err := graph.Check(g); err != nil {
			t.Error(g, err)
		} else {
			right++
		}
	}
	if right < 50 {
		t.Error(right)
	}
}

// P6.2

func TestNear(t *testing.T) {
	g := of(6, [2]int{5, 1}, [2]int{0, 1}, [2]int{1, 4}, [2]int{4, 0}, [2]int{2, 1})
	for b, want := range [][]int{{1, 4}, {0, 2, 4, 5}, {1}, nil, {0, 1}, {1}} {
		if got := graph.Near(g, b); !slices.Equal(got, want) {
			t.Error(b, got)
		}
	}
	for _, b := range []int{6, -1, math.MinInt, math.MaxInt} {
		if got := graph.Near(g, b); len(got) != 0 {
			t.Error(b, got)
		}
	}
	// One that is no broker has none near, and is near none, though a link tells of it.
	g = of(2, [2]int{0, 1}, [2]int{1, 2}, [2]int{-1, 0}, [2]int{2, -1})
	for b, want := range map[int][]int{-1: nil, 0: {1}, 1: {0}, 2: nil} {
		if got := graph.Near(g, b); !slices.Equal(got, want) {
			t.Error(b, got)
		}
	}
}

func TestFar(t *testing.T) {
	ring := of(6, [2]int{0, 1}, [2]int{1, 2}, [2]int{2, 3}, [2]int{3, 4}, [2]int{4, 5}, [2]int{5, 0})
	for b, want := range []int{0, 1, 2, 3, 2, 1} {
		if got := graph.Far(ring, 0, b); got != want {
			t.Error(b, got)
		}
	}
	row := of(api.MaxBrokers, path(api.MaxBrokers)...)
	if graph.Far(row, 0, 63) != 63 || graph.Far(row, 63, 0) != 63 || graph.Far(row, 9, 30) != 21 {
		t.Error("a row")
	}
	apart := of(5, [2]int{0, 1}, [2]int{2, 3})
	for i, q := range [][3]int{{0, 2, -1}, {3, 1, -1}, {4, 0, -1}, {4, 4, 0}, {0, 5, -1}, {5, 0, -1}, {5, 5, -1}, {-1, -1, -1}, {-1, 0, -1}, {2, 3, 1}} {
		if got := graph.Far(apart, q[0], q[1]); got != q[2] {
			t.Error(i, got)
		}
	}
	// No way leads by what is no broker.
	if got := graph.Far(of(2, [2]int{0, 2}, [2]int{2, 1}), 0, 1); got != -1 {
		t.Error(got)
	}
}

// Of each graph, be it right or not, all is told of the brokers that there are.
func TestSmallGraphs(t *testing.T) {
	for _, g := range append(small(4, 2), small(3, 3)...) {
		told(t, g)
	}
	told(t, of(21, full(21)...))
	told(t, of(12, append(path(12), [2]int{11, 0}, [2]int{5, 0}, [2]int{3, 9})...))
}

// told holds what is said of g against what must be said.
func told(t *testing.T, g api.Graph) {
	t.Helper()
	rows, steps := linked(g), far(g)
	var ways [][2]int
	for a := -2; a <= g.Brokers+1; a++ {
		var near []int
		for b := -2; b <= g.Brokers+1; b++ {
			there := min(a, b) >= 0 && max(a, b) < g.Brokers
			is := there && rows[a][b]
			if is {
				near, ways = append(near, b), append(ways, [2]int{a, b})
			}
			if graph.Linked(g, a, b) != is {
				t.Errorf("%v: Linked of %d and %d is not %v", g, a, b, is)
			}
			n := -1
			if there && steps[a][b] < 99 {
				n = steps[a][b]
			}
			if got := graph.Far(g, a, b); got != n {
				t.Errorf("%v: from %d to %d is %d, not %d", g, a, b, got, n)
			}
		}
		if got := graph.Near(g, a); !slices.Equal(got, near) {
			t.Errorf("%v: near %d are %v, not %v", g, a, got, near)
		}
	}
	if got := graph.Ways(g); !slices.Equal(got, ways) {
		t.Errorf("%v: ways are %v, not %v", g, got, ways)
	}
}

// The chapter's runs.
func TestRuns(t *testing.T) {
	links := [][2]int{{0, 1}, {1, 2}, {2, 0}}
	g := of(3, links...)
	if err := graph.Check(g); err != nil {
		t.Error(err)
	}
	if got := graph.Near(g, 1); !slices.Equal(got, []int{0, 2}) {
		t.Error(got)
	}
	if got := graph.Ways(g); !slices.Equal(got, [][2]int{{0, 1}, {0, 2}, {1, 0}, {1, 2}, {2, 0}, {2, 1}}) {
		t.Error(got)
	}
	refused(t, of(4, links...), -1)
}

// R2, R5: what is handed in isn't changed, and its spare room isn't read.
func TestWhatIsHandedInStays(t *testing.T) {
	room := [][2]int{{3, 1}, {1, 0}, {2, 1}, {0, 2}, {3, 3}, {9, 9}, {3, 0}}
	was := slices.Clone(room)
	g := of(4, room[:3]...)
	if err := graph.Check(g); err != nil {
		t.Error(err)
	}
	if got := graph.Near(g, 0); !slices.Equal(got, []int{1}) {
		t.Error(got)
	}
	if got := graph.Ways(g); !slices.Equal(got, [][2]int{{0, 1}, {1, 0}, {1, 2}, {1, 3}, {2, 1}, {3, 1}}) {
		t.Error(got)
	}
	if graph.Linked(g, 0, 2) || graph.Far(g, 0, 2) != 2 || graph.Far(g, 3, 0) != 2 {
		t.Error("spare room is read")
	}
	if !slices.Equal(room, was) {
		t.Error(room)
	}
}

// R2: an answer is new memory, its spare room too.
func TestAnswersAreNew(t *testing.T) {
	g := of(4, [2]int{0, 1}, [2]int{0, 2}, [2]int{0, 3})
	near, ways := graph.Near(g, 0), graph.Ways(g)
	for i := range near[:cap(near)] {
		near[:cap(near)][i] = 7
	}
	for i := range ways[:cap(ways)] {
		ways[:cap(ways)][i] = [2]int{7, 7}
	}
	if !slices.Equal(graph.Near(g, 0), []int{1, 2, 3}) || len(graph.Ways(g)) != 6 || graph.Ways(g)[0] != [2]int{0, 1} {
		t.Error(graph.Near(g, 0), graph.Ways(g))
	}
	if !slices.Equal(g.Links, [][2]int{{0, 1}, {0, 2}, {0, 3}}) {
		t.Error(g)
	}
}

// R1: whatever is given, every call ends, and none panics.
func TestOfWhateverEnds(t *testing.T) {
	odd := []int{math.MinInt, math.MinInt + 1, -1, 0, 1, 2, api.MaxBrokers, math.MaxInt - 1, math.MaxInt}
	var links [][2]int
	for _, a := range odd {
		for _, b := range odd {
			links = append(links, [2]int{a, b})
		}
	}
	for _, n := range odd {
		for _, g := range []api.Graph{{}, of(n), of(n, links...)} {
			graph.Check(g)
			graph.Ways(g)
			for _, a := range odd {
				graph.Near(g, a)
				for _, b := range odd {
					if graph.Linked(g, a, b) != slices.Contains(graph.Near(g, a), b) || graph.Linked(g, a, b) && graph.Far(g, a, b) > 1 {
						t.Error(n, a, b)
					}
				}
			}
		}
	}
}

func TestLongLists(t *testing.T) {
	const long = 1 << 16
	g := of(long, path(long)...)
	refused(t, g, -1)
	if len(graph.Ways(g)) != 2*(long-1) || graph.Far(g, 0, long-1) != long-1 || !graph.Linked(g, 7, 6) {
		t.Error("a long row")
	}
	same := of(2, make([][2]int, long)...)
	for i := range same.Links {
		same.Links[i] = [2]int{i % 2, 1 - i%2}
	}
	refused(t, same, -1)
	if got := graph.Near(same, 0); !slices.Equal(got, []int{1}) {
		t.Error(got)
	}
	if got := graph.Ways(same); !slices.Equal(got, [][2]int{{0, 1}, {1, 0}}) {
		t.Error(got)
	}
	if got := graph.Far(same, 1, 0); got != 1 {
		t.Error(got)
	}
}

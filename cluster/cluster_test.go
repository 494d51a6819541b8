package cluster_test

import (
	"fmt"
	"math"
	"slices"
	"strconv"
	"strings"
	"testing"

	"signalman/api"
	"signalman/class"
	"signalman/cluster"
	"signalman/node"
	"signalman/plan"
)

const get = "select v from kv where k = 'a'"

func put(value string) string { return "insert into kv values ('a', '" + value + "')" }

// kind tells the class of the statements that are run here; of a Write the value that it puts.
func kind(text string) (int, string) {
	if rest, is := strings.CutPrefix(text, "insert into kv values ('a', '"); is {
		return class.Write, strings.TrimSuffix(rest, "')")
	}
	switch text {
	case get:
		return class.Read, ""
	case "begin":
		return class.Begin, ""
	case "commit":
		return class.Commit, ""
	case "rollback":
		return class.Rollback, ""
	case "set x = 1":
		return class.Set, ""
	case "'":
		return class.Bad, ""
	}
	return class.Unknown, ""
}

// statements are some of each class.
func statements() []string {
	return []string{get, "begin", "commit", "rollback", "set x = 1", "'", "p", "q", put("1"), put("2")}
}

// What these tests know by heart is what is said of the statements.
func TestStatements(t *testing.T) {
	c := class.New()
	seen := map[int]bool{}
	for _, text := range statements() {
		is, value := kind(text)
		if p := plan.Of(text); c.Class(text) != is || p.Value != value || (p.Do == plan.Put) != (is == class.Write) || (p.Do == plan.Get) != (is == class.Read) {
			t.Errorf("%q: %d, %v", text, c.Class(text), p)
		}
		seen[is] = true
	}
	if len(seen) != 8 {
		t.Errorf("%d classes", len(seen))
	}
}

func made(t *testing.T, nodes int) *cluster.Cluster {
	t.Helper()
	c, e := cluster.New(nodes)
	if c == nil || e != api.OK {
		t.Fatalf("New(%d): %d", nodes, e)
	}
	return c
}

// behind is a cluster behind some acts: 0:p lets node 0 write p as it thinks, P1 promotes node 1, C1 copies all into it, and C1,2 up to 2.
func behind(t *testing.T, nodes int, acts string) *cluster.Cluster {
	t.Helper()
	c := made(t, nodes)
	do(t, c, acts)
	return c
}

func do(t *testing.T, c *cluster.Cluster, acts string) {
	t.Helper()
	for _, act := range strings.Fields(acts) {
		switch act[0] {
		case 'P':
			if _, e := c.Promote(number(act[1:])); e != api.OK {
				t.Fatalf("%s: %d", act, e)
			}
		case 'C':
			n, limit, parts := strings.Cut(act[1:], ",")
			if !parts {
				limit = strconv.Itoa(math.MaxInt)
			}
			c.Copy(number(n), number(limit))
		default:
			n, text, _ := strings.Cut(act, ":")
			now(t, c, number(n), 1, text)
		}
	}
}

// now runs texts on a node, as it thinks, each of which is taken.
func now(t *testing.T, c *cluster.Cluster, n, conn int, texts ...string) {
	t.Helper()
	for _, text := range texts {
		if r := c.Run(n, conn, c.Epoch(n), false, text); r.Err != api.OK {
			t.Fatalf("%q on %d: %v", text, n, r)
		}
	}
}

func number(text string) int {
	n, err := strconv.Atoi(text)
	if err != nil {
		panic(text)
	}
	return n
}

// state is a cluster's newest promotion, and each node: its epoch, with L if it leads, else F, its log, and what connections read that others don't: "2 1 0, 1L 1:p, 2L 2:q 7=v".
func state(c *cluster.Cluster) string {
	p := c.Newest()
	s := fmt.Sprintf("%d %d %d", p.Epoch, p.Primary, p.Cut)
	for n := range c.Nodes() {
		leads := map[bool]string{true: "L", false: "F"}[c.Leads(n)]
		s += fmt.Sprintf(", %d%s", c.Epoch(n), leads)
		for _, e := range c.Log(n) {
			s += fmt.Sprintf(" %d:%s", e.Epoch, e.Text)
		}
		others := reads(c, n, 99)
		for _, conn := range []int{1, 2, 7} {
			if v := reads(c, n, conn); v != others {
				s += fmt.Sprintf(" %d=%s", conn, v)
			}
		}
	}
	return s
}

func reads(c *cluster.Cluster, n, conn int) string {
	return strings.Join(c.Run(n, conn, c.Epoch(n), true, get).Texts, " ")
}

func checkState(t *testing.T, c *cluster.Cluster, want string) {
	t.Helper()
	for range 2 {
		if s := state(c); s != want {
			t.Errorf("%s, not %s", s, want)
		}
	}
}

func sameReply(a, b node.Reply) bool {
	return a.Err == b.Err && a.Epoch == b.Epoch && a.Place == b.Place && slices.Equal(a.Texts, b.Texts)
}

// numbers are those at the edges of what an int may be, and such as are a small number by their last bits.
func numbers() []int {
	return []int{math.MinInt, math.MinInt + 1, -1 << 32, -1 << 31, -256, -2, -1, 256, 1<<31 - 1, 1 << 31, 1 << 32, 1<<32 + 1, math.MaxInt - 1, math.MaxInt}
}

// P16.1: of how many nodes a cluster may be.
func TestNew(t *testing.T) {
	for _, n := range append(numbers(), 0, api.MostNodes+1, api.MostNodes+2) {
		if c, e := cluster.New(n); c != nil || e != api.ErrArg {
			t.Errorf("New(%d): %v, %d", n, c, e)
		}
	}
	for n := 1; n <= api.MostNodes; n++ {
		c := made(t, n)
		if c.Nodes() != n || c.Newest() != (cluster.Promo{Epoch: 1, Primary: 0, Cut: 0}) {
			t.Errorf("New(%d): %d, %v", n, c.Nodes(), c.Newest())
		}
		checkState(t, c, "1 0 0, 1L"+strings.Repeat(", 1F", n-1))
		for i := range n {
			if c.Lag(i) != 0 || c.Copy(i, 9) != 0 || c.Close(i, 1) {
				t.Errorf("New(%d): of %d", n, i)
			}
		}
	}
}

// P16.1: Nodes and Newest, behind what happens; what Newest told stays as it was.
func TestNodesAndNewest(t *testing.T) {
	c := behind(t, 3, "0:p 0:q C2,1")
	first := c.Newest()
	do(t, c, "P2 C1 2:x P1")
	if c.Nodes() != 3 || first != (cluster.Promo{Epoch: 1}) || c.Newest() != (cluster.Promo{Epoch: 3, Primary: 1, Cut: 1}) {
		t.Errorf("%d, %v, %v", c.Nodes(), first, c.Newest())
	}
}

// P16.2, P16.3: of a node that there is not nothing is told, and nothing is changed, of a new cluster and of one that has seen some acts.
func TestNoSuchNode(t *testing.T) {
	for nodes := 1; nodes <= api.MostNodes; nodes++ {
		fresh, used := made(t, nodes), behind(t, nodes, "0:p 0:q")
		if nodes > 1 {
			do(t, used, "C1,1 P1 1:r")
		}
		now(t, used, 0, 1, "begin", put("1"))
		for _, c := range []*cluster.Cluster{fresh, used} {
			was := state(c)
			for _, n := range append(numbers(), nodes, nodes+1, nodes+6) {
				checkNone(t, c, n)
			}
			checkState(t, c, was)
		}
		if !used.Close(0, 1) {
			t.Error("the transaction")
		}
	}
}

func checkNone(t *testing.T, c *cluster.Cluster, n int) {
	t.Helper()
	for _, text := range append(statements(), "", strings.Repeat("a", api.MostText+1)) {
		for epoch := range uint64(4) {
			for _, reads := range []bool{false, true} {
				if r := c.Run(n, 1, epoch, reads, text); !sameReply(r, node.Reply{Err: api.ErrName}) {
					t.Errorf("Run of %d, %d, %v, %q: %v", n, epoch, reads, text, r)
				}
			}
		}
	}
	if c.Close(n, 1) || c.Close(n, 0) || c.Leads(n) || c.Epoch(n) != 0 || len(c.Log(n)) != 0 || c.Lag(n) != 0 {
		t.Errorf("of %d: %d, %v, %d", n, c.Epoch(n), c.Log(n), c.Lag(n))
	}
	for _, limit := range append(numbers(), 0, 1, 2) {
		if c.Copy(n, limit) != 0 {
			t.Errorf("Copy into %d", n)
		}
	}
	if p, e := c.Promote(n); p != (cluster.Promo{}) || e != api.ErrName {
		t.Errorf("Promote(%d): %v, %d", n, p, e)
	}
}

// P16.1, P16.3: the document's example, and the names of what is told.
func TestExample(t *testing.T) {
	c := behind(t, 2, "0:p")
	p, e := c.Promote(1)
	if p.Epoch != 2 || p.Primary != 1 || p.Cut != 0 || e != api.OK || c.Newest() != p {
		t.Errorf("%v, %d", p, e)
	}
}

// P16.3: which promotion a Promote is, or its error; Newest tells it from then on, and behind an error nothing is changed.
func TestPromote(t *testing.T) {
	for _, r := range []struct {
		nodes int
		acts  string
		n     int
		want  cluster.Promo
		e     api.Errno
		then  string
	}{
		{1, "", 0, cluster.Promo{}, api.ErrState, "1 0 0, 1L"},
		{1, "0:p", 0, cluster.Promo{}, api.ErrState, "1 0 0, 1L 1:p"},
		{1, "0:p", 1, cluster.Promo{}, api.ErrName, "1 0 0, 1L 1:p"},
		{2, "0:p", 0, cluster.Promo{}, api.ErrState, "1 0 0, 1L 1:p, 1F"},
		{2, "0:p", 2, cluster.Promo{}, api.ErrName, "1 0 0, 1L 1:p, 1F"},
		{2, "0:p", -1, cluster.Promo{}, api.ErrName, "1 0 0, 1L 1:p, 1F"},
		{2, "", 1, cluster.Promo{Epoch: 2, Primary: 1}, api.OK, "2 1 0, 1L, 2L"},
		{2, "0:p", 1, cluster.Promo{Epoch: 2, Primary: 1}, api.OK, "2 1 0, 1L 1:p, 2L"},
		{2, "0:p C1", 1, cluster.Promo{Epoch: 2, Primary: 1, Cut: 1}, api.OK, "2 1 1, 1L 1:p, 2L 1:p"},
		{2, "0:p C1 P1", 1, cluster.Promo{}, api.ErrState, "2 1 1, 1L 1:p, 2L 1:p"},
		{2, "0:p C1 P1", 2, cluster.Promo{}, api.ErrName, "2 1 1, 1L 1:p, 2L 1:p"},
		{2, "0:p C1 P1", 0, cluster.Promo{Epoch: 3, Primary: 0, Cut: 1}, api.OK, "3 0 1, 3L 1:p, 2L 1:p"},
		{2, "0:p C1 P1 C0", 0, cluster.Promo{Epoch: 3, Primary: 0, Cut: 1}, api.OK, "3 0 1, 3L 1:p, 2L 1:p"},
		{3, "0:p 0:q C1 C2,1 P1", 2, cluster.Promo{Epoch: 3, Primary: 2, Cut: 1}, api.OK, "3 2 1, 1L 1:p 1:q, 2L 1:p 1:q, 3L 1:p"},
		{3, "0:p 0:q C1 C2,1 P1 C2", 2, cluster.Promo{Epoch: 3, Primary: 2, Cut: 2}, api.OK, "3 2 2, 1L 1:p 1:q, 2L 1:p 1:q, 3L 1:p 1:q"},
		{3, "P1 P2 1:x", 2, cluster.Promo{}, api.ErrState, "3 2 0, 1L, 2L 2:x, 3L"},
		{3, "P1 P2 1:x", 1, cluster.Promo{Epoch: 4, Primary: 1}, api.OK, "4 1 0, 1L, 4L 2:x, 3L"},
		{6, "0:p", 5, cluster.Promo{Epoch: 2, Primary: 5}, api.OK, "2 5 0, 1L 1:p, 1F, 1F, 1F, 1F, 2L"},
		{6, "0:p P5", 6, cluster.Promo{}, api.ErrName, "2 5 0, 1L 1:p, 1F, 1F, 1F, 1F, 2L"},
	} {
		c := behind(t, r.nodes, r.acts)
		if p, e := c.Promote(r.n); p != r.want || e != r.e {
			t.Errorf("%s: Promote(%d): %v, %d", r.acts, r.n, p, e)
		}
		if r.e == api.OK && c.Newest() != r.want {
			t.Errorf("%s: Newest behind Promote(%d): %v", r.acts, r.n, c.Newest())
		}
		checkState(t, c, r.then)
	}
}

// P16.3: the cut is how many entries the new primary's log, and that of the primary ahead of it, begin with alike: entries, not texts.
func TestCut(t *testing.T) {
	for _, r := range []struct {
		what, acts string
		n          int
		cut        uint64
	}{
		{"both empty", "", 1, 0},
		{"both empty, of a later epoch", "P1 C0 C2", 2, 0},
		{"it lacks all", "0:p 0:q 0:r", 1, 0},
		{"it lacks all, as nothing was copied", "0:p 0:q 0:r C1,0 C2,-1", 1, 0},
		{"it lacks some", "0:p 0:q 0:r C1,1", 1, 1},
		{"it lacks one", "0:p 0:q 0:r C1,2", 1, 2},
		{"it lacks none", "0:p 0:q 0:r C1", 1, 3},
		{"it lacks none, but another one does", "0:p 0:q 0:r C1 C2,1", 1, 3},
		{"the same text thrice", "0:p 0:p 0:p C1,2", 1, 2},
		{"it wrote what was cut", "0:p 0:q C1,1 P1", 0, 1},
		{"it wrote what was cut, and the other one wrote too", "0:p 0:q C1,1 P1 1:x", 0, 1},
		{"it wrote what was cut, and the other one wrote more", "0:p 0:q C1,1 P1 1:x 1:y 1:z", 0, 1},
		{"it wrote all that was cut", "0:p 0:q P1 1:x", 0, 0},
		{"it wrote on when it was replaced", "0:p C1 P1 0:q 0:r", 0, 1},
		{"it wrote on when it was replaced, as the other one did", "0:p C1 P1 0:q 1:q", 0, 1},
		{"what it wrote was cut, and it copied since", "0:p 0:q C1,1 P1 1:x C0", 0, 2},
		{"what it wrote was cut, and it copied a part since", "0:p 0:q C1,1 P1 1:x 1:y C0,1", 0, 2},
		{"what it wrote was cut, and it copied nothing since", "0:p 0:q C1,1 P1 1:x 1:y C0,0", 0, 1},
		{"the same text in another epoch", "0:p P1 1:p", 0, 0},
		{"the same texts in another epoch", "0:p C1 0:q 0:r P1 1:q 1:r", 0, 1},
		{"the same texts in two epochs", "0:p 0:q C1,1 P1 1:q C2 P2 2:q", 0, 1},
		{"the same texts in two epochs, the last one of them", "0:p 0:q C1,1 P1 1:q C2 P2 2:q", 1, 2},
		{"the first primary isn't the one ahead", "0:p 0:q C2 P1", 2, 0},
		{"the first primary lacks what the one ahead has", "0:p C1 P1 1:x C2", 2, 2},
		{"of an older epoch, the one ahead has all of it", "0:p 0:q C1 C2,1 P1 1:x", 2, 1},
		{"of an older epoch, with what the first one wrote since", "0:p C1 P1 0:q P2", 0, 0},
		{"it led before, and all is there", "0:p C1 P1 C0 P0 0:x C1", 1, 2},
	} {
		c := behind(t, 3, r.acts)
		epoch, log := c.Newest().Epoch, c.Log(r.n)
		if p, e := c.Promote(r.n); p != (cluster.Promo{Epoch: epoch + 1, Primary: r.n, Cut: r.cut}) || e != api.OK {
			t.Errorf("%s: %v, %d", r.what, p, e)
		}
		if !slices.Equal(c.Log(r.n), log) || !c.Leads(r.n) {
			t.Errorf("%s: %s", r.what, state(c))
		}
	}
}

// P16.3: promotions one behind another, with nothing copied between; each is told by what was written.
func TestPromotionsInARow(t *testing.T) {
	c := behind(t, 3, "0:p 0:q 0:r C1,2 C2,1")
	for _, r := range []struct {
		n    int
		cut  uint64
		then string
	}{
		{1, 2, "2 1 2, 1L 1:p 1:q 1:r, 2L 1:p 1:q, 1F 1:p"},
		{2, 1, "3 2 1, 1L 1:p 1:q 1:r, 2L 1:p 1:q, 3L 1:p"},
		{1, 1, "4 1 1, 1L 1:p 1:q 1:r, 4L 1:p 1:q, 3L 1:p"},
		{0, 2, "5 0 2, 5L 1:p 1:q 1:r, 4L 1:p 1:q, 3L 1:p"},
		{2, 1, "6 2 1, 5L 1:p 1:q 1:r, 4L 1:p 1:q, 6L 1:p"},
	} {
		if p, e := c.Promote(r.n); p.Cut != r.cut || e != api.OK {
			t.Errorf("Promote(%d): %v, %d", r.n, p, e)
		}
		checkState(t, c, r.then)
	}
}

// P16.3: there and back between two nodes, both of which write all the while and copy nothing.
func TestThereAndBack(t *testing.T) {
	c := behind(t, 2, "0:p 0:q 0:r C1,2")
	for i := range uint64(40) {
		n := 1 - int(i%2)
		want := cluster.Promo{Epoch: i + 2, Primary: n, Cut: 2}
		if p, e := c.Promote(n); p != want || e != api.OK || c.Newest() != want {
			t.Fatalf("%v, %d, not %v", p, e, want)
		}
		do(t, c, "0:x 1:x")
		if !c.Leads(0) || !c.Leads(1) || c.Epoch(1-n) != i+1 || c.Lag(1-n) != uint64(len(c.Log(n))) {
			t.Fatalf("%s", state(c))
		}
	}
	do(t, c, "C1")
	checkState(t, c, strings.Replace("41 0 2, 41L LOG, 41F LOG", "LOG", texts(c.Log(0)), 2))
}

// texts are entries as a state has them.
func texts(l []node.Entry) string {
	var s []string
	for _, e := range l {
		s = append(s, fmt.Sprintf("%d:%s", e.Epoch, e.Text))
	}
	return strings.Join(s, " ")
}

// P16.3: around all six, twice; each writes one entry when it leads, and the next one copies it, or not.
func TestAroundAllSix(t *testing.T) {
	for _, copies := range []bool{false, true} {
		c := behind(t, 6, "0:p C1 C2 C3 C4 C5 0:q")
		for i := 1; i <= 12; i++ {
			n, cut := i%6, uint64(1)
			if copies {
				c.Copy(n, 99)
				cut = uint64(i + 1)
			}
			want := cluster.Promo{Epoch: uint64(i + 1), Primary: n, Cut: cut}
			if p, e := c.Promote(n); p != want || e != api.OK {
				t.Errorf("%v, %d, not %v", p, e, want)
			}
			now(t, c, n, 1, "x")
		}
		if n := len(c.Log(0)); copies && n != 14 || !copies && n != 4 {
			t.Errorf("%v", c.Log(0))
		}
	}
}

// P16.2: Run is the node's: it is held against the epoch that the node thinks, though a newer one has begun.
func TestRun(t *testing.T) {
	const replaced = "0:p 0:q C1,1 C2 P1 1:x"
	for _, r := range []struct {
		n     int
		epoch uint64
		reads bool
		text  string
		want  node.Reply
	}{
		{0, 0, false, "r", node.Reply{Err: api.ErrStale, Epoch: 1, Place: 2}},
		{0, 1, false, "r", node.Reply{Epoch: 1, Place: 3}},
		{0, 1, false, "set x = 1", node.Reply{Epoch: 1, Place: 2}},
		{0, 1, false, "commit", node.Reply{Err: api.ErrState, Epoch: 1, Place: 2}},
		{0, 1, false, "'", node.Reply{Err: api.ErrForm, Epoch: 1, Place: 2}},
		{0, 1, true, "r", node.Reply{Err: api.ErrForm, Epoch: 1, Place: 2}},
		{0, 1, true, get, node.Reply{Epoch: 1, Place: 2}},
		{0, 2, false, "r", node.Reply{Err: api.ErrStale, Epoch: 1, Place: 2}},
		{0, 2, true, get, node.Reply{Err: api.ErrStale, Epoch: 1, Place: 2}},
		{0, 3, false, "r", node.Reply{Err: api.ErrStale, Epoch: 1, Place: 2}},
		{1, 0, false, "r", node.Reply{Err: api.ErrStale, Epoch: 2, Place: 2}},
		{1, 1, false, "r", node.Reply{Err: api.ErrStale, Epoch: 2, Place: 2}},
		{1, 1, true, get, node.Reply{Err: api.ErrStale, Epoch: 2, Place: 2}},
		{1, 2, false, "r", node.Reply{Epoch: 2, Place: 3}},
		{1, 2, false, put("v"), node.Reply{Epoch: 2, Place: 3}},
		{1, 2, true, put("v"), node.Reply{Err: api.ErrForm, Epoch: 2, Place: 2}},
		{1, 3, false, "r", node.Reply{Err: api.ErrStale, Epoch: 2, Place: 2}},
		{1, math.MaxUint64, false, "r", node.Reply{Err: api.ErrStale, Epoch: 2, Place: 2}},
		{2, 1, false, "r", node.Reply{Err: api.ErrState, Epoch: 1, Place: 2}},
		{2, 1, false, get, node.Reply{Err: api.ErrState, Epoch: 1, Place: 2}},
		{2, 1, true, get, node.Reply{Epoch: 1, Place: 2}},
		{2, 2, false, "r", node.Reply{Err: api.ErrStale, Epoch: 1, Place: 2}},
		{2, 2, true, get, node.Reply{Err: api.ErrStale, Epoch: 1, Place: 2}},
	} {
		for _, conn := range append(numbers(), 0, 1) {
			c := behind(t, 3, replaced)
			was := []string{"1L 1:p 1:q", "2L 1:p 2:x", "1F 1:p 1:q"}
			if got := c.Run(r.n, conn, r.epoch, r.reads, r.text); !sameReply(got, r.want) {
				t.Errorf("Run(%d, %d, %d, %v, %q): %v, not %v", r.n, conn, r.epoch, r.reads, r.text, got, r.want)
			}
			if r.want.Place == 3 {
				was[r.n] += fmt.Sprintf(" %d:%s", r.epoch, r.text)
			}
			checkState(t, c, "2 1 1, "+strings.Join(was, ", "))
		}
	}
}

// P16.2: what a read tells is what the log of the node that is asked comes to.
func TestRunReads(t *testing.T) {
	c := made(t, 3)
	now(t, c, 0, 1, put("1"))
	c.Copy(1, 1)
	now(t, c, 0, 1, put("2"))
	do(t, c, "P1")
	now(t, c, 1, 1, put("3"))
	c.Copy(2, 1)
	for n, want := range []string{"2", "3", "1"} {
		for conn := range 3 {
			r := c.Run(n, conn, c.Epoch(n), true, get)
			if !sameReply(r, node.Reply{Epoch: c.Epoch(n), Place: uint64(len(c.Log(n))), Texts: []string{want}}) {
				t.Errorf("%d: %v", n, r)
			}
		}
	}
}

// P16.2: Copy is of the newest primary, into another node, of its epoch or of an older one; one that was replaced leads no more, and its own entries are cut.
func TestCopy(t *testing.T) {
	for _, r := range []struct {
		acts     string
		n, limit int
		want     int
		then     string
	}{
		{"0:p 0:q", 0, 9, 0, "1 0 0, 1L 1:p 1:q, 1F, 1F"},
		{"0:p 0:q", 1, 9, 2, "1 0 0, 1L 1:p 1:q, 1F 1:p 1:q, 1F"},
		{"0:p 0:q", 2, 1, 1, "1 0 0, 1L 1:p 1:q, 1F, 1F 1:p"},
		{"0:p 0:q C2,1", 2, 9, 1, "1 0 0, 1L 1:p 1:q, 1F, 1F 1:p 1:q"},
		{"0:p 0:q C2", 2, 9, 0, "1 0 0, 1L 1:p 1:q, 1F, 1F 1:p 1:q"},
		{"0:p C1 P1 1:x", 1, 9, 0, "2 1 1, 1L 1:p, 2L 1:p 2:x, 1F"},
		{"0:p C1 P1 1:x", 0, 9, 1, "2 1 1, 2F 1:p 2:x, 2L 1:p 2:x, 1F"},
		{"0:p C1 P1 1:x", 2, 9, 2, "2 1 1, 1L 1:p, 2L 1:p 2:x, 2F 1:p 2:x"},
		{"0:p C1 P1 1:x", 2, 0, 0, "2 1 1, 1L 1:p, 2L 1:p 2:x, 2F"},
		{"0:p C1 0:q 0:r P1 1:x", 0, 9, 1, "2 1 1, 2F 1:p 2:x, 2L 1:p 2:x, 1F"},
		{"0:p C1 0:q 0:r P1 1:x", 0, 0, 0, "2 1 1, 2F 1:p, 2L 1:p 2:x, 1F"},
		{"0:p C1 0:q 0:r P1 1:x", 0, -1, 0, "2 1 1, 2F 1:p, 2L 1:p 2:x, 1F"},
		{"0:p C1 P1 0:q 1:q", 0, 1, 1, "2 1 1, 2F 1:p 2:q, 2L 1:p 2:q, 1F"},
		{"0:p C1 P1 0:q", 0, 9, 0, "2 1 1, 2F 1:p, 2L 1:p, 1F"},
		{"0:p P1", 0, 9, 0, "2 1 0, 2F, 2L, 1F"},
		{"0:p 0:q P1 1:p 1:q", 0, 9, 2, "2 1 0, 2F 2:p 2:q, 2L 2:p 2:q, 1F"},
		{"0:p 0:q P1 1:p 1:q", 0, 1, 1, "2 1 0, 2F 2:p, 2L 2:p 2:q, 1F"},
		{"0:p P1 1:x P2 2:y", 0, 9, 1, "3 2 0, 3F 3:y, 2L 2:x, 3L 3:y"},
		{"0:p P1 1:x P2 2:y", 1, 9, 1, "3 2 0, 1L 1:p, 3F 3:y, 3L 3:y"},
		{"0:p P1 1:x P2 2:y", 2, 9, 0, "3 2 0, 1L 1:p, 2L 2:x, 3L 3:y"},
		{"0:p P1 1:x P2 2:y P0", 1, 9, 1, "4 0 0, 4L 1:p, 4F 1:p, 3L 3:y"},
		{"0:p P1 1:x P2 2:y P0 C2,0 C1,0", 2, 9, 1, "4 0 0, 4L 1:p, 4F, 4F 1:p"},
	} {
		c := behind(t, 3, r.acts)
		if n := c.Copy(r.n, r.limit); n != r.want {
			t.Errorf("%s: Copy(%d, %d): %d", r.acts, r.n, r.limit, n)
		}
		checkState(t, c, r.then)
	}
}

// P16.2: as many entries are copied as there are next, up to most; below 0 none; and into the newest primary none ever.
func TestCopyMost(t *testing.T) {
	for common := range 4 {
		for own := range 3 {
			for next := range 5 {
				for _, limit := range append(numbers(), 0, 1, 2, 3, 4, 5, 199, 200, 201) {
					head := strings.Repeat("0:p ", common)
					c := behind(t, 3, head+"C1 P1 "+strings.Repeat("0:q ", own)+strings.Repeat("1:x ", next))
					want := max(0, min(next, limit))
					if n := c.Copy(0, limit); n != want {
						t.Errorf("%d, %d, %d: Copy of %d: %d", common, own, next, limit, n)
					}
					p, x := strings.Repeat(" 1:p", common), strings.Repeat(" 2:x", next)
					then := fmt.Sprintf("2 1 %d, 2F%s%s, 2L%s%s, 1F", common, p, strings.Repeat(" 2:x", want), p, x)
					checkState(t, c, then)
					if n := c.Copy(1, limit); n != 0 {
						t.Errorf("%d, %d: Copy of %d into the primary: %d", common, next, limit, n)
					}
					checkState(t, c, then)
				}
			}
		}
	}
}

// P16.2: what is copied in parts is what is copied at once.
func TestCopyInParts(t *testing.T) {
	for _, acts := range []string{"", "0:p 0:q 0:r", "0:p 0:q 0:r 0:s 0:t C1,3 C2,2 P1", "0:p C1 C2 P2 0:q 0:r 2:r 2:s 2:t C1,2 P1 1:u 1:v 1:w 2:x"} {
		for parts := 1; parts < 9; parts++ {
			once, c := behind(t, 3, acts), behind(t, 3, acts)
			for n := range 3 {
				count := once.Copy(n, math.MaxInt)
				for range 9 {
					k := c.Copy(n, parts)
					if k != min(count, parts) {
						t.Errorf("%s: Copy(%d, %d): %d", acts, n, parts, k)
					}
					count -= k
				}
			}
			checkState(t, c, state(once))
		}
	}
}

// P16.2: a Copy changes no other node than the one into which it copies, nor its transactions.
func TestCopyAlone(t *testing.T) {
	for to := range 4 {
		c := behind(t, 4, "0:p C1 C2 P1 1:x C2 0:q 1:y")
		for n := range 2 {
			now(t, c, n, 7, "begin", put("v"))
		}
		was := strings.Split(state(c), ", ")
		if was[1] != "1L 1:p 1:q 7=v" || was[2] != "2L 1:p 2:x 2:y 7=v" {
			t.Fatal(was)
		}
		c.Copy(to, 2)
		for i, s := range strings.Split(state(c), ", ") {
			if i != to+1 && s != was[i] {
				t.Errorf("Copy into %d: %s, not %s", to, s, was[i])
			}
		}
		if c.Close(0, 7) != (to != 0) || !c.Close(1, 7) {
			t.Errorf("Copy into %d: the transactions", to)
		}
	}
}

// P16.2: Lag tells what a node of the newest epoch lacks; of one of an older epoch it tells all that the newest primary has, however long the node's own log is.
func TestLag(t *testing.T) {
	for _, r := range []struct {
		acts string
		want []uint64
	}{
		{"", []uint64{0, 0, 0}},
		{"0:p 0:q 0:r", []uint64{0, 3, 3}},
		{"0:p 0:q 0:r C1,1 C2", []uint64{0, 2, 0}},
		{"0:p 0:q 0:r C1,1 C2 0:s", []uint64{0, 3, 1}},
		{"P1", []uint64{0, 0, 0}},
		{"0:p 0:q P1", []uint64{0, 0, 0}},
		{"0:p 0:q C2 P1 1:x", []uint64{1, 0, 1}},
		{"0:p 0:q C1 C2,1 P1", []uint64{2, 0, 2}},
		{"0:p 0:q C1 C2,1 P1 1:x", []uint64{3, 0, 3}},
		{"0:p 0:q C1 C2 P1 0:r", []uint64{2, 0, 2}},
		{"0:p 0:q C1 C2 P1 0:r 0:s 0:t 1:x", []uint64{3, 0, 3}},
		{"0:p 0:q C1 C2 P1 C0,0 C2", []uint64{0, 0, 0}},
		{"0:p 0:q C1 C2 P1 0:r 0:s 1:x C0,0 C2,0", []uint64{1, 0, 1}},
		{"0:p 0:q C1 C2 P1 0:r 0:s 1:x 1:y C0,1 C2", []uint64{1, 0, 0}},
		{"0:p 0:q P1 1:x 1:y C0,0 C2,0", []uint64{2, 0, 2}},
		{"0:p 0:q P1 1:x 1:y C0,1 C2 P2", []uint64{2, 2, 0}},
		{"0:p 0:q P1 1:x 1:y C0,1 C2 P2 C0,0 C1,0 2:z", []uint64{2, 1, 0}},
		{"0:p P1 1:x 1:y P0", []uint64{0, 1, 1}},
	} {
		c := behind(t, 3, r.acts)
		for range 2 {
			for n, want := range r.want {
				if lag := c.Lag(n); lag != want {
					t.Errorf("%s: Lag(%d): %d, not %d", r.acts, n, lag, want)
				}
			}
		}
	}
}

// P16.2: a connection's transaction on one node is none of the same connection's on another.
func TestCloseOneOfTwo(t *testing.T) {
	for _, conn := range append(numbers(), 0, 1) {
		c := behind(t, 3, "0:p C1 P1")
		if c.Close(0, conn) || c.Close(1, conn) || c.Close(2, conn) {
			t.Errorf("Close of %d, without one", conn)
		}
		now(t, c, 0, conn, "begin", put("1"))
		if c.Close(1, conn) || c.Close(2, conn) {
			t.Errorf("Close of %d, of node 0's", conn)
		}
		now(t, c, 1, conn, "begin", put("2"))
		if reads(c, 0, conn) != "1" || reads(c, 1, conn) != "2" {
			t.Errorf("%d: %s, %s", conn, reads(c, 0, conn), reads(c, 1, conn))
		}
		if !c.Close(0, conn) || c.Close(0, conn) || reads(c, 1, conn) != "2" {
			t.Errorf("Close(0, %d)", conn)
		}
		now(t, c, 1, conn, "commit")
		if c.Close(1, conn) {
			t.Errorf("Close(1, %d), behind a commit", conn)
		}
		checkState(t, c, "2 1 1, 1L 1:p, 2L 1:p 2:"+put("2")+", 1F")
	}
}

// P16.2, P16.3: transactions of a node are dropped when it is promoted, or comes to a later epoch by a Copy, and by nothing else that others do.
func TestDrops(t *testing.T) {
	for _, r := range []struct {
		acts  string
		drops bool
	}{
		{"", false}, {"P1", false}, {"P1 1:x P2", false}, {"C1 P1 C2", false}, {"0:q C0", false},
		{"P1 C0", true}, {"P1 C0,0", true}, {"P1 C0,-1", true}, {"P1 1:x C0,1", true}, {"P1 P0", true}, {"P1 P2 P0", true}, {"P1 C0 P0", true},
	} {
		c := behind(t, 3, "0:p C1")
		now(t, c, 0, 7, "begin", put("1"), put("2"))
		now(t, c, 0, 8, "begin")
		do(t, c, r.acts)
		before, want := c.Log(0), api.OK
		if r.drops {
			want = api.ErrState
		}
		if !c.Leads(0) {
			do(t, c, "P0")
		}
		if r := c.Run(0, 7, c.Epoch(0), false, "commit"); r.Err != want {
			t.Errorf("%v", r)
		}
		if c.Close(0, 8) == r.drops || c.Close(0, 7) {
			t.Errorf("%s: the empty transaction", r.acts)
		}
		if laid := len(c.Log(0)) - len(before); r.drops && laid != 0 || !r.drops && laid != 2 {
			t.Errorf("%s: %d laid", r.acts, laid)
		}
	}
}

// P16.2, P16.3: a Promote that is told an error, and a Copy into the newest primary, drop no transaction.
func TestErrorsDropNothing(t *testing.T) {
	c := behind(t, 2, "0:p C1 P1")
	now(t, c, 0, 7, "begin", put("1"))
	now(t, c, 1, 7, "begin", put("2"))
	was := state(c)
	for _, n := range []int{1, 2, -1} {
		if p, e := c.Promote(n); p != (cluster.Promo{}) || e == api.OK {
			t.Errorf("%v, %d", p, e)
		}
		c.Copy(1, 9)
		checkState(t, c, was)
	}
	if was != "2 1 1, 1L 1:p 7=1, 2L 1:p 7=2" || !c.Close(0, 7) || !c.Close(1, 7) {
		t.Error(was)
	}
}

// P16.2, P16.3: logs that are full, and nearly so.
func TestFull(t *testing.T) {
	c := made(t, 3)
	for i := range api.MostLog {
		if n := c.Lag(1); n != uint64(i) {
			t.Fatalf("%d, not %d", n, i)
		}
		now(t, c, 0, 1, "w"+strconv.Itoa(i))
	}
	if c.Lag(1) != api.MostLog || c.Copy(1, api.MostLog-1) != api.MostLog-1 || c.Lag(1) != 1 || c.Copy(2, math.MaxInt) != api.MostLog || c.Lag(2) != 0 {
		t.Errorf("%d, %d", c.Lag(1), c.Lag(2))
	}
	for i, want := range []cluster.Promo{{Epoch: 2, Primary: 2, Cut: 200}, {Epoch: 3, Primary: 1, Cut: 199}, {Epoch: 4, Primary: 0, Cut: 199}, {Epoch: 5, Primary: 2, Cut: 200}} {
		if p, e := c.Promote(want.Primary); p != want || e != api.OK {
			t.Errorf("%v, %d, not %v", p, e, want)
		}
		place, e := uint64(api.MostLog), api.ErrFull
		if want.Primary == 1 {
			e = api.OK
		}
		if r := c.Run(want.Primary, 1, uint64(i+2), false, "x"); !sameReply(r, node.Reply{Err: e, Epoch: uint64(i + 2), Place: place}) {
			t.Errorf("%v", r)
		}
	}
	if c.Copy(1, 9) != 1 || c.Lag(1) != 0 || !slices.Equal(c.Log(1), c.Log(2)) {
		t.Errorf("%d", c.Lag(1))
	}
}

// R3: a caller that changes what it was handed changes nothing of the cluster.
func TestHandedOut(t *testing.T) {
	c := made(t, 3)
	now(t, c, 0, 1, put("1"), "q")
	do(t, c, "C1 P1 1:x C2")
	now(t, c, 1, 7, "begin", put("2"))
	was := state(c)
	for n := range 3 {
		l := c.Log(n)
		l[0] = node.Entry{Epoch: 9, Text: "z"}
		_ = append(l[:0], l[0], l[0])
		for _, conn := range []int{1, 7} {
			texts := c.Run(n, conn, c.Epoch(n), true, get).Texts
			texts[0] = "z"
		}
		checkState(t, c, was)
	}
	if n := c.Newest(); n != (cluster.Promo{Epoch: 2, Primary: 1, Cut: 2}) || c.Lag(2) != 0 || c.Lag(0) != 3 {
		t.Errorf("%v", n)
	}
}

// R3: what a caller was handed stays as it was, whatever the cluster does later.
func TestHandedOutStays(t *testing.T) {
	for _, acts := range []string{"0:r", "1:r", "C0", "C0,0 P0 0:r", "P0 0:r C1,1", "P2 C0,0 C1,0 2:x 2:y C1 C0", "P2 2:x P0 0:y P1 1:z C0 C2"} {
		c := made(t, 3)
		now(t, c, 0, 1, put("1"), "q")
		do(t, c, "C1 C2,1 0:p P1 1:x")
		var logs, wasLogs [][]node.Entry
		var told, wasTold [][]string
		for n := range 3 {
			log, texts := c.Log(n), c.Run(n, 1, c.Epoch(n), true, get).Texts
			logs, wasLogs = append(logs, log), append(wasLogs, slices.Clone(log))
			told, wasTold = append(told, texts), append(wasTold, slices.Clone(texts))
		}
		do(t, c, acts)
		for n := range 3 {
			if !slices.Equal(logs[n], wasLogs[n]) || !slices.Equal(told[n], wasTold[n]) || len(told[n]) != 1 || len(logs[n]) == 0 {
				t.Errorf("%s: %d: %v, %v", acts, n, logs[n], told[n])
			}
		}
	}
}

// R3: the nodes' logs are apart, though one was copied from the other.
func TestLogsApart(t *testing.T) {
	for size := range 20 {
		c := behind(t, 3, strings.Repeat("0:p ", size)+"C1 C2 P1 0:q 1:x C2 P2 0:r 1:y 2:z")
		p := strings.Repeat(" 1:p", size)
		checkState(t, c, fmt.Sprintf("3 2 %d, 1L%s 1:q 1:r, 2L%s 2:x 2:y, 3L%s 2:x 3:z", size+1, p, p, p))
		do(t, c, "C0,1 C1,0 2:u P0 0:v 2:w")
		checkState(t, c, fmt.Sprintf("4 0 %d, 4L%s 2:x 4:v, 3F%s 2:x, 3L%s 2:x 3:z 3:u 3:w", size+1, p, p, p))
	}
}

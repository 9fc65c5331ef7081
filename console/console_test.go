package console_test

import (
	"slices"
	"strings"
	"testing"

	"nameplan/api"
	"nameplan/console"
	"nameplan/denial"
	"nameplan/history"
	"nameplan/lame"
	"nameplan/parser"
	"nameplan/run"
	"nameplan/sign"
	"nameplan/world"
)

const source = `
zone . { @ start life 10 1 5; @ server life 10 r; @ key life 10 1 1; r addr life 10 1; s addr life 10 2; u addr life 10 3;
	x server life 10 s; x anchor life 10 2 1; z server life 10 s; z anchor life 10 9 1; }
zone x { @ start life 10 1 5; @ server life 10 s; @ key life 10 2 1; w.x addr life 10 7; l.x alias life 10 w.x; *.x text life 10 "wild"; k.x alias life 10 m.x; m.x alias life 10 k.x; }
zone plain { @ start 1 5; @ server s; }
zone broken { @ start 1 5; }
zone twice { @ start 1 5; @ server s; @ key 1 1, 1 2; }
`

const start = "host r 1 0\nhost s 2 1\nhost u 3 2\nhint 1\nanchor 1 1\nend 200\ndrift 1\nserve 0 . 0 200\nserve 1 x 0 200\n"

func expect(t *testing.T, script, want string) {
	t.Helper()
	out, e, line := console.Run(source, script)
	if e != api.OK || line != 0 || out != want {
		t.Errorf("%q: %q %v %d", script, out, e, line)
	}
}

func fails(t *testing.T, script string, want api.Errno, at int) {
	t.Helper()
	if out, e, line := console.Run(source, script); e != want || line != at || out != "" {
		t.Errorf("%q: %q %v %d", script, out, e, line)
	}
}

// P45.1: the example of the document, and all commands.
func TestCommands(t *testing.T) {
	if out, e, line := console.Run("zone . { }", "zones"); out != "zones .\n" || e != api.OK || line != 0 {
		t.Error(out, e, line)
	}
	expect(t, "", "")
	expect(t, "zones", "zones . x plain broken twice\n")
	expect(t, start+"truth 5 l.x addr", "truth data l.x/alias w.x/addr\n")
	expect(t, start+"truth 5 q.x text", "truth wild *.x/text m.x/next\n")
	expect(t, start+"truth 5 z text", "truth dark\n")
	expect(t, start+"truth 5 k.x addr", "truth loop\n")
	expect(t, start+"truth 5 q addr", "truth noname ./start ./next\n")
	expect(t, start+"truth 5 x anchor\ntruth 5 r text", "truth data x/anchor\ntruth nodata ./start r/next\n")
	expect(t, start+"findings 5", "findings\n")
	expect(t, start+"serve 2 plain 0 200\nfindings 5", "findings sides:plain:plain\n")
	expect(t, start+"ask 5 w.x addr\nask 5 w.x addr\nask 5 q addr", "ask secure 5 w.x/addr\nask secure 0 w.x/addr\nask secure 1 ./next\n")
	expect(t, start+"prove 0 200", "prove accepted\n")
	expect(t, start+"protect w.x addr\nprove 1 200\nprove 0 200\nprotect q addr\nprove 5 200", "prove accepted\nprove window . 0 1\nprove data . 5 200\n")
	expect(t, start+"protect w.x addr\nplan 5 150 keys x 8 1\ncarry\njudge", "plan 5 16 27\ncarry 5\njudge none 0 0 0\n")
	expect(t, start+"protect w.x addr\nplan 5 150 move x 2\ncarry\njudge\ndeny 2\njudge", "plan 5 6 17\ncarry 6\njudge none 0 0 0\njudge operator 2 0 5\n")
	expect(t, start+"protect w.x addr\nplan 5 150 split x q.x 5 1 1\nplan 5 5 keys x 8 1\ncarry\njudge", "plan 5 6\nplan refused 1\ncarry 2\njudge plan 0 0 0\n")
	expect(t, start+"plan 5 150 addr x w.x 2\ncarry\ntruth 4 w.x addr\nask 6 w.x addr\njudge", "plan 5\ncarry 3\ntruth data w.x/addr\nask secure 5 w.x/addr\njudge none 0 0 0\n")
}

// P45.1: errors, and the lines that have them.
func TestErrors(t *testing.T) {
	fails(t, "end 0\nprove 0 0", api.ErrArg, 2)
	for _, line := range []string{"hint 01", "hint", "hint 1 2", "hint 123456789", "hint -1", "hint a", "host r 1", "anchor 1", "end", "end x", "drift", "serve 0 x 1", "protect x", "protect x addrs", "protect x 1", "zones x", "truth 1 x", "truth x x addr", "findings", "ask 5 x", "prove 1", "plan 5 6", "plan 5 6 keys x 1", "plan 5 6 move x", "plan 5 6 move", "plan 5 6 move x y", "plan 5 6 addr x y", "plan 5 6 split x y 1 1", "plan 5 6 turn x", "plan 5 x keys x 1 1", "carry 1", "deny", "judge x", "Host r 1 0", "\tzones", "zones\t"} {
		fails(t, "\n"+line, api.ErrSyntax, 2)
	}
	fails(t, strings.Repeat("hint 1\n", 9), api.ErrFull, 9)
	fails(t, strings.Repeat("host r 1 0\n", 65), api.ErrFull, 65)
	fails(t, strings.Repeat("protect x addr\n", 51), api.ErrFull, 51)
	fails(t, "anchor 1 1\nanchor 1 1", api.ErrTwice, 2)
	fails(t, "anchor 8 1\nanchor 7 1\nanchor 6 1\nanchor 5 1\nanchor 4 1\nanchor 3 1\nanchor 2 1\nanchor 1 1\nanchor 9 1", api.ErrFull, 9)
	fails(t, "serve 0 q 0 5", api.ErrNone, 1)
	fails(t, "serve 0 broken 0 5", api.ErrArg, 1)
	fails(t, "serve 0 twice 0 5", api.ErrTwice, 1)
	fails(t, start+"truth 200 x addr", api.ErrArg, 10)
	fails(t, start+"findings 200", api.ErrArg, 10)
	fails(t, start+"ask 200 x addr", api.ErrArg, 10)
	fails(t, start+"truth 5 X addr", api.ErrArg, 10)
	fails(t, start+"plan 5 6 move q 1", api.ErrArg, 10)
	fails(t, start+"plan 5 6 addr x q.x 1", api.ErrNone, 10)
	fails(t, "carry", api.ErrArg, 1)
	fails(t, "judge", api.ErrArg, 1)
	fails(t, strings.Repeat("\n", 100), api.ErrLimit, 0)
	fails(t, strings.Repeat(" ", 8001), api.ErrLimit, 0)
	expect(t, strings.Repeat("\n", 99), "")
	if out, e, line := console.Run("zone", "zones"); out != "" || e != api.ErrSyntax || line != 0 {
		t.Error(out, e, line)
	}
	if out, e, line := console.Run("zone x { y addr 1; } zone", strings.Repeat("\n", 100)); out != "" || e != api.ErrLimit || line != 0 {
		t.Error(out, e, line)
	}
	if _, e, _ := console.Run("zone x { y addr 1; } zone", ""); e != api.ErrCut {
		t.Error(e)
	}
}

// P45.2, P45.3: further lines, and blanks.
func TestLines(t *testing.T) {
	script := start + "protect w.x addr\ntruth 5 q.x text\nask 5 w.x addr\nplan 5 150 keys x 8 1\ncarry\nask 40 w.x addr\nprove 27 200\njudge\ndeny 1\njudge\nhint 01"
	lines := strings.Split(script, "\n")
	old := ""
	for i := range lines {
		part := strings.Join(lines[:i+1], "\n")
		out, e, line := console.Run(source, part)
		if i == len(lines)-1 {
			if e != api.ErrSyntax || line != len(lines) {
				t.Error(e, line)
			}
			if _, e, again := console.Run(source, part+"\nzones"); e != api.ErrSyntax || again != line {
				t.Error(e, again)
			}
			break
		}
		if e != api.OK || !strings.HasPrefix(out, old) {
			t.Fatal(part, out, e)
		}
		old = out
		blank := "  " + strings.ReplaceAll(strings.ReplaceAll(part, " ", "   "), "\n", "  \n \n ") + " "
		if len(blank) < 8000 && strings.Count(blank, "\n") < 100 {
			if again, e, _ := console.Run(source, blank); again != out || e != api.OK {
				t.Error(blank, again, e)
			}
		}
	}
	if !strings.HasSuffix(old, "judge none 0 0 0\njudge liar 1 0 40\n") || !strings.Contains(old, "prove accepted") {
		t.Error(old)
	}
}

// described returns the history that the commands at the start describe.
func described(t *testing.T) api.History {
	zones, _ := parser.Parse(source)
	h := api.History{Hosts: []api.Host{{Name: "r", Addr: 1}, {Name: "s", Addr: 2, Owner: 1}, {Name: "u", Addr: 3, Owner: 2}}, Hints: []int{1}, Anchor: api.Set{Name: ".", Type: 6, Data: []api.Datum{{N: 1, M: 1}}}, Drift: 1, End: 200}
	for i, z := range zones[:2] {
		z, _ = denial.Chain(z)
		z, e := sign.All(z, []api.Key{{N: i + 1, Alg: 1}}, 0, 20000000)
		if e != api.OK {
			t.Fatal(e)
		}
		h.Copies = append(h.Copies, api.Copy{Host: i, Until: 200, Zone: z})
	}
	return h
}

// P45.4, P45.7: what is asked, and looked at, is what the layers find.
func TestLayers(t *testing.T) {
	h := described(t)
	types := []string{"", "addr", "server", "alias", "start", "text", "anchor", "key", "next"}
	var c api.Cache
	script, want := start, ""
	for _, n := range []string{"w.x", "q.x", "l.x", "q", "x"} {
		for typ := 1; typ <= 8; typ += 2 {
			x := api.Question{Name: n, Type: typ}
			y, after, e := run.Resolve(h, c, x, 9, nil)
			if e != api.OK {
				t.Fatal(e)
			}
			c = after
			words := []string{"ask", []string{"", "secure", "bogus", "dark"}[y.Result.Kind], string([]byte{byte('0' + len(y.Heard))})}
			w, _ := history.At(h, 9)
			a, e := world.Truth(w, x)
			told := []string{"truth", []string{"", "data", "wild", "alias", "refer", "nodata", "noname", "refused"}[a.Kind]}
			if e != api.OK {
				told = []string{"truth", "dark"}
			}
			for _, s := range y.Result.Sets {
				words = append(words, s.Set.Name+"/"+types[s.Set.Type])
			}
			for _, s := range a.Sets {
				told = append(told, s.Set.Name+"/"+types[s.Set.Type])
			}
			script += "ask 9 " + n + " " + types[typ] + "\ntruth 9 " + n + " " + types[typ] + "\n"
			want += strings.Join(words, " ") + "\n" + strings.Join(told, " ") + "\n"
		}
	}
	expect(t, script, want)
	w, _ := history.At(h, 9)
	if l, e := lame.Findings(w); e != api.OK || len(l) > 0 {
		t.Error(l, e)
	}
}

// P45.5, P45.6: plans that are carried out, and judged.
func TestPlans(t *testing.T) {
	for i, c := range []struct {
		wish  string
		hosts []string
	}{{"keys x 8 1", []string{"0", "1"}}, {"move x 2", []string{"0", "1", "2"}}, {"addr x w.x 2", []string{"1"}}, {"split x w.x 5 1 2", []string{"1", "2"}}, {"keys x 2 1", []string{"0", "1"}}} {
		script := start + "protect w.x addr\nask 3 w.x addr\nplan 5 150 " + c.wish + "\ncarry\n"
		out, e, _ := console.Run(source, script+"judge")
		if e != api.OK {
			t.Fatal(i, e)
		}
		lines := strings.Split(strings.TrimSpace(out), "\n")
		times := strings.Fields(lines[1])
		if times[1] == "refused" {
			if i < 3 {
				t.Error(i, lines)
			}
			continue
		}
		if judged := lines[len(lines)-1]; !strings.HasPrefix(judged, "judge none") {
			t.Error(i, judged)
		}
		proved, e, _ := console.Run(source, script+"prove "+times[len(times)-1]+" 200")
		if e != api.OK || !strings.HasSuffix(proved, "prove accepted\n") {
			t.Error(i, proved, e)
		}
		for _, host := range []string{"0", "1", "2"} {
			out, e, _ := console.Run(source, script+"deny "+host+"\njudge")
			want := "judge none"
			if slices.Contains(c.hosts, host) {
				want = "judge operator " + host
			}
			if all := strings.Split(strings.TrimSpace(out), "\n"); e != api.OK || !strings.HasPrefix(all[len(all)-1], want) {
				t.Error(i, host, all[len(all)-1], e)
			}
		}
	}
}

// P45.1: numbers, sizes, the end at first, and all words that are written.
func TestEdges(t *testing.T) {
	expect(t, "end 10000000\nend 0\ndrift 99999999", "")
	fails(t, "end 00", api.ErrSyntax, 1)
	fails(t, "end 100000000", api.ErrSyntax, 1)
	expect(t, strings.Repeat(" ", 8000), "")
	fails(t, strings.Repeat(" ", 8001), api.ErrLimit, 0)
	free := "host r 1 0\nhost s 2 1\nhint 1\nanchor 1 1\nserve 0 . 0 1000\nserve 1 x 5 1000\n"
	expect(t, free+"truth 999 w.x addr\ntruth 4 w.x addr\ntruth 0 . key", "truth data w.x/addr\ntruth dark\ntruth data ./key\n")
	fails(t, free+"truth 1000 w.x addr", api.ErrArg, 7)
	expect(t, free+"protect w.x addr\nprove 0 1000\nprove 5 1000\nplan 5 900 keys x 2 1", "prove keys x 0 5\nprove accepted\nplan 5 6 7\n")
	wrong := strings.Replace(free, "anchor 1 1", "anchor 7 1", 1)
	expect(t, wrong+"protect w.x addr\nplan 5 900 keys x 8 1\nask 5 w.x addr\ncarry", "plan refused 0 anchor .\nask bogus 4\ncarry 2\n")
	expect(t, strings.Replace(free, "hint 1", "hint 9", 1)+"ask 5 w.x addr", "ask dark 1\n")
	expect(t, free+"ask 5 w.x addr\ncarry\njudge\nserve 1 plain 0 9\njudge\nfindings 5", "ask secure 5 w.x/addr\ncarry 2\njudge none 0 0 0\njudge none 0 0 0\nfindings sides:plain:plain\n")
	for _, line := range []string{"plan", "plan 5", "plan 5 6", "plan 5 6 keys", "plan 5 6 keys x 1 1 1", "plan 5 6 addr x y 1 1", "plan 5 6 split x y 1 1", "plan 5 6 split x y 1", "plan 5 6 move x 1 y", "plan a 6 move x 1", "plan 5 06 move x 1"} {
		fails(t, line, api.ErrSyntax, 1)
	}
	fails(t, free+"plan 5 1000 move x 1", api.ErrArg, 7)
	fails(t, free+"prove 0 1001", api.ErrArg, 7)
	fails(t, free+"protect w.x addr\nprotect X addr\nprove 5 9", api.ErrArg, 9)
	fails(t, free+"plan 5 9 split x w.x 1 1 7", api.ErrArg, 7)
}

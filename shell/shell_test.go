package shell_test

import (
	"bytes"
	"fmt"
	"math/rand"
	"slices"
	"strings"
	"testing"

	"selvage/api"
	"selvage/repo"
	"selvage/shell"
	"selvage/simfs"
	"selvage/sum"
)

func TestWords(t *testing.T) { // P2201
	for line, want := range map[string][]string{
		"":                       nil,
		" \t ":                   nil,
		"# a \"":                 nil,
		"  #":                    nil,
		"a":                      {"a"},
		" a\tb  c ":              {"a", "b", "c"},
		"a#b c# #d":              {"a#b", "c#"},
		`a\nb \`:                 {`a\nb`, `\`},
		`""`:                     {""},
		`"a b" "" c`:             {"a b", "", "c"},
		`"\\\"\n\t\x00\xff\x7f"`: {"\\\"\n\t\x00\xff\x7f"},
		"\"a\x01\x00\té#\"":      {"a\x01\x00\té#"},
		"\"a\nb\" c":             {"a\nb", "c"},
		"a\nb \r":                {"a\nb", "\r"},
		`"a"	b`:                  {"a", "b"},
		`"#" #`:                  {"#"},
		`a "b" #"`:               {"a", "b"},
		"\x00\xff":               {"\x00\xff"},
	} {
		got, e := shell.Words(line)
		if e != api.OK || !slices.Equal(got, want) {
			t.Errorf("Words(%q): %q, %v", line, got, e)
		}
	}
	for _, line := range []string{`"`, `"a`, `a"`, `a"b"`, `"a"b`, `"a""b"`, `"a"#`, `"\a"`, `"\"`, `"\`, `"\x"`, `"\x0"`, `"\x0g"`, `"\xG0"`, `"\x0A"`, `"\xFF"`,
		`"\r"`, `a b"`, `ok "`, `"\x1`, `x "\N"`, `"\0"`} {
		if got, e := shell.Words(line); e != api.ErrWord || got != nil {
			t.Errorf("Words(%q): %q, %v", line, got, e)
		}
	}
}

func TestQuote(t *testing.T) { // P2201
	for s, want := range map[string]string{
		"": `""`, "ab c": `"ab c"`, "\\\"\n\t": `"\\\"\n\t"`, "\x00\x1f\x7f\x80\xff": `"\x00\x1f\x7f\x80\xff"`, " ~#": `" ~#"`, "é": `"\xc3\xa9"`, "\r": `"\x0d"`,
	} {
		if got := shell.Quote([]byte(s)); got != want {
			t.Errorf("Quote(%q): %s", s, got)
		}
	}
	all := make([]byte, 256)
	for k := range all {
		all[k] = byte(k)
	}
	if got, e := shell.Words("x " + shell.Quote(all)); e != api.OK || len(got) != 2 || got[1] != string(all) {
		t.Error(got, e)
	}
	b := []byte("abc")
	shell.Quote(b)
	if !bytes.Equal(b, []byte("abc")) {
		t.Error("what was handed in was changed")
	}
}

// run plays lines, and tells the answers.
func run(lines ...string) []string {
	out := shell.Run(strings.Join(lines, "\n"))
	return strings.Split(strings.TrimSuffix(out, "\n"), "\n")
}

// play plays lines and asks their answers; `@` in an expected one stands for 64 digits, and `*` for anything.
func play(t *testing.T, l ...string) []string {
	t.Helper()
	var lines []string
	for k := 0; k < len(l); k += 2 {
		lines = append(lines, l[k])
	}
	got := run(lines...)
	if len(got) != len(lines) {
		t.Fatalf("%d answers of %d lines", len(got), len(lines))
	}
	for k, answer := range got {
		if want := l[2*k+1]; want != "*" && hidden(answer) != want {
			t.Errorf("line %d, %s: %s, not %s", k+1, lines[k], answer, want)
		}
	}
	return got
}

// hidden tells an answer with `@` in the place of Ids, but `-` for none.
func hidden(s string) string {
	out := ""
	for s != "" {
		n := 0
		for n < len(s) && n < 64 && strings.IndexByte("0123456789abcdef", s[n]) >= 0 {
			n++
		}
		switch {
		case n == 64 && s[:64] == strings.Repeat("0", 64):
			out += "-"
		case n == 64:
			out += "@"
		default:
			n = 1
			out += s[:1]
		}
		s = s[n:]
	}
	return out
}

func TestTheExample(t *testing.T) { // P2202
	play(t, "init main", "ok", `file a "x\n"`, "ok", "commit me 5 first", "ok @", "show $3", `ok "a":f:"x\n"`)
}

func TestLimits(t *testing.T) { // P2202
	if got := shell.Run(""); got != "" {
		t.Errorf("%q", got)
	}
	for n, want := range map[int]string{512: strings.Repeat("\n", 512), 513: "long\n"} {
		if got := shell.Run(strings.Repeat("\n", n)); got != want {
			t.Errorf("%d lines: %.20q", n, got)
		}
		if got := shell.Run(strings.Repeat("\n", n-1) + " "); got != want {
			t.Errorf("%d lines, the last one without its end: %.20q", n, got)
		}
	}
	if got := shell.Run("#" + strings.Repeat("x", 65535)); got != "\n" {
		t.Errorf("%.20q", got)
	}
	if got := shell.Run("#" + strings.Repeat("x", 65536)); got != "long\n" {
		t.Errorf("%.20q", got)
	}
}

func TestLinesWithoutWords(t *testing.T) { // P2202
	play(t, "", "", "  ", "", "# head", "", "head # x", "none", "\t", "")
}

func TestLinesThatAreNone(t *testing.T) { // P2202
	for _, line := range []string{
		"x", "Head", "head x", "init", "init a b", "file a", "file a b c", "drop", "drop a b", "solve a", "unsolve", "unsolve a b", "exec a", "link a b c",
		"commit a 1", "commit a x b", "commit a 01 b", "commit a -0 b", "commit a 00 b", "commit a 1234567890 b", "commit a +1 b", "commit a - b", "commit a \"\" b",
		"commit a 1x b", "commit a 1 b c", "commit a --1 b", "branch a", "branch a b c", "delete", "switch", "switch a b", "merge a b 1", "merge a b c d", "merge a b 1 c d",
		"rebase", "continue x", "skip x", "abort x", "collect x", "repack x", "recover x", "reset a", "reset a b c", "crash x", "crash 1 x", "crash -0", "crash 01",
		"refs x", "log", "log a b", "show", "show a b", "seq x", `head "`, `"head`, `head"x"`, `""`, "crash 1 2 3 $1", "pick\x00",
	} {
		play(t, "init main", "ok", line, "word", "head", "main", "refs", "ok", "seq", "idle")
	}
	play(t, `"head"`, "none", `"\x68ead"`, "none")
}

func TestFiles(t *testing.T) { // P2202
	play(t,
		"init main", "ok",
		"drop a", "none",
		"file b/c 1", "ok", "exec a 2", "ok", `link "d e" "\x00\n"`, "ok", "file x 9", "ok", "drop x", "ok", "drop x", "none",
		"commit me -7 one", "ok @",
		"show $9", `ok "a":x:"2" "b/c":f:"1" "d e":l:"\x00\n"`,
		"link a 3", "ok", "commit me 0 two", "ok @", "show main", `ok "a":l:"3" "b/c":f:"1" "d e":l:"\x00\n"`,
		"commit me 0 two", "same",
		"file b 1", "ok", "commit me 0 x", "dir",
		"drop b", "ok", "drop a", "ok", "drop b/c", "ok", `drop "d e"`, "ok", "commit me 999999999 three", "ok @", "show $21", "ok",
		`file "" x`, "ok", "commit me 0 x", "name",
	)
}

func TestCommits(t *testing.T) { // P2202: how a commit is named
	got := play(t,
		"init main", "ok", "file a 1", "ok", "commit me 1 one", "ok @", "file a 2", "ok", "commit me 2 two", "ok @",
		"branch x $3", "ok @", "branch y -", "ok @", "branch z main", "ok @", "branch w $99", "ok @", "branch v $2", "ok @", "branch u $11", "ok @",
		"branch t none", "ok @", "branch s $0", "ok @", "branch r $03", "ok @", "branch q $", "ok @", "branch p 00", "ok @", "branch o $-3", "ok @",
		"show -", "none", "show $3", `ok "a":f:"1"`, "show x", `ok "a":f:"1"`, "show y", `ok "a":f:"2"`, "show $6", `ok "a":f:"1"`, "show $23", "none",
	)
	for k, line := range []int{6, 7, 8, 9, 10, 11, 12, 13, 14, 15, 16, 17} {
		want := got[4]
		if k == 0 {
			want = got[2]
		}
		if got[line-1] != want {
			t.Errorf("line %d", line)
		}
	}
	// names that end with digits, and words that are no names
	play(t, "init main", "ok", "file a 1", "ok", "commit me 1 one", "ok @", "file a 2", "ok", "commit me 1 two", "ok @", "branch b3 -", "ok @",
		"show b3", `ok "a":f:"2"`, `show ""`, "none", "show $", "none", `show "b 3"`, "none", `pick ! !b3 ""`, "none", "pick !b3 !b3", "ok @ :2")
	id := got[2][3:]
	play(t, "init main", "ok", "file a 1", "ok", "commit me 1 one", "ok @", "show "+id, `ok "a":f:"1"`, "show "+strings.ToUpper(id), "none", "show \""+id+"\"", `ok "a":f:"1"`,
		"show "+strings.Repeat("0", 64), "none", "branch b "+strings.Repeat("0", 63)+"1", "none")
}

func TestRefsAndLogs(t *testing.T) { // P2202
	got := play(t,
		"head", "none", "refs", "ok", "log main", "none", "init main", "ok", "init other", "is", "head", "main", "log main", "none",
		"file a 1", "ok", "commit me 1 one", "ok @", "file a 2", "ok", "commit me 2 two", "ok @",
		"branch b $9", "ok @", "reset $9 main", "ok @",
		"refs", "ok b:@ main:@", "log main", "ok @:@:reset @:@:commit -:@:commit", "log b", "ok -:@:branch",
		"delete main", "arg", "switch b", "ok @", "head", "b", "delete main", "ok", "log main", "none", "refs", "ok b:@",
		"switch b", "same", "switch main", "none", "branch b -", "is", "branch b/c -", "dir", "branch . -", "name", "reset - -", "old", "reset b b", "same",
	)
	one, two := got[8][3:], got[10][3:]
	if got[13] != "ok b:"+one+" main:"+one || got[14] != "ok "+two+":"+one+":reset "+one+":"+two+":commit "+strings.Repeat("0", 64)+":"+one+":commit" {
		t.Error(got[13], got[14])
	}
}

func TestMergesAndSequences(t *testing.T) { // P2202
	play(t,
		"init main", "ok", `file f "a\nb\nc\n"`, "ok", "commit me 1 base", "ok @", "branch b -", "ok @",
		`file f "a\nX\nc\n"`, "ok", "commit me 2 ours", "ok @", "switch b", "ok @", `file f "a\nY\nc\n"`, "ok", "file g 1", "ok", "commit me 3 theirs", "ok @",
		"merge none me 4 m", "none", "merge b me 4 m", "same", // 11, 12
		"merge main me 4 m", `conflict "f":1`, "solve f Z", "ok", "solve q 1", "ok", "merge main me 4 m", "arg", "unsolve q", "ok", "merge main me 4 m", "arg", // 18
		"continue", "idle", "skip", "idle", "abort", "idle", "pick $6", `conflict "f":1`, "seq", "pick 0/1 stopped", // 23
		"continue", "arg", "commit x 1 x", "busy", "abort", "ok @", "seq", "idle", // 27
		"rebase main $10 !$10 -", "none", "rebase main", `conflict "f":1`, "seq", "rebase 0/1 stopped", "head", "b", // 31
		"continue", "arg", "crash 1 2 3", "ok", "seq", "rebase 0/1 stopped", "skip", "ok @ :1", "log b", "ok @:@:rebase @:@:commit -:@:branch", // 36
		"pick", "arg", "pick $10", `conflict "f":1`, "abort", "ok @", // 39
	)
	play(t,
		"init main", "ok", `file f "a\nb\nc\n"`, "ok", "commit me 1 base", "ok @", "branch b -", "ok @",
		`file f "a\nX\nc\n"`, "ok", "commit me 2 ours", "ok @", "switch b", "ok @", `file f "a\nY\nc\n"`, "ok", "file g 1", "ok", "commit me 3 theirs", "ok @",
		`file g "1 2"`, "ok", "commit me 4 more", "ok @", "switch main", "ok @", // 13
		"pick $10 !$12", `conflict "f":1`, "show $14", "none", "solve f Z", "ok", "continue", "ok @ :2", "show $17", `ok "f":f:"Z" "g":f:"1 2"`, // 18
		"log main", "ok @:@:squash @:@:pick @:@:commit -:@:commit", "continue", "idle", "pick !$12", "ok @ :1", // 21
		"merge b me 5 m", `conflict "f":1`, "solve f W", "ok", "merge b me 5 m", "ok @", "show -", "none", "merge b me 5 m", "same",
	)
	// what resolves is kept till a merge is done
	play(t,
		"init main", "ok", "file f a", "ok", "commit me 1 base", "ok @", "branch b -", "ok @", "file f b", "ok", "commit me 1 b", "ok @",
		"switch b", "ok @", "file f c", "ok", "commit me 1 c", "ok @", "solve f d", "ok", "merge main me 0 m", "ok @", "show b", `ok "f":f:"d"`,
		"merge main me 0 m", "same", "reset $9 b", "ok @", "merge main me 0 m", "ok @", "show b", `ok "f":f:"d"`,
		"file f e", "ok", "commit me 0 e", "ok @", "branch c $3", "ok @", "switch c", "ok @", "file f g", "ok", "commit me 0 g", "ok @",
		"unsolve f", "ok", "solve f h", "ok", "unsolve f", "ok", "merge b me 0 m", "ok @", "show c", "ok", "merge b me 0 m", "same",
	)
}

func TestClashesAreTold(t *testing.T) { // P2202
	play(t,
		"init main", "ok", `file "a b" a`, "ok", "file c a", "ok", "commit me 1 base", "ok @", "branch b -", "ok @", `file "a b" b`, "ok", "drop c", "ok", "commit me 1 b", "ok @",
		"switch b", "ok @", `file "a b" c`, "ok", "file c x", "ok", "commit me 1 c", "ok @", "merge main me 0 m", `conflict "a b":1 "c":2`, "show $13", "none",
	)
}

func TestKeeping(t *testing.T) { // P2202
	play(t,
		"collect", "ok", "repack", "ok", "recover", "ok", "init main", "ok", "file a 1", "ok", "commit me 1 one", "ok @", "branch b -", "ok @", "switch b", "ok @",
		"file a 2", "ok", "commit me 2 two", "ok @", "repack", "ok :6", "collect", "ok", "recover", "ok :6", "switch main", "ok @", "delete b", "ok",
		"collect", "ok :3", "recover", "ok :3", "show $10", "none", "show $6", `ok "a":f:"1"`, "crash", "ok", "crash -5 0 999999999", "ok", "show main", `ok "a":f:"1"`,
		"switch $6", "none", "branch x $10", "none",
	)
}

func TestLongAnswers(t *testing.T) { // P2202
	show := "show main"
	setup := []string{"init main", "file a " + strings.Repeat("x", 30000), "commit me 1 one"}
	one := len(shell.Run(strings.Join(append(setup, show), "\n"))) - len(shell.Run(strings.Join(setup, "\n")))
	head := len(shell.Run(strings.Join(setup, "\n")))
	lines := slices.Clone(setup)
	for range 4 {
		lines = append(lines, show)
	}
	rest := api.MaxAnswer - head - 4*one // bytes that answers may still have
	if rest < 100 || rest >= one {
		t.Fatal(rest)
	}
	fill := func(n int) []string { // lines whose answers have n bytes in all
		var l []string
		for ; n > 20; n -= 5 {
			l = append(l, "none") // word
		}
		for ; n > 0; n-- {
			l = append(l, "")
		}
		return l
	}
	if extra := rest % 1000; rest > 1500 {
		lines[1] = "file a " + strings.Repeat("x", 30000+(rest-extra)/4)
		rest = extra + (rest-extra)%4
	}
	got := run(append(slices.Clone(lines), fill(rest)...)...)
	if slices.Contains(got, "long") {
		t.Fatal("what fits is long")
	}
	all := shell.Run(strings.Join(append(slices.Clone(lines), append(fill(rest), "")...), "\n") + "\n")
	if len(all) != api.MaxAnswer+5 || !strings.HasSuffix(all, "\n\n\nlong\n") {
		t.Errorf("%d bytes: %q", len(all), all[len(all)-20:])
	}
	// The first one that is too long is done, those behind it are not.
	l := append(slices.Clone(lines), show, "file b 1", "", "head", "# x")
	got = run(l...)
	if !slices.Equal(got[len(lines):], []string{"long", "long", "long", "long", "long"}) {
		t.Errorf("%.20q", got[len(lines):])
	}
	// An answer of just the bytes that are left is none that is too long.
	l = append(slices.Clone(lines), fill(rest-5)...)
	if got = run(append(l, "head")...); got[len(got)-1] != "main" {
		t.Error(got[len(got)-1])
	}
	if got = run(append(l, "", "head")...); got[len(got)-1] != "long" {
		t.Error(got[len(got)-1])
	}
}

// What a command of a script makes is what the repository makes of it.
func TestTheSameCommits(t *testing.T) { // P2202
	got := play(t, "init main", "ok", "file f 1", "ok", `commit "an author" -5 "a text"`, "ok @", "branch b -", "ok @", "file g 2", "ok", "commit x 1 y", "ok @",
		"switch b", "ok @", "drop g", "ok", "exec h 3", "ok", "commit z 2 w", "ok @", `merge main "who merged" 77 "why merged"`, "ok @")
	f, _ := simfs.New(1<<30, 1<<30)
	r, _ := repo.Open(f)
	one, two := api.File{Path: "f", Kind: api.KFile, Data: []byte("1")}, api.File{Path: "g", Kind: api.KFile, Data: []byte("2")}
	three := api.File{Path: "h", Kind: api.KExec, Data: []byte("3")}
	for _, x := range []struct {
		line int
		c    api.Cmd
	}{
		{1, api.Cmd{Kind: api.CInit, Name: "main"}},
		{3, api.Cmd{Kind: api.CCommit, Author: "an author", Time: -5, Text: "a text", Files: []api.File{one}}},
		{4, api.Cmd{Kind: api.CBranch, Name: "b"}},
		{6, api.Cmd{Kind: api.CCommit, Author: "x", Time: 1, Text: "y", Files: []api.File{one, two}}},
		{7, api.Cmd{Kind: api.CSwitch, Name: "b"}},
		{10, api.Cmd{Kind: api.CCommit, Author: "z", Time: 2, Text: "w", Files: []api.File{one, three}}},
		{11, api.Cmd{Kind: api.CMerge, Name: "main", Author: "who merged", Time: 77, Text: "why merged"}},
	} {
		want := "ok"
		if a := r.Do(x.c); a.Id != (api.Id{}) {
			want = "ok " + sum.Hex(a.Id)
		}
		if got[x.line-1] != want {
			t.Errorf("line %d: %s, not %s", x.line, got[x.line-1], want)
		}
	}
}

// A sequence may be in progress without having stopped: a step failed for another reason than a clash.
func TestAStepThatFails(t *testing.T) { // P2202
	n := strings.Repeat("n", 40)
	play(t, "init main", "ok", "commit me 1 empty", "ok @", "branch b -", "ok @", "file "+n+"/x 1", "ok", "commit me 2 dir", "ok @", "switch b", "ok @",
		"drop "+n+"/x", "ok", "file "+n+" 2", "ok", "commit me 3 file", "ok @", "pick main", "name", "seq", "pick 0/1", "continue", "name", "pick main", "busy",
		"skip", "ok @ :1", "seq", "idle", "show $10", "none")
}

// TestLawsOfScripts plays beginnings of random scripts.
func TestLawsOfScripts(t *testing.T) { // P2203, P3
	r := rand.New(rand.NewSource(26))
	word := func(l ...string) string { return l[r.Intn(len(l))] }
	path := func() string { return word("a", "b", "a/b", "c~", `"d e"`) }
	id := func() string { return word("-", "main", "b", "c", fmt.Sprint("$", r.Intn(60)), "$x") }
	line := func() string {
		switch r.Intn(16) {
		case 0, 1, 2:
			return word("file", "exec", "link", "file") + " " + path() + " " + word("1", "2", `"x\ny\n"`, `"x\nz\n"`)
		case 3:
			return word("drop ", "unsolve ") + path()
		case 4, 5, 6:
			return "commit me " + word("1", "-3", "x") + " " + word("m", "n")
		case 7:
			return "branch " + word("b", "c", "b/d", "/") + " " + id()
		case 8:
			return word("switch ", "delete ") + word("main", "b", "c")
		case 9:
			return "merge " + word("main", "b", "c") + " me 7 m"
		case 10:
			return "pick " + word("", "!") + id() + " " + id()
		case 11:
			return "rebase " + id() + word("", " "+id())
		case 12:
			return word("continue", "skip", "abort", "collect", "repack", "recover", "crash 1 2", "crash")
		case 13:
			return "reset " + id() + " " + id()
		case 14:
			return "solve " + path() + " 9"
		}
		return word("refs", "log main", "seq", "head", "show "+id(), "", "# x", "nothing")
	}
	done := 0
	for range 60 {
		lines := []string{"init main"}
		for range 50 {
			lines = append(lines, line())
		}
		all := run(lines...)
		if !slices.Equal(all, run(lines...)) {
			t.Fatal("it answers otherwise")
		}
		n := r.Intn(len(lines)) + 1
		if part := run(lines[:n]...); !slices.Equal(part, all[:n]) {
			t.Fatalf("%q: the first %d lines", lines, n)
		}
		var kept []string // lines that change nothing change nothing of the others
		var want []string
		for k, l := range lines {
			if all[k] == "word" || all[k] == "" {
				kept, want = append(kept, "#"), append(want, "")
			} else {
				kept, want = append(kept, l), append(want, all[k])
			}
			if strings.HasPrefix(all[k], "ok ") {
				done++
			}
		}
		if got := run(kept...); !slices.Equal(got, want) {
			t.Fatalf("%q", lines)
		}
	}
	if done < 300 {
		t.Error("few were done:", done)
	}
}

// Whatever a script is, each of its lines has an answer.
func TestAnyBytes(t *testing.T) { // P1, P2202
	r := rand.New(rand.NewSource(27))
	for range 300 {
		b := make([]byte, r.Intn(300))
		for k := range b {
			b[k] = "abcdefghijklmnopqrstuvwxyz \t\n\n\"\\#$!-0123\x00\xff"[r.Intn(42)]
		}
		script := string(b)
		n := strings.Count(script, "\n")
		if script != "" && !strings.HasSuffix(script, "\n") {
			n++
		}
		if got := strings.Count(shell.Run(script), "\n"); got != n {
			t.Fatalf("%q: %d answers", script, got)
		}
		if l, e := shell.Words(script); e != api.OK && (e != api.ErrWord || l != nil) {
			t.Fatal(e)
		}
	}
}

package shell

import (
	"maps"
	"slices"
	"strings"

	"selvage/api"
	"selvage/repo"
	"selvage/simfs"
)

const (
	diskSize = 1 << 40

	wordOk   = "ok"
	wordWord = "word"
	wordNone = "none"
)

// player is a script as it is played.
type player struct {
	disk   *simfs.FS
	repo   *repo.Repo
	laid   map[string]api.File // for commits
	solved map[string]api.File // resolve clashes
	ids    []api.Id            // that the lines so far were answered
	id     api.Id              // that the line is answered
	rows   map[string]row
}

func newPlayer() (*player, api.Errno) {
	f, e := simfs.New(diskSize, diskSize)
	if e != api.OK {
		return nil, e
	}
	r, e := repo.Open(f)
	if e != api.OK {
		return nil, e
	}
	p := &player{disk: f, repo: r, laid: map[string]api.File{}, solved: map[string]api.File{}}
	p.rows = p.table()
	return p, api.OK
}

// row is what a command is: the words behind its name (see match), and what it does.
type row struct {
	words string
	do    func(a args) string
}

func (p *player) table() map[string]row {
	return map[string]row{
		"file":     {"TT", p.file},
		"exec":     {"TT", p.exec},
		"link":     {"TT", p.link},
		"drop":     {"T", p.drop},
		"solve":    {"TT", p.solve},
		"unsolve":  {"T", p.unsolve},
		"init":     {"T", p.begin},
		"commit":   {"TnT", p.commit},
		"branch":   {"TC", p.branch},
		"delete":   {"T", p.remove},
		"switch":   {"T", p.switchTo},
		"merge":    {"TTnT", p.merge},
		"pick":     {"S*", p.pick},
		"rebase":   {"CS*", p.rebase},
		"continue": {"", p.goOn},
		"skip":     {"", p.bare(api.CSkip)},
		"abort":    {"", p.bare(api.CAbort)},
		"collect":  {"", p.bare(api.CCollect)},
		"repack":   {"", p.bare(api.CRepack)},
		"recover":  {"", p.bare(api.CRecover)},
		"reset":    {"CC", p.reset},
		"crash":    {"n*", p.crash},
		"head":     {"", p.head},
		"refs":     {"", p.refs},
		"log":      {"T", p.log},
		"show":     {"C", p.show},
		"seq":      {"", p.seq},
	}
}

// play does a line, and tells its answer.
func (p *player) play(line string) string {
	p.id = api.Id{}
	answer := p.answer(line)
	p.ids = append(p.ids, p.id)
	return answer
}

func (p *player) answer(line string) string {
	words, e := Words(line)
	if e != api.OK {
		return wordWord
	}
	if len(words) == 0 {
		return ""
	}
	r, is := p.rows[words[0]]
	if !is {
		return wordWord
	}
	a, is := p.match(r.words, words[1:])
	if !is {
		return wordWord
	}
	return r.do(a)
}

// files tells files by their paths, rising.
func files(m map[string]api.File) []api.File {
	l := slices.Collect(maps.Values(m))
	slices.SortFunc(l, func(a, b api.File) int { return strings.Compare(a.Path, b.Path) })
	return l
}

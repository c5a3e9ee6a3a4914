package shell

import (
	"strconv"
	"strings"

	"selvage/api"
	"selvage/sum"
)

// args is what the words behind a command's name mean, each kind in its order.
type args struct {
	texts   []string
	numbers []int
	ids     []api.Id
	todo    []api.Todo
}

// match reads words as a form says: T a text, n a number, C a commit, S a step; `*` behind a letter: as many of those as there are.
func (p *player) match(form string, words []string) (args, bool) {
	var a args
	for form != "" {
		kind, many := form[0], strings.HasPrefix(form[1:], "*")
		if len(words) == 0 {
			return a, many
		}
		if !p.read(&a, kind, words[0]) {
			return args{}, false
		}
		words = words[1:]
		if !many {
			form = form[1:]
		}
	}
	return a, len(words) == 0
}

// read puts a word where its kind belongs.
func (p *player) read(a *args, kind byte, word string) bool {
	switch kind {
	case 'T':
		a.texts = append(a.texts, word)
	case 'n':
		n, is := number(word)
		if !is {
			return false
		}
		a.numbers = append(a.numbers, n)
	case 'C':
		a.ids = append(a.ids, p.commitOf(word))
	case 'S':
		step := api.Todo{Do: api.TPick}
		if strings.HasPrefix(word, "!") {
			step.Do, word = api.TSquash, word[1:]
		}
		step.Id = p.commitOf(word)
		a.todo = append(a.todo, step)
	}
	return true
}

// number reads one to nine digits without noughts ahead; one below 0 has a `-` ahead.
func number(word string) (int, bool) {
	plain := strings.TrimPrefix(word, "-")
	if len(plain) < 1 || len(plain) > 9 || plain[0] == '0' && word != "0" {
		return 0, false
	}
	for k := range len(plain) {
		if plain[k] < '0' || plain[k] > '9' {
			return 0, false
		}
	}
	n, err := strconv.Atoi(word)
	return n, err == nil
}

// commitOf tells the commit that a word means, or none.
func (p *player) commitOf(word string) api.Id {
	if word == "-" {
		return api.Id{}
	}
	if i, e := sum.Parse(word); e == api.OK {
		return i
	}
	if strings.HasPrefix(word, "$") {
		if n, is := number(word[1:]); is && n >= 1 {
			if n > len(p.ids) {
				return api.Id{}
			}
			return p.ids[n-1]
		}
	}
	for _, r := range p.repo.State().Refs {
		if r.Name == word {
			return r.Id
		}
	}
	return api.Id{}
}

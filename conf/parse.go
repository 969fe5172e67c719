package conf

import (
	"strings"

	"wharfinger/api"
)

// Parse: the modules of a text; a Fault's place is that of the line, from 0 on.
func Parse(text string) (Config, error) {
	if len(text) > MaxText {
		return Config{}, &api.Fault{At: 0, Err: api.ErrLong}
	}
	var p parser
	for i, line := range strings.Split(text, newline) {
		if e := p.line(trimmed(line)); e != api.OK {
			return Config{}, &api.Fault{At: i, Err: e}
		}
	}
	if err := p.config.Check(); err != nil {
		return Config{}, err
	}
	return p.config, nil
}

// parser is what the lines so far said.
type parser struct {
	config Config
	seen   map[string]struct{} // the keys that stand in the last module
}

// line: what one more line says.
func (p *parser) line(line string) api.Errno {
	switch {
	case line == "" || strings.HasPrefix(line, remark):
		return api.OK
	case strings.HasPrefix(line, opening):
		return p.begin(strings.TrimPrefix(line, opening))
	}
	return p.entry(line)
}

// begin: a module, by what stands behind the opening bracket.
func (p *parser) begin(rest string) api.Errno {
	name, closed := strings.CutSuffix(rest, closing)
	_, twice := p.config.Find(name)
	switch {
	case !closed:
		return api.ErrLine
	case !isName(name):
		return api.ErrName
	case twice:
		return api.ErrTwice
	case len(p.config.Modules) == MaxModules:
		return api.ErrFull
	}
	p.config.Modules = append(p.config.Modules, Module{Name: name, Slots: MaxSlots, Quota: MaxQuota})
	p.seen = map[string]struct{}{}
	return api.OK
}

// entry: a key and its value, for the last module.
func (p *parser) entry(line string) api.Errno {
	key, value, found := strings.Cut(line, equals)
	last := len(p.config.Modules) - 1
	if !found || last < 0 {
		return api.ErrLine
	}
	key = trimmed(key)
	if _, twice := p.seen[key]; twice && key != userKey {
		return api.ErrTwice
	}
	p.seen[key] = struct{}{}
	return p.config.Modules[last].set(key, trimmed(value))
}

// trimmed: a text without blanks ahead and behind; other white space counts.
func trimmed(s string) string { return strings.Trim(s, blank) }

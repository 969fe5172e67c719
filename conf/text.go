package conf

import (
	"strconv"
	"strings"
)

// The signs of a text.
const (
	newline = "\n"
	blank   = " "
	remark  = "#"
	opening = "["
	closing = "]"
	equals  = "="
	colon   = ":"
)

// The keys.
const (
	rootKey  = "root"
	writeKey = "write"
	slotsKey = "slots"
	quotaKey = "quota"
	userKey  = "user"
)

// The values of the key write; those that mean the same are read too, but not written.
const (
	yes     = "yes"
	alsoYes = "true"
	no      = "no"
	alsoNo  = "false"
)

// Text: modules as a text that Parse reads as them.
func (c Config) Text() string {
	var text strings.Builder
	for _, m := range c.Modules {
		for _, line := range m.lines() {
			text.WriteString(line + newline)
		}
	}
	return text.String()
}

// lines: those of a module.
func (m Module) lines() []string {
	list := []string{
		opening + m.Name + closing,
		entry(rootKey, m.Root),
		entry(writeKey, yesOrNo(m.Write)),
		entry(slotsKey, strconv.Itoa(m.Slots)),
		entry(quotaKey, strconv.Itoa(m.Quota)),
	}
	for _, u := range m.Users {
		list = append(list, entry(userKey, u.Name+colon+u.Secret))
	}
	return list
}

// entry: the line of a key and its value.
func entry(key, value string) string { return key + blank + equals + blank + value }

// yesOrNo: the value of the key write.
func yesOrNo(write bool) string {
	if write {
		return yes
	}
	return no
}

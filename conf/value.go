package conf

import (
	"strconv"
	"strings"

	"wharfinger/api"
	"wharfinger/path"
)

// set: what a key with this value says of a module.
func (m *Module) set(key, value string) api.Errno {
	switch key {
	case rootKey:
		return m.setRoot(value)
	case writeKey:
		return m.setWrite(value)
	case slotsKey:
		return setNumber(&m.Slots, value, 1, MaxSlots)
	case quotaKey:
		return setNumber(&m.Quota, value, 0, MaxQuota)
	case userKey:
		return m.addUser(value)
	}
	return api.ErrLine
}

func (m *Module) setRoot(value string) api.Errno {
	if path.Check(value) != nil {
		return api.ErrPath
	}
	m.Root = value
	return api.OK
}

func (m *Module) setWrite(value string) api.Errno {
	switch value {
	case yes:
		fallthrough
	case alsoYes:
		m.Write = true
	case no:
		fallthrough
	case alsoNo:
		m.Write = false
	default:
		return api.ErrLine
	}
	return api.OK
}

func (m *Module) addUser(value string) api.Errno {
	name, secret, found := strings.Cut(value, colon)
	_, twice := m.Secret(name)
	switch {
	case !found || secret == "" || len(secret) > MaxName:
		return api.ErrLine
	case !isName(name):
		return api.ErrName
	case twice:
		return api.ErrTwice
	case len(m.Users) == MaxUsers:
		return api.ErrFull
	}
	m.Users = append(m.Users, User{Name: name, Secret: secret})
	return api.OK
}

// setNumber: a number from least to most, as it is written in one way alone: without noughts ahead, and without a sign.
func setNumber(number *int, value string, least, most int) api.Errno {
	n, err := strconv.Atoi(value)
	if err != nil || strconv.Itoa(n) != value || n < least || n > most {
		return api.ErrLine
	}
	*number = n
	return api.OK
}

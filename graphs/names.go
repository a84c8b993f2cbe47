package graphs

import (
	"slices"

	"dossier/api"
)

// usage is what a name stands for at its place.
type usage uint8

const (
	definition usage = iota // of the event that the line defines
	roleName
	mention // of an event, in a rule
)

// use is a name at its place; event counts the events that were read ahead of
// it, and so tells the roles of one event from those of another.
type use struct {
	as    usage
	event int
	name  string
	at    int
}

// wrongName finds the first name, in the order of the text, that is there
// already where it must be new or is defined nowhere.
func wrongName(uses []use) Fault {
	for i, u := range uses {
		if isWrong(u, uses[:i], uses) {
			return Fault{Errno: api.ErrName, At: u.at}
		}
	}
	return Fault{}
}

func isWrong(u use, before, all []use) bool {
	switch u.as {
	case definition:
		return defines(before, u.name)
	case roleName:
		return hasRole(before, u.event, u.name)
	}
	return !defines(all, u.name)
}

func defines(uses []use, name string) bool {
	return slices.ContainsFunc(uses, func(u use) bool {
		return u.as == definition && u.name == name
	})
}

func hasRole(uses []use, event int, name string) bool {
	return slices.ContainsFunc(uses, func(u use) bool {
		return u.as == roleName && u.event == event && u.name == name
	})
}

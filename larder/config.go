package larder

import (
	"strings"

	"larder/api"
	"larder/names"
)

func isConfig(c api.Config) bool {
	return areUsers(c.Users) &&
		api.MinRoom <= c.Room && c.Room <= api.MaxRoom &&
		0 <= c.Clock && c.Clock <= api.MaxClock
}

func areUsers(users []api.User) bool {
	if len(users) < 1 || len(users) > api.MaxUsers {
		return false
	}
	for i, user := range users {
		if !isUser(user) || hasName(users[:i], user.Name) {
			return false
		}
	}
	return true
}

func isUser(user api.User) bool {
	return names.IsUser(user.Name) && 1 <= len(user.Secret) && len(user.Secret) <= api.MaxSecret
}

func hasName(users []api.User, name string) bool {
	for _, user := range users {
		if user.Name == name {
			return true
		}
	}
	return false
}

// copyUsers: what is handed in is not kept.
func copyUsers(users []api.User) []api.User {
	var copies []api.User
	for _, user := range users {
		copies = append(copies, api.User{Name: strings.Clone(user.Name), Secret: strings.Clone(user.Secret)})
	}
	return copies
}

func namesOf(users []api.User) []string {
	var list []string
	for _, user := range users {
		list = append(list, user.Name)
	}
	return list
}

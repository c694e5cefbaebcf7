package expr

import (
	"retrofit/api"
	"retrofit/wide"
)

// The deeds of the instructions that take nothing.

func number(i Ins, _ Env, _ []api.Int) (api.Int, api.Errno) { return i.K, api.OK }

func element(i Ins, env Env, _ []api.Int) (api.Int, api.Errno) { return find(env, i.A, i.B) }

func here(i Ins, env Env, _ []api.Int) (api.Int, api.Errno) { return find(env, i.A, env.At) }

func place(_ Ins, env Env, _ []api.Int) (api.Int, api.Errno) {
	if env.At < 0 {
		return api.Int{}, api.ErrRange
	}
	return wide.Of(env.At), api.OK
}

func find(env Env, field, at int) (api.Int, api.Errno) {
	if field < 0 || field >= len(env.Fields) {
		return api.Int{}, api.ErrRange
	}
	list := env.Fields[field]
	if at < 0 || at >= len(list) {
		return api.Int{}, api.ErrRange
	}
	return list[at], api.OK
}

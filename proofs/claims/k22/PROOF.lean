import PyProof.Rows.All
import Wide.All
import OpenK.AllK
import Wide.FinOn
import HandS.ForMost
import HandS.Wide
import HandS.IsInst
import HandS.TupAny
import HandS.Zip
import HandS.Walk
import HandS.Style
import HandS.EndBits
import HandS.Defaults
import HandS.Flow
import HandS.SortInts
import HandS.RaiseMore
import KE.GoesEnum
import KE.GoesMore
import HandS.MakeKwOnly
import HandS.SortRule
import HandS.SetFor
import HandS.Conv
import HandS.Strs
import HandS.NoneIn
import HandS.Deep
import HandS.More
import PySem.Challenge.RW_hoursmeant_k22_runs_without_finds
set_option Elab.async false
set_option linter.all false
set_option maxRecDepth 100000
set_option maxHeartbeats 4000000
/-! A small language of data: its meaning as a function, and that the text's own code means it. -/
namespace Ix
open PySem L2

/-! ### data -/
inductive D where
  | non | bl (b : Bool) | int (i : Int) | str (x : Str) | ty (n : String) | ref (k : Nat) | tup (xs : List D) | ro (xs : List Int)
inductive O where
  | lst (xs : List D) | dct (kvs : List (Key × D))
abbrev Hd := List O
abbrev Sl := List (Option D)

/-! ### how data lies in the heap -/
/-- a list that stands for good: the script, a list of the module -/
def SqR (K : PySem.W.Frag) (H : Hp) (a : Addr) (xs : List V) : Prop := (∃ o, H a = some (.frz o (.lst xs))) ∨
    ∃ (o : Obj) (its : Array Value) (n : Nat), K.lookup a = some o ∧ o.cls = .type "list" ∧ o.dict = none ∧ o.data = .seq its n ∧ its.size ≤ sizeLine ∧ Vals xs its.toList
inductive Rp (K : PySem.W.Frag) (α : List Addr) (H : Hp) : D → V → Prop where
  | non : Rp K α H .non .non
  | bl (b : Bool) : Rp K α H (.bl b) (.bl b)
  | int (i : Int) : Rp K α H (.int i) (.int i)
  | str (x : Str) : Rp K α H (.str x) (.str x)
  | ty (n : String) : Rp K α H (.ty n) (.ty n)
  | ref {k : Nat} {a : Addr} (h : α[k]? = some a) : Rp K α H (.ref k) (.ref a)
  | tup {xs : List D} {a : Addr} {vs : List V} (h : SqT K H a vs) (l : vs.length = xs.length) (r : ∀ (i : Nat) (x : D) (v : V), xs[i]? = some x → vs[i]? = some v → Rp K α H x v) : Rp K α H (.tup xs) (.ref a)
  | ro {xs : List Int} {a : Addr} (h : SqR K H a (xs.map V.int)) : Rp K α H (.ro xs) (.ref a)

structure Rps (K : PySem.W.Frag) (α : List Addr) (H : Hp) (xs : List D) (vs : List V) : Prop where
  len : vs.length = xs.length
  at_ : ∀ (i : Nat) (x : D) (v : V), xs[i]? = some x → vs[i]? = some v → Rp K α H x v

/-- what an object is -/
def Ob (K : PySem.W.Frag) (α : List Addr) (H : Hp) : O → HO → Prop
  | .lst xs, .lst vs => Rps K α H xs vs
  | .dct ks, .dK vs => vs.map (·.1) = ks.map (·.1) ∧ Rps K α H (ks.map (·.2)) (vs.map (·.2))
  | _, _ => False
structure Ok (K : PySem.W.Frag) (α : List Addr) (S : Hd) (H : Hp) : Prop where
  len : α.length = S.length
  nd : ∀ (i j : Nat) (a : Addr), α[i]? = some a → α[j]? = some a → i = j
  at_ : ∀ (k : Nat) (o : O) (a : Addr), S[k]? = some o → α[k]? = some a → ∃ u, H a = some u ∧ Ob K α H o u
structure En (K : PySem.W.Frag) (α : List Addr) (H : Hp) (env : Sl) (σ : L2.St) : Prop where
  len : σ.length = env.length
  at_ : ∀ (i : Nat) (d : D), env[i]? = some (some d) → ∃ v, σ[i]? = some (some v) ∧ Rp K α H d v
/-- what lasts -/
structure Xt (K : PySem.W.Frag) (α : List Addr) (H : Hp) (α' : List Addr) (H' : Hp) : Prop where
  pre : ∀ (k : Nat) (a : Addr), α[k]? = some a → α'[k]? = some a
  tup : ∀ (a : Addr) (vs : List V), SqT K H a vs → SqT K H' a vs
  frz : ∀ (a : Addr) (o : Obj) (u : HO), H a = some (.frz o u) → H' a = some (.frz o u)

section
variable {K : PySem.W.Frag} {α α1 α2 : List Addr} {H H1 H2 : Hp} {d : D} {v : V} {xs : List D} {vs : List V} {S : Hd} {env : Sl} {σ : L2.St}
theorem Xt.refl : Xt K α H α H := ⟨fun _ _ h => h, fun _ _ h => h, fun _ _ _ h => h⟩
theorem Xt.trans (a : Xt K α H α1 H1) (b : Xt K α1 H1 α2 H2) : Xt K α H α2 H2 := ⟨fun k x h => b.pre k x (a.pre k x h), fun x y h => b.tup x y (a.tup x y h), fun x y z h => b.frz x y z (a.frz x y z h)⟩
theorem Rp.mono (e : Xt K α H α1 H1) (h : Rp K α H d v) : Rp K α1 H1 d v := by
  induction h with
  | non => exact .non
  | bl b => exact .bl b
  | int i => exact .int i
  | str x => exact .str x
  | ty n => exact .ty n
  | ref h => exact .ref (e.pre _ _ h)
  | tup h l r ih => exact .tup (e.tup _ _ h) l ih
  | ro h =>
    rcases h with ⟨o, h⟩ | h
    · exact .ro (.inl ⟨o, e.frz _ _ _ h⟩)
    · exact .ro (.inr h)
theorem Rps.mono (e : Xt K α H α1 H1) (h : Rps K α H xs vs) : Rps K α1 H1 xs vs := ⟨h.len, fun i x v a b => (h.at_ i x v a b).mono e⟩
theorem En.mono (e : Xt K α H α1 H1) (h : En K α H env σ) : En K α1 H1 env σ := ⟨h.len, fun i d a => let ⟨v, b, c⟩ := h.at_ i d a; ⟨v, b, c.mono e⟩⟩
theorem Rps.nil : Rps K α H [] [] := ⟨rfl, fun i x v h => by simp at h⟩
theorem Rps.cons (h : Rp K α H d v) (r : Rps K α H xs vs) : Rps K α H (d :: xs) (v :: vs) := by
  refine ⟨by simp [r.len], fun i x w a b => ?_⟩
  cases i with
  | zero =>
    simp at a b
    subst a b
    exact h
  | succ i => exact r.at_ i x w (by simpa using a) (by simpa using b)
theorem Rps.append {ys : List D} {ws : List V} (h : Rps K α H xs vs) (r : Rps K α H ys ws) : Rps K α H (xs ++ ys) (vs ++ ws) := by
  refine ⟨by simp [h.len, r.len], fun i x w a b => ?_⟩
  by_cases hi : i < xs.length
  · rw [List.getElem?_append_left hi] at a
    rw [List.getElem?_append_left (by rw [h.len]; exact hi)] at b
    exact h.at_ i x w a b
  · rw [List.getElem?_append_right (by omega)] at a
    rw [List.getElem?_append_right (by rw [h.len]; omega), h.len] at b
    exact r.at_ _ x w a b
theorem Rps.one (h : Rp K α H d v) : Rps K α H [d] [v] := .cons h .nil
theorem Rps.uncons (h : Rps K α H (d :: xs) vs) : ∃ w ws, vs = w :: ws ∧ Rp K α H d w ∧ Rps K α H xs ws := by
  cases vs with
  | nil =>
    have := h.len
    simp at this
  | cons w ws => exact ⟨w, ws, rfl, h.at_ 0 d w rfl rfl, by have := h.len; simpa using this, fun i x v a b => h.at_ (i + 1) x v (by simpa using a) (by simpa using b)⟩
theorem Rps.unnil (h : Rps K α H [] vs) : vs = [] := List.eq_nil_of_length_eq_zero h.len
theorem Rps.take (h : Rps K α H xs vs) (n : Nat) : Rps K α H (xs.take n) (vs.take n) := by
  refine ⟨by simp [h.len], fun i x w a b => ?_⟩
  rw [List.getElem?_take] at a b
  split at a
  · rw [if_pos (by assumption)] at b
    exact h.at_ i x w a b
  · cases a
theorem Rps.drop (h : Rps K α H xs vs) (n : Nat) : Rps K α H (xs.drop n) (vs.drop n) := by
  refine ⟨by simp [h.len], fun i x w a b => ?_⟩
  rw [List.getElem?_drop] at a b
  exact h.at_ _ x w a b
theorem Rps.set (h : Rps K α H xs vs) (j : Nat) (r : Rp K α H d v) : Rps K α H (xs.set j d) (vs.set j v) := by
  refine ⟨by simp [h.len], fun i x w a b => ?_⟩
  by_cases e : j = i
  · subst e
    rw [List.getElem?_set] at a b
    simp only [if_true] at a b
    split at a
    · split at b
      · cases a
        cases b
        exact r
      · cases b
    · cases a
  · rw [List.getElem?_set_ne e] at a b
    exact h.at_ i x w a b
theorem Rps.reverse (h : Rps K α H xs vs) : Rps K α H xs.reverse vs.reverse := by
  refine ⟨by simp [h.len], fun i x w a b => ?_⟩
  by_cases hi : i < xs.length
  · rw [List.getElem?_reverse hi] at a
    rw [List.getElem?_reverse (by rw [h.len]; exact hi), h.len] at b
    exact h.at_ _ x w a b
  · rw [List.getElem?_eq_none (by simpa using hi)] at a
    cases a
theorem Rps.get (h : Rps K α H xs vs) {i : Nat} {x : D} (a : xs[i]? = some x) : ∃ v, vs[i]? = some v ∧ Rp K α H x v := by
  have hi : i < xs.length := (List.getElem?_eq_some_iff.mp a).1
  have hv : i < vs.length := by rw [h.len]; exact hi
  exact ⟨vs[i], by simp [hv], h.at_ i x _ a (by simp [hv])⟩
theorem Rps.getV (h : Rps K α H xs vs) {i : Nat} {v : V} (b : vs[i]? = some v) : ∃ x, xs[i]? = some x ∧ Rp K α H x v := by
  have hv : i < vs.length := (List.getElem?_eq_some_iff.mp b).1
  have hi : i < xs.length := by rw [← h.len]; exact hv
  exact ⟨xs[i], by simp [hi], h.at_ i _ v (by simp [hi]) b⟩
theorem En.set (h : En K α H env σ) (i : Nat) (r : Rp K α H d v) : En K α H (env.set i (some d)) (σ.set i (some v)) := by
  refine ⟨by simp [h.len], fun j x a => ?_⟩
  by_cases e : i = j
  · subst e
    rw [List.getElem?_set] at a
    simp only [if_true] at a
    split at a
    · cases a
      exact ⟨v, by rw [List.getElem?_set]; simp [h.len, *], r⟩
    · cases a
  · rw [List.getElem?_set_ne e] at a
    obtain ⟨w, b, c⟩ := h.at_ j x a
    exact ⟨w, by rw [List.getElem?_set_ne e]; exact b, c⟩
theorem Ob.mono (e : Xt K α H α1 H1) {o : O} {u : HO} (h : Ob K α H o u) : Ob K α1 H1 o u := by
  cases o with
  | lst xs =>
    cases u with
    | lst vs => exact Rps.mono e h
    | _ => exact h.elim
  | dct xs =>
    cases u with
    | dK vs => exact ⟨h.1, h.2.mono e⟩
    | _ => exact h.elim

/-- a new object that data knows -/
theorem Xt.fresh {p : Addr} {u : HO} (hp : H p = none) : Xt K α H α (upd H p u) :=
  ⟨fun _ _ h => h, fun a vs h => by
    rcases h with (h | ⟨o, h⟩) | h
    · exact .inl (.inl (by rw [upd_ne (ne_of_none h hp)]; exact h))
    · exact .inl (.inr ⟨o, by rw [upd_ne (ne_of_none h hp)]; exact h⟩)
    · exact .inr h, fun a o u h => by rw [upd_ne (ne_of_none h hp)]; exact h⟩
theorem Ok.fresh {p : Addr} {u : HO} (ok : Ok K α S H) (hp : H p = none) : Ok K α S (upd H p u) :=
  ⟨ok.len, ok.nd, fun k o a h1 h2 => by
    obtain ⟨w, e, b⟩ := ok.at_ k o a h1 h2
    exact ⟨w, by rw [upd_ne (ne_of_none e hp)]; exact e, b.mono (Xt.fresh hp)⟩⟩
theorem Xt.snoc {p : Addr} (hp : H p = none) {u : HO} : Xt K α H (α ++ [p]) (upd H p u) :=
  ⟨fun k a h => by rw [List.getElem?_append_left (List.getElem?_eq_some_iff.mp h).1]; exact h, (Xt.fresh (K := K) (α := α) hp).tup, (Xt.fresh (K := K) (α := α) hp).frz⟩
theorem Ok.snoc {p : Addr} {o : O} {u : HO} (ok : Ok K α S H) (hp : H p = none) (b : Ob K α H o u) : Ok K (α ++ [p]) (S ++ [o]) (upd H p u) := by
  have old : ∀ (i : Nat) (a : Addr), α[i]? = some a → a ≠ p := fun i a h => by
    have hi : i < S.length := by rw [← ok.len]; exact (List.getElem?_eq_some_iff.mp h).1
    obtain ⟨w, e, _⟩ := ok.at_ i _ a (List.getElem?_eq_getElem hi) h
    exact ne_of_none e hp
  have spl : ∀ (i : Nat) (a : Addr), (α ++ [p])[i]? = some a → (i < α.length ∧ α[i]? = some a) ∨ (i = α.length ∧ a = p) := fun i a h => by
    by_cases hi : i < α.length
    · rw [List.getElem?_append_left hi] at h
      exact .inl ⟨hi, h⟩
    · rw [List.getElem?_append_right (by omega)] at h
      have h0 : i - α.length = 0 := by
        have := (List.getElem?_eq_some_iff.mp h).1
        simp at this
        omega
      rw [h0] at h
      simp at h
      exact .inr ⟨by omega, h.symm⟩
  refine ⟨by simp [ok.len], fun i j a h1 h2 => ?_, fun k q a h1 h2 => ?_⟩
  · rcases spl i a h1 with ⟨_, q1⟩ | ⟨e1, f1⟩
    · rcases spl j a h2 with ⟨_, q2⟩ | ⟨_, f2⟩
      · exact ok.nd i j a q1 q2
      · exact absurd f2 (old i a q1)
    · rcases spl j a h2 with ⟨_, q2⟩ | ⟨e2, _⟩
      · exact absurd f1 (old j a q2)
      · omega
  · rcases spl k a h2 with ⟨hk, q2⟩ | ⟨e1, f1⟩
    · rw [List.getElem?_append_left (by rw [← ok.len]; exact hk)] at h1
      obtain ⟨w, e, c⟩ := ok.at_ k q a h1 q2
      exact ⟨w, by rw [upd_ne (old k a q2)]; exact e, c.mono (Xt.snoc hp)⟩
    · subst f1
      rw [List.getElem?_append_right (by rw [← ok.len]; omega), e1, ok.len, Nat.sub_self] at h1
      have e : o = q := by simpa using h1
      subst e
      exact ⟨u, upd_same, b.mono (Xt.snoc hp)⟩
theorem Rp.snoc {p : Addr} (hl : α.length = S.length) {H' : Hp} : Rp K (α ++ [p]) H' (.ref S.length) (.ref p) := .ref (by rw [← hl]; simp)
/-- a list of ours is changed -/
theorem Xt.write {p : Addr} {ws : List V} {u : HO} (hp : H p = some (.lst ws)) : Xt K α H α (upd H p u) :=
  ⟨fun _ _ h => h, fun a vs h => by
    rcases h with (h | ⟨o, h⟩) | h
    · exact .inl (.inl (by rw [upd_ne (ne_of h hp (by intro z; cases z))]; exact h))
    · exact .inl (.inr ⟨o, by rw [upd_ne (ne_of h hp (by intro z; cases z))]; exact h⟩)
    · exact .inr h, fun a o u h => by rw [upd_ne (ne_of h hp (by intro z; cases z))]; exact h⟩
theorem Ok.write {p : Addr} {ws : List V} {o : O} {u : HO} {k : Nat} (ok : Ok K α S H) (hk : α[k]? = some p) (hp : H p = some (.lst ws)) (b : Ob K α H o u) : Ok K α (S.set k o) (upd H p u) := by
  refine ⟨by simp [ok.len], ok.nd, fun j q a h1 h2 => ?_⟩
  by_cases e : k = j
  · subst e
    rw [hk] at h2
    cases h2
    rw [List.getElem?_set] at h1
    simp only [if_true] at h1
    split at h1
    · cases h1
      exact ⟨u, upd_same, b.mono (Xt.write hp)⟩
    · cases h1
  · rw [List.getElem?_set_ne e] at h1
    obtain ⟨w, f, c⟩ := ok.at_ j q a h1 h2
    exact ⟨w, by rw [upd_ne (fun z => e (ok.nd k j a (by rw [z]; exact hk) h2))]; exact f, c.mono (Xt.write hp)⟩
/-- a dict of ours is changed -/
theorem Xt.writeD {p : Addr} {ws : List (Key × V)} {u : HO} (hp : H p = some (.dK ws)) : Xt K α H α (upd H p u) :=
  ⟨fun _ _ h => h, fun a vs h => by
    rcases h with (h | ⟨o, h⟩) | h
    · exact .inl (.inl (by rw [upd_ne (ne_of h hp (by intro z; cases z))]; exact h))
    · exact .inl (.inr ⟨o, by rw [upd_ne (ne_of h hp (by intro z; cases z))]; exact h⟩)
    · exact .inr h, fun a o u h => by rw [upd_ne (ne_of h hp (by intro z; cases z))]; exact h⟩
theorem Ok.writeD {p : Addr} {ws : List (Key × V)} {o : O} {u : HO} {k : Nat} (ok : Ok K α S H) (hk : α[k]? = some p) (hp : H p = some (.dK ws)) (b : Ob K α H o u) : Ok K α (S.set k o) (upd H p u) := by
  refine ⟨by simp [ok.len], ok.nd, fun j q a h1 h2 => ?_⟩
  by_cases e : k = j
  · subst e
    rw [hk] at h2
    cases h2
    rw [List.getElem?_set] at h1
    simp only [if_true] at h1
    split at h1
    · cases h1
      exact ⟨u, upd_same, b.mono (Xt.writeD hp)⟩
    · cases h1
  · rw [List.getElem?_set_ne e] at h1
    obtain ⟨w, f, c⟩ := ok.at_ j q a h1 h2
    exact ⟨w, by rw [upd_ne (fun z => e (ok.nd k j a (by rw [z]; exact hk) h2))]; exact f, c.mono (Xt.writeD hp)⟩
theorem Ok.dct {k : Nat} {ks : List (Key × D)} {v : V} (ok : Ok K α S H) (h : S[k]? = some (.dct ks)) (r : Rp K α H (.ref k) v) : ∃ a vs, v = .ref a ∧ α[k]? = some a ∧ H a = some (.dK vs) ∧ vs.map (·.1) = ks.map (·.1) ∧ Rps K α H (ks.map (·.2)) (vs.map (·.2)) := by
  cases r with
  | ref e =>
    obtain ⟨u, e2, b⟩ := ok.at_ k _ _ h e
    cases u with
    | dK vs => exact ⟨_, vs, rfl, e, e2, b.1, b.2⟩
    | _ => exact b.elim
theorem Ok.get {k : Nat} {o : O} (ok : Ok K α S H) (h : S[k]? = some o) : ∃ a u, α[k]? = some a ∧ H a = some u ∧ Ob K α H o u := by
  have hk : k < α.length := by rw [ok.len]; exact (List.getElem?_eq_some_iff.mp h).1
  obtain ⟨u, e, b⟩ := ok.at_ k o _ h (List.getElem?_eq_getElem hk)
  exact ⟨_, u, List.getElem?_eq_getElem hk, e, b⟩
theorem Ok.lst {k : Nat} {xs : List D} {v : V} (ok : Ok K α S H) (h : S[k]? = some (.lst xs)) (r : Rp K α H (.ref k) v) : ∃ a vs, v = .ref a ∧ α[k]? = some a ∧ H a = some (.lst vs) ∧ Rps K α H xs vs := by
  cases r with
  | ref e =>
    obtain ⟨u, e2, b⟩ := ok.at_ k _ _ h e
    cases u with
    | lst vs => exact ⟨_, vs, rfl, e, e2, b⟩
    | _ => exact b.elim
end
end Ix

namespace Ix
open PySem L2
/-! ### the language -/
inductive Bo where | add | sub | mul | fdiv | mod | pow
inductive Co where | eq | ne | lt | le | gt | ge | is_ | isnot | in_ | notin
inductive Cd where | eq | ne | in_ | notin
inductive Bl where | len | int_ | max_ | min_ | abs_ | all_ | any_ | tuple_ | list_ | isi | str_ | sum_ | sorted_ | sortp_ | ssort_ | lrange_ | slen | sint
inductive Ik where | seq | range1 | range2 | zip | enum | chars
inductive Mt where | append | clear
inductive G where | name (i : Nat) | tup (g : G) | nil | cons (g h : G)
inductive E where
  | var (i : Nat) | c (d : D) | nop
  | bin (o : Bo) (a b : E) | neg (a : E) | not_ (a : E)
  | cmp (o : Co) (a b : E) | cmpd (o : Cd) (a b : E) | chain (o p : Co) (a b c : E)
  | and_ (a b : E) | or_ (a b : E) | orv (a b : E) | ite (c a b : E)
  | ix (a i : E) | sl (l h : Bool) (a lo hi : E) | rev (a : E)
  | tup (es : E) | lst (es : E) | nil | cons (e es : E)
  | dct (es : E) | dget (a i : E)
  | cix (t : List (Str × D)) (a : E) | cget (t : List (Str × D)) (a : E) | cnts (a b : E) | rpr (a : E)
  | call (f : Nat) (es : E) | callK (f : Nat) (es ks : E) (perm : List Nat)
  | blt (b : Bl) (es : E) | meth (m : Mt) (o es : E)
  | lc (k : Ik) (es : E) (g : G) (ifs elt : E) (own : List Nat)
  | getd (a i d : E) | din (a b : E) | joinS (z : Str) (a : E) | cin (neg : Bool) (t : List (Str × D)) (a : E) | sgn (a b : E) | stw (a : E) (z : Str) | split (a : E) (z : Str)
inductive Sx where
  | skip | seq (s t : Sx) | asg (g : G) (e : E) | asgL (g : G) (e : E) | setix (o i e : E) | drop (e : E) | ret (e : E) | retN
  | ite (c : E) (s t : Sx) | for_ (k : Ik) (es : E) (g : G) (b : Sx) | brk | cont | stuck | aug (i : Nat) (o : Bo) (e : E) | while_ (c : E) (b : Sx)
inductive Out where | nx | ret (d : D) | brk | cont

/-! ### operations -/
def most : Nat := 100000
def seqOf (S : Hd) : D → Option (List D)
  | .tup xs => some xs
  | .ref k => match S[k]? with | some (.lst xs) => some xs | _ => none
  | .ro ns => some (ns.map .int)
  | _ => none
def isTup : D → Bool
  | .tup _ => true
  | _ => false
def tru (S : Hd) : D → Option Bool
  | .non => some false
  | .bl b => some b
  | .int i => some (i != 0)
  | .str _ => none
  | .ty _ => none
  | d => (seqOf S d).map fun xs => !xs.isEmpty
def flat : D → Bool
  | .non => true | .bl _ => true | .int _ => true | .str _ => true | _ => false
def eqF : D → D → Bool
  | .non, .non => true
  | .bl a, .bl b => a == b
  | .bl a, .int b => (if a then 1 else 0) == b
  | .int a, .bl b => a == (if b then 1 else 0)
  | .int a, .int b => a == b
  | .str a, .str b => a == b
  | _, _ => false
def alloc (S : Hd) (xs : List D) : D × Hd := (.ref S.length, S ++ [.lst xs])
def binD : Bo → D → D → Hd → Option (D × Hd)
  | .add, .int i, .int j, S => some (.int (i + j), S)
  | .add, .str x, .str y, S => if x.length + y.length ≤ most then some (.str (x ++ y), S) else none
  | .add, .tup xs, .tup ys, S => if xs.length + ys.length ≤ most then some (.tup (xs ++ ys), S) else none
  | .add, .ref a, .ref b, S => match S[a]?, S[b]? with
    | some (.lst xs), some (.lst ys) => if xs.length + ys.length ≤ most then some (alloc S (xs ++ ys)) else none
    | _, _ => none
  | .add, .ro ns, .ref b, S => match S[b]? with
    | some (.lst ys) => if ns.length + ys.length ≤ most then some (alloc S (ns.map .int ++ ys)) else none
    | _ => none
  | .sub, .int i, .int j, S => some (.int (i - j), S)
  | .mul, .int i, .int j, S => if i.natAbs.log2 + j.natAbs.log2 < 1000000 then some (.int (i * j), S) else none
  | .mul, .ref a, .int k, S => match S[a]? with
    | some (.lst xs) => if -(2 ^ 63) ≤ k ∧ k < 2 ^ 63 ∧ xs.length * k.toNat ≤ most then some (alloc S (List.replicate k.toNat xs).flatten) else none
    | _ => none
  | .fdiv, .int i, .int j, S => if 0 < j ∧ j.natAbs.log2 < 9000 then some (.int (i / j), S) else none
  | .mod, .int i, .int j, S => if 0 < j then some (.int (i % j), S) else none
  | .pow, .int i, .int j, S => if 0 ≤ j ∧ j ≤ 1000000 ∧ i.natAbs < 2 ^ 64 then some (.int (i ^ j.toNat), S) else none
  | _, _, _, _ => none
/-- what == tells of scalars alike -/
def scalD : D → D → Option Bool
  | .non, .non => some true | .int i, .int j => some (decide (i = j)) | .bl i, .bl j => some (decide (i = j)) | .str i, .str j => some (decide (i = j))
  | .non, .int _ => some false | .int _, .non => some false | .non, .bl _ => some false | .bl _, .non => some false | .non, .str _ => some false | .str _, .non => some false
  | .int _, .str _ => some false | .str _, .int _ => some false | .bl _, .str _ => some false | .str _, .bl _ => some false
  | _, _ => none
def isNon : D → Bool
  | .non => true | _ => false
def cmpD : Co → D → D → Hd → Option (D × Hd)
  | .eq, x, y, S => (scalD x y).map fun b => (.bl b, S)
  | .ne, x, y, S => (scalD x y).map fun b => (.bl (!b), S)
  | .lt, .int i, .int j, S => some (.bl (decide (i < j)), S)
  | .le, .int i, .int j, S => some (.bl (decide (i ≤ j)), S)
  | .gt, .int i, .int j, S => some (.bl (decide (j < i)), S)
  | .ge, .int i, .int j, S => some (.bl (decide (j ≤ i)), S)
  | .is_, x, .non, S => some (.bl (isNon x), S)
  | .is_, .bl i, .bl j, S => some (.bl (decide (i = j)), S)
  | .isnot, .bl i, .bl j, S => some (.bl (!decide (i = j)), S)
  | .isnot, x, .non, S => some (.bl (!isNon x), S)
  | .in_, x, y, S => if flat x then (seqOf S y).bind fun xs => if xs.all flat then some (.bl (xs.any fun z => eqF z x), S) else none else none
  | .notin, x, y, S => if flat x then (seqOf S y).bind fun xs => if xs.all flat then some (.bl (!xs.any fun z => eqF z x), S) else none else none
  | _, _, _, _ => none
/-- keys and what stands beside them -/
def keyD : D → Option Key
  | .int i => some (.inl i)
  | .str x => some (.inr x)
  | _ => none
def pairUp : List D → Option (List (Key × D))
  | [] => some []
  | k :: v :: ds => (keyD k).bind fun x => (pairUp ds).map ((x, v) :: ·)
  | _ => none
def lookC (t : List (Str × D)) (z : Str) : Option D := (t.find? fun p => decide (p.1 = z)).map (·.2)
def strsD : List D → Option (List Str)
  | [] => some []
  | .str z :: ds => (strsD ds).map (z :: ·)
  | _ => none
def cntD (x y : D) (S : Hd) : Option (D × Hd) := match x, y with
  | .ref k, .str z => match S[k]? with
    | some (.lst xs) => (strsD xs).map fun ys => (.int (PySem.Spec.countIn (.str z) (ys.map PySem.PyData.str)), S)
    | _ => none
  | _, _ => none
def isDct (S : Hd) : D → Bool
  | .ref k => match S[k]? with
    | some (.dct _) => true
    | _ => false
  | _ => false
def joinD (z : Str) (x : D) (S : Hd) : Option (D × Hd) := ((seqOf S x).bind strsD).bind fun ys => if (ys.map (·.length)).sum + ys.length * z.length ≤ 16777216 then some (.str (Txt.join z ys), S) else none
def isE : Option O → Bool
  | some (.dct []) => true
  | _ => false
def findK (ks : List (Key × D)) (k : Key) : Option D := (ks.find? fun kv => decide (kv.1 = k)).map (·.2)
def dgetD (x i : D) (S : Hd) : Option (D × Hd) := match x with
  | .ref k => match S[k]? with
    | some (.dct ks) => (keyD i).bind fun y => (findK ks y).map fun d => (d, S)
    | _ => none
  | _ => none
def getdD (x i d : D) (S : Hd) : Option (D × Hd) := match x with
  | .ref k => match S[k]? with
    | some (.dct ks) => (keyD i).map fun y => ((findK ks y).getD d, S)
    | _ => none
  | _ => none
def dinD (x y : D) (S : Hd) : Option (D × Hd) := match y with
  | .ref k => match S[k]? with
    | some (.dct ks) => (keyD x).map fun z => (.bl (findK ks z).isSome, S)
    | _ => none
  | _ => none
/-- data as the library compares it -/
def pyL (f : D → Option PyData) : List D → Option (List PyData)
  | [] => some []
  | d :: ds => (f d).bind fun x => (pyL f ds).map (x :: ·)
def py : Nat → Hd → D → Option PyData
  | 0, _, _ => none
  | _ + 1, _, .non => some .none
  | _ + 1, _, .bl b => some (.bool b)
  | _ + 1, _, .int i => some (.int i)
  | _ + 1, _, .str x => some (.str x)
  | n + 1, S, .tup xs => (pyL (py n S) xs).map .tuple
  | n + 1, S, .ref k => match S[k]? with
    | some (.lst xs) => (pyL (py n S) xs).map .list
    | _ => none
  | _ + 1, _, _ => none
def rprD (x : D) (S : Hd) : Option (D × Hd) := match x with
  | .int _ | .bl _ | .str _ | .non | .ro _ | .ty _ => none
  | x => (py 9 S x).bind fun d => if PySem.PyData.showable d = true ∧ PySem.PyData.hasDict d = false ∧ PySem.PyData.depth d ≤ 64 ∧ (PySem.PyData.shown d).length ≤ PySem.sizeLine then some (.str (PySem.PyData.shown d), S) else none
def cmpdD : Cd → D → D → Hd → Option (D × Hd)
  | .eq, x, y, S => (py 9 S x).bind fun d => (py 9 S y).bind fun e => if SeqAt.shaped d = true ∧ SeqAt.shaped e = true then some (.bl (PyData.eqv d e), S) else none
  | .ne, x, y, S => (py 9 S x).bind fun d => (py 9 S y).bind fun e => if SeqAt.shaped d = true ∧ SeqAt.shaped e = true then some (.bl (!PyData.eqv d e), S) else none
  | .in_, x, y, S => (py 9 S x).bind fun d => (py 9 S y).bind fun e => match e with
    | .list ds => if SeqAt.shaped d = true ∧ SeqAt.shaped (.list ds) = true then some (.bl (ds.any fun z => PyData.eqv z d), S) else none
    | _ => none
  | .notin, x, y, S => (py 9 S x).bind fun d => (py 9 S y).bind fun e => match e with
    | .list ds => if SeqAt.shaped d = true ∧ SeqAt.shaped (.list ds) = true then some (.bl (!ds.any fun z => PyData.eqv z d), S) else none
    | _ => none
def ixD (x i : D) (S : Hd) : Option (D × Hd) := match i with
  | .int k => (seqOf S x).bind fun xs => (atI xs k).map fun d => (d, S)
  | _ => none
def cutD (xs : List D) (lo hi : Option Int) : List D := (xs.drop (HT.sIx xs.length 0 lo)).take (HT.sIx xs.length xs.length hi - HT.sIx xs.length 0 lo)
def evP (b : Bool) (r : Option (D × Hd)) (S : Hd) : Option (Option Int × Hd) := if b = true then r.bind fun x => match x.1 with
    | .int i => some (some i, x.2)
    | _ => none
  else some (none, S)
def slD (x : D) (l h : Option Int) (S : Hd) : Option (D × Hd) := match x with
  | .str z => if z.length ≤ most then some (.str (cutS z l h), S) else none
  | .tup xs => some (.tup (cutD xs l h), S)
  | x => (seqOf S x).map fun xs => alloc S (cutD xs l h)
def revD (x : D) (S : Hd) : Option (D × Hd) := match x with
  | .tup xs => some (.tup xs.reverse, S)
  | x => (seqOf S x).map fun xs => alloc S xs.reverse
def tyName (S : Hd) : D → Option String
  | .non => some "NoneType" | .bl _ => some "bool" | .int _ => some "int" | .str _ => some "str" | .tup _ => some "tuple" | .ro _ => some "list"
  | .ref k => match S[k]? with | some (.lst _) => some "list" | _ => none
  | .ty _ => none
def isaN (n c : String) : Bool := n == c || (n == "bool" && c == "int")
def plainTy (c : String) : Bool := ["int", "bool", "str", "tuple", "list"].contains c
def bools : List D → Option (List Bool)
  | [] => some []
  | .bl b :: ds => (bools ds).map (b :: ·)
  | _ => none
def intsD : List D → Option (List Int)
  | [] => some []
  | .int i :: ds => (intsD ds).map (i :: ·)
  | _ => none
def maxL : List Int → Option Int
  | [] => none
  | i :: is => some (is.foldl (fun a b => if b > a then b else a) i)
def insI (i : Int) : List Int → List Int
  | [] => [i]
  | j :: js => if i ≤ j then i :: j :: js else j :: insI i js
def srtI : List Int → List Int
  | [] => []
  | i :: is => insI i (srtI is)
/-- the numbers of a list -/
def intsAt (S : Hd) (x : D) : Option (List Int) := if isTup x = true then none else (seqOf S x).bind intsD
def pairsD : List D → Option (List (Int × Int))
  | [] => some []
  | .tup [.int i, .int j] :: ds => (pairsD ds).map ((i, j) :: ·)
  | _ => none
def lexLe (p q : Int × Int) : Prop := p.1 < q.1 ∨ (p.1 = q.1 ∧ p.2 ≤ q.2)
instance (p q : Int × Int) : Decidable (lexLe p q) := by unfold lexLe; infer_instance
def insP (p : Int × Int) : List (Int × Int) → List (Int × Int)
  | [] => [p]
  | q :: qs => if lexLe p q then p :: q :: qs else q :: insP p qs
def srtP : List (Int × Int) → List (Int × Int)
  | [] => []
  | p :: ps => insP p (srtP ps)
def pairD (p : Int × Int) : D := .tup [.int p.1, .int p.2]
def pairsAt (S : Hd) (x : D) : Option (List (Int × Int)) := if isTup x = true then none else (seqOf S x).bind pairsD
/-- each number once -/
def insU (i : Int) : List Int → List Int
  | [] => [i]
  | j :: js => if i < j then i :: j :: js else if i = j then j :: js else j :: insU i js
def srtU : List Int → List Int
  | [] => []
  | i :: is => insU i (srtU is)
def tysOf : List D → Option (List String)
  | [] => some []
  | .ty c :: ds => if plainTy c then (tysOf ds).map (c :: ·) else none
  | _ => none
def bltD : Bl → List D → Hd → Option (D × Hd)
  | .len, [x], S => (seqOf S x).map fun xs => (.int xs.length, S)
  | .int_, [.int i], S => some (.int i, S)
  | .int_, [.bl b], S => some (.int (if b then 1 else 0), S)
  | .abs_, [.int i], S => some (.int (if i < 0 then -i else i), S)
  | .max_, [.int i, .int j], S => some (.int (if j > i then j else i), S)
  | .max_, [x], S => ((intsAt S x).bind maxL).map fun m => (.int m, S)
  | .sum_, [x], S => (intsAt S x).map fun ns => (.int ns.sum, S)
  | .sorted_, [x], S => (intsAt S x).map fun ns => alloc S ((srtI ns).map .int)
  | .sortp_, [x], S => (pairsAt S x).map fun ps => alloc S ((srtP ps).map pairD)
  | .ssort_, [x], S => (intsAt S x).bind fun ns => if ns.length ≤ 4000 ∧ (srtU ns).length < 64 then some (alloc S ((srtU ns).map .int)) else none
  | .lrange_, [.int a, .int b], S => if -(2 ^ 62) ≤ a ∧ a < 2 ^ 62 ∧ -(2 ^ 62) ≤ b ∧ b < 2 ^ 62 ∧ (b - a).toNat ≤ most then some (alloc S ((List.range (b - a).toNat).map fun (i : Nat) => .int (a + (i : Int)))) else none
  | .min_, [.int i, .int j], S => some (.int (if j < i then j else i), S)
  | .all_, [x], S => if isTup x then none else ((seqOf S x).bind bools).map fun bs => (.bl (bs.all id), S)
  | .any_, [x], S => if isTup x then none else ((seqOf S x).bind bools).map fun bs => (.bl (bs.any id), S)
  | .tuple_, [x], S => (seqOf S x).map fun xs => (.tup xs, S)
  | .list_, [x], S => (seqOf S x).map fun xs => alloc S xs
  | .slen, [.str z], S => if z.length ≤ most then some (.int z.length, S) else none
  | .sint, [.str z], S => if z.length ≤ 640 then (PySem.intText? z).map fun n => (.int n, S) else none
  | .str_, [.str z], S => some (.str z, S)
  | .str_, [.int i], S => if i.natAbs.log2 < 1920 then some (.str (toString i), S) else none
  | .isi, [x, .ty c], S => if plainTy c then (tyName S x).map fun n => (.bl (isaN n c), S) else none
  | .isi, [x, .tup cs], S => (tysOf cs).bind fun ts => (tyName S x).map fun n => (.bl (ts.any (isaN n)), S)
  | _, _, _ => none
def methD : Mt → D → List D → Hd → Option (D × Hd)
  | .clear, .ref k, [], S => match S[k]? with
    | some (.lst _) => some (.non, S.set k (.lst []))
    | _ => none
  | .append, .ref k, [x], S => match S[k]? with
    | some (.lst xs) => if xs.length < most then some (.non, S.set k (.lst (xs ++ [x]))) else none
    | _ => none
  | _, _, _, _ => none
def setD (o i x : D) (S : Hd) : Option Hd := match o, i with
  | .ref k, .int j => match S[k]? with
    | some (.lst xs) => (ixN xs.length j).map fun m => S.set k (.lst (xs.set m x))
    | _ => none
  | _, _ => none
def items : Ik → List D → Hd → Option (List D)
  | .chars, [.str z], _ => some (z.cps.toList.map fun c => .str ⟨#[c]⟩)
  | .seq, [x], S => seqOf S x
  | .range1, [.int n], _ => if -(2 ^ 62) ≤ n ∧ n < 2 ^ 62 then some ((List.range n.toNat).map fun (i : Nat) => .int (0 + (i : Int))) else none
  | .range2, [.int a, .int b], _ => if -(2 ^ 62) ≤ a ∧ a < 2 ^ 62 ∧ -(2 ^ 62) ≤ b ∧ b < 2 ^ 62 then some ((List.range (b - a).toNat).map fun (i : Nat) => .int (a + (i : Int))) else none
  | .enum, [x], S => (seqOf S x).map fun xs => xs.mapIdx fun i d => .tup [.int (i : Int), d]
  | .zip, [x, y], S => if isTup x = isTup y ∨ isTup x = true then (seqOf S x).bind fun xs => (seqOf S y).map fun ys => List.zipWith (fun a b => .tup [a, b]) xs ys else none
  | _, _, _ => none
mutual
  def gOk (own : List Nat) : G → Bool
    | .name i => own.contains i
    | .tup g => gOk own g
    | .nil => true
    | .cons g h => gOk own g && gOk own h
end
def gLen : G → Option Nat
  | .nil => some 0
  | .cons _ h => (gLen h).map (· + 1)
  | _ => none
/-- targets: a name, or a tuple of targets; .nil and .cons read the items of a tuple -/
def asgG : G → D → Sl → Option Sl
  | .name i, d, env => some (env.set i (some d))
  | .tup g, .tup xs, env => asgG g (.tup xs) env
  | .nil, .tup [], env => some env
  | .cons g h, .tup (x :: xs), env => (asgG g x env).bind fun env1 => asgG h (.tup xs) env1
  | _, _, _ => none
def wipeD (env : Sl) : List Nat → Sl
  | [] => env
  | v :: vs => (wipeD env vs).set v none
open Classical in
noncomputable def loopH (turn : D → Hd → Option Hd) (still : Hd → Prop) : List D → Hd → Option Hd
  | [], S => some S
  | d :: ds, S => (turn d S).bind fun S1 => if still S1 then loopH turn still ds S1 else none
open Classical in
noncomputable def loopS (turn : D → Sl → Hd → Option (Out × Sl × Hd)) (still : Hd → Prop) : List D → Sl → Hd → Option (Out × Sl × Hd)
  | [], env, S => some (.nx, env, S)
  | d :: ds, env, S => (turn d env S).bind fun r => match r.1 with
    | .brk => some (.nx, r.2)
    | .ret x => some (.ret x, r.2)
    | _ => if still r.2.2 then loopS turn still ds r.2.1 r.2.2 else none
open Classical in
noncomputable def loopW (test : Sl → Hd → Option (Bool × Hd)) (body : Sl → Hd → Option (Out × Sl × Hd)) : Nat → Sl → Hd → Option (Out × Sl × Hd)
  | 0, _, _ => none
  | n + 1, env, S => (test env S).bind fun t => if t.1 = true then (body env t.2).bind fun r => match r.1 with
    | .brk => some (.nx, r.2)
    | .ret x => some (.ret x, r.2)
    | _ => loopW test body n r.2.1 r.2.2
    else some (.nx, env, t.2)
def argsOf : D → Option (List D)
  | .tup ds => some ds
  | _ => none
def tst (r : Option (D × Hd)) : Option (Bool × Hd) := r.bind fun x => (tru x.2 x.1).map fun b => (b, x.2)
def pushD (k : Nat) (x : D) (S : Hd) : Option Hd := match S[k]? with
  | some (.lst xs) => if xs.length < most then some (S.set k (.lst (xs ++ [x]))) else none
  | _ => none
def isLst (S : Hd) : D → Bool
  | .ref k => match S[k]? with
    | some (.lst _) => true
    | _ => false
  | _ => false
abbrev Fs := Nat → List D → Hd → Option (D × Hd)
def permV {β : Type} (perm : List Nat) (zs : List β) : List β := perm.filterMap fun i => zs[i]?
open Classical in
noncomputable def ev (Γ : Fs) : E → Sl → Hd → Option (D × Hd)
  | .var i, env, S => match env[i]? with
    | some (some d) => some (d, S)
    | _ => none
  | .c d, _, S => some (d, S)
  | .nop, _, S => some (.ty "nop", S)
  | .bin o a b, env, S => (ev Γ a env S).bind fun x => (ev Γ b env x.2).bind fun y => binD o x.1 y.1 y.2
  | .neg a, env, S => (ev Γ a env S).bind fun x => match x.1 with
    | .int i => some (.int (-i), x.2)
    | _ => none
  | .not_ a, env, S => (tst (ev Γ a env S)).map fun x => (.bl (!x.1), x.2)
  | .cmp o a b, env, S => (ev Γ a env S).bind fun x => (ev Γ b env x.2).bind fun y => cmpD o x.1 y.1 y.2
  | .cmpd o a b, env, S => (ev Γ a env S).bind fun x => (ev Γ b env x.2).bind fun y => cmpdD o x.1 y.1 y.2
  | .chain o p a b c, env, S => (ev Γ a env S).bind fun x => (ev Γ b env x.2).bind fun y => (cmpD o x.1 y.1 y.2).bind fun z => match z.1 with
    | .bl true => (ev Γ c env z.2).bind fun u => cmpD p y.1 u.1 u.2
    | .bl false => some z
    | _ => none
  | .and_ a b, env, S => (ev Γ a env S).bind fun x => match x.1 with
    | .bl true => ev Γ b env x.2
    | .bl false => some x
    | _ => none
  | .or_ a b, env, S => (ev Γ a env S).bind fun x => match x.1 with
    | .bl false => ev Γ b env x.2
    | .bl true => some x
    | _ => none
  | .orv a b, env, S => (ev Γ a env S).bind fun x => (tru x.2 x.1).bind fun k => if k = true then some x else ev Γ b env x.2
  | .ite c a b, env, S => (tst (ev Γ c env S)).bind fun x => if x.1 = true then ev Γ a env x.2 else ev Γ b env x.2
  | .ix a b, env, S => (ev Γ a env S).bind fun x => (ev Γ b env x.2).bind fun y => ixD x.1 y.1 y.2
  | .sl bl bh a l h, env, S => (ev Γ a env S).bind fun x => (evP bl (ev Γ l env x.2) x.2).bind fun y => (evP bh (ev Γ h env y.2) y.2).bind fun z => slD x.1 y.1 z.1 z.2
  | .rev a, env, S => (ev Γ a env S).bind fun x => revD x.1 x.2
  | .tup es, env, S => (ev Γ es env S).bind fun x => (argsOf x.1).bind fun ds => if ds.length ≤ most then some (.tup ds, x.2) else none
  | .lst es, env, S => (ev Γ es env S).bind fun x => (argsOf x.1).bind fun ds => if ds.length ≤ most then some (alloc x.2 ds) else none
  | .nil, _, S => some (.tup [], S)
  | .cons e es, env, S => (ev Γ e env S).bind fun x => (ev Γ es env x.2).bind fun y => (argsOf y.1).map fun ds => (.tup (x.1 :: ds), y.2)
  | .dct es, env, S => (ev Γ es env (S ++ [.dct []])).bind fun x => (argsOf x.1).bind fun ds => (pairUp ds).bind fun ks => if (ks.map (·.1)).Nodup ∧ ks.length ≤ 15 ∧ isE (x.2[S.length]?) = true then some (.ref S.length, x.2.set S.length (.dct ks)) else none
  | .cix t a, env, S => (ev Γ a env S).bind fun x => match x.1 with
    | .str z => (lookC t z).map fun d => (d, x.2)
    | _ => none
  | .cget t a, env, S => (ev Γ a env S).bind fun x => match x.1 with
    | .str z => some ((lookC t z).getD .non, x.2)
    | _ => none
  | .rpr a, env, S => (ev Γ a env S).bind fun x => rprD x.1 x.2
  | .cnts a b, env, S => (ev Γ a env S).bind fun x => if isLst x.2 x.1 = true then (ev Γ b env x.2).bind fun y => cntD x.1 y.1 y.2 else none
  | .getd a i e, env, S => (ev Γ a env S).bind fun x => if isDct x.2 x.1 = true then (ev Γ i env x.2).bind fun y => (ev Γ e env y.2).bind fun z => getdD x.1 y.1 z.1 z.2 else none
  | .din a b, env, S => (ev Γ a env S).bind fun x => (ev Γ b env x.2).bind fun y => dinD x.1 y.1 y.2
  | .cin neg t a, env, S => (ev Γ a env S).bind fun x => match x.1 with
    | .str z => some (.bl (if neg then !(lookC t z).isSome else (lookC t z).isSome), x.2)
    | _ => none
  | .sgn a b, env, S => (ev Γ a env S).bind fun x => (ev Γ b env x.2).bind fun y => match x.1, y.1 with
    | .str u, .str z => if u.cps.size = 1 then some (.bl (decide (u.cps.getD 0 0 ∈ z.cps.toList)), y.2) else none
    | _, _ => none
  | .stw a z, env, S => (ev Γ a env S).bind fun x => match x.1 with
    | .str u => some (.bl (Txt.startswith u z), x.2)
    | _ => none
  | .split a z, env, S => (ev Γ a env S).bind fun x => match x.1 with
    | .str u => if (z.length == 0) = false ∧ u.length ≤ most ∧ (Txt.split u z).length ≤ most then some (alloc x.2 ((Txt.split u z).map .str)) else none
    | _ => none
  | .joinS z a, env, S => (ev Γ a env S).bind fun x => joinD z x.1 x.2
  | .dget a i, env, S => (ev Γ a env S).bind fun x => (ev Γ i env x.2).bind fun y => dgetD x.1 y.1 y.2
  | .call f es, env, S => (ev Γ es env S).bind fun x => (argsOf x.1).bind fun ds => Γ f ds x.2
  | .callK f es ks perm, env, S => (ev Γ es env S).bind fun x => (argsOf x.1).bind fun ds => (ev Γ ks env x.2).bind fun y => (argsOf y.1).bind fun zs => Γ f (permV perm (ds ++ zs)) y.2
  | .blt b es, env, S => (ev Γ es env S).bind fun x => (argsOf x.1).bind fun ds => bltD b ds x.2
  | .meth m o es, env, S => (ev Γ o env S).bind fun x => if isLst x.2 x.1 = true then (ev Γ es env x.2).bind fun y => (argsOf y.1).bind fun ds => methD m x.1 ds y.2 else none
  | .lc k es g ifs elt own, env, S => if gOk own g = true then (ev Γ es env S).bind fun x => (argsOf x.1).bind fun ds => (items k ds x.2).bind fun its =>
      (loopH (fun d S1 => (asgG g d (wipeD env own)).bind fun env1 => (tst (ev Γ ifs env1 S1)).bind fun t => if t.1 = true then (ev Γ elt env1 t.2).bind fun y => pushD x.2.length y.1 y.2 else some t.2)
        (fun S1 => items k ds S1 = some its) its (x.2 ++ [.lst []])).map fun S2 => (.ref x.2.length, S2)
    else none
noncomputable def ex (Γ : Fs) : Sx → Sl → Hd → Option (Out × Sl × Hd)
  | .skip, env, S => some (.nx, env, S)
  | .seq s t, env, S => (ex Γ s env S).bind fun r => match r.1 with
    | .nx => ex Γ t r.2.1 r.2.2
    | _ => some r
  | .asg g e, env, S => (ev Γ e env S).bind fun x => (asgG g x.1 env).map fun env1 => (.nx, env1, x.2)
  | .asgL g e, env, S => (ev Γ e env S).bind fun x => (if isTup x.1 = true then none else seqOf x.2 x.1).bind fun xs => (asgG g (.tup xs) env).map fun env1 => (.nx, env1, x.2)
  | .setix o i e, env, S => (ev Γ e env S).bind fun x => (ev Γ o env x.2).bind fun y => (ev Γ i env y.2).bind fun z => (setD y.1 z.1 x.1 z.2).map fun S1 => (.nx, env, S1)
  | .drop e, env, S => (ev Γ e env S).map fun x => (.nx, env, x.2)
  | .ret e, env, S => (ev Γ e env S).map fun x => (.ret x.1, env, x.2)
  | .retN, env, S => some (.ret .non, env, S)
  | .ite c s t, env, S => (tst (ev Γ c env S)).bind fun x => if x.1 = true then ex Γ s env x.2 else ex Γ t env x.2
  | .for_ k es g b, env, S => (ev Γ es env S).bind fun x => (argsOf x.1).bind fun ds => (items k ds x.2).bind fun its =>
      loopS (fun d env1 S1 => (asgG g d env1).bind fun env2 => ex Γ b env2 S1) (fun S1 => items k ds S1 = some its) its env x.2
  | .brk, env, S => some (.brk, env, S)
  | .cont, env, S => some (.cont, env, S)
  | .stuck, _, _ => none
  | .while_ c b, env, S => loopW (fun e S1 => tst (ev Γ c e S1)) (fun e S1 => ex Γ b e S1) most env S
  | .aug i o e, env, S => match env[i]? with
    | some (some (.int a)) => (ev Γ e env S).bind fun x => match o, x.1 with
      | .add, .int b => some (.nx, env.set i (some (.int (a + b))), x.2)
      | .sub, .int b => some (.nx, env.set i (some (.int (a - b))), x.2)
      | _, _ => none
    | _ => none
structure Fd where
  np : Nat
  m : Nat
  body : Sx
noncomputable def outD (r : Option (Out × Sl × Hd)) : Option (D × Hd) := r.bind fun r => match r.1 with
  | .ret d => some (d, r.2.2)
  | .nx => some (.non, r.2.2)
  | _ => none
noncomputable def runV (T : Nat → Option Fd) : Nat → Fs
  | 0, _, _, _ => none
  | n + 1, f, ds, S => (T f).bind fun F => if ds.length = F.np then outD (ex (runV T n) F.body (ds.map some ++ List.replicate (F.m - ds.length) none) S) else none
/-- the same, but never unfolded -/
noncomputable def run : (Nat → Option Fd) → Nat → Fs := Classical.choose (⟨runV, rfl⟩ : ∃ f, f = runV)
theorem run_eq : run = runV := Classical.choose_spec (⟨runV, rfl⟩ : ∃ f, f = runV)
theorem run_zero {T : Nat → Option Fd} {f : Nat} {ds : List D} {S : Hd} : run T 0 f ds S = none := by rw [run_eq]; rfl
theorem run_step {T : Nat → Option Fd} {n f : Nat} {ds : List D} {S : Hd} : run T (n + 1) f ds S = (T f).bind fun F => if ds.length = F.np then outD (ex (run T n) F.body (ds.map some ++ List.replicate (F.m - ds.length) none) S) else none := by rw [run_eq]; rfl
end Ix

namespace Ix
open PySem L2
section
variable (K : PySem.W.Frag) (Γ : Fs)
def tr (c : E) : TE := fun σ H Q => ∃ α env S d S', Ok K α S H ∧ En K α H env σ ∧ ev Γ c env S = some (d, S') ∧ ∀ α' H' v, Xt K α H α' H' → Ok K α' S' H' → Rp K α' H' d v → Q v H'
def trA (c : E) : TA := fun σ H Q => ∃ α env S ds S', Ok K α S H ∧ En K α H env σ ∧ ev Γ c env S = some (.tup ds, S') ∧ ∀ α' H' vs, Xt K α H α' H' → Ok K α' S' H' → Rps K α' H' ds vs → Q vs H'
def trT (c : E) : TT := fun σ H Q => ∃ α env S b S', Ok K α S H ∧ En K α H env σ ∧ tst (ev Γ c env S) = some (b, S') ∧ ∀ α' H', Xt K α H α' H' → Ok K α' S' H' → Q b H'
def trO (b : Bool) (c : E) : TO := fun σ H Q => ∃ α env S o S', Ok K α S H ∧ En K α H env σ ∧ evP b (ev Γ c env S) S = some (o, S') ∧ ∀ α' H', Xt K α H α' H' → Ok K α' S' H' → Q o H'
def endS (α' : List Addr) (H' : Hp) (env' : Sl) (D : Ends) : Out → Prop
  | .nx => ∀ σ', En K α' H' env' σ' → D.nx σ' H'
  | .brk => ∀ σ', En K α' H' env' σ' → D.bk σ' H'
  | .cont => ∀ σ', En K α' H' env' σ' → D.ct σ' H'
  | .ret d => ∀ v, Rp K α' H' d v → D.rt v H'
def trS (c : Sx) : TS := fun D σ H => ∃ α env S o env' S', Ok K α S H ∧ En K α H env σ ∧ ex Γ c env S = some (o, env', S') ∧ ∀ α' H', Xt K α H α' H' → Ok K α' S' H' → endS K α' H' env' D o
def trG (g : G) : TG := fun v σ H Q => ∃ α env d env', Rp K α H d v ∧ En K α H env σ ∧ asgG g d env = some env' ∧ ∀ σ', En K α H env' σ' → (∀ own, gOk own g = true → wipe σ' own = wipe σ own) → Q σ' H
def trGs (g : G) : TGs := fun vs σ H Q => ∃ α env ds env', Rps K α H ds vs ∧ En K α H env σ ∧ asgG g (.tup ds) env = some env' ∧ ∀ σ', En K α H env' σ' → (∀ own, gOk own g = true → wipe σ' own = wipe σ own) → Q σ' H
/-- two values in, by f; the arguments in -/
def rB (f : D → D → Hd → Option (D × Hd)) : R2 := fun x y H Q => ∃ α S d1 d2 d S', Ok K α S H ∧ Rp K α H d1 x ∧ Rp K α H d2 y ∧ f d1 d2 S = some (d, S') ∧ ∀ α' H' v, Xt K α H α' H' → Ok K α' S' H' → Rp K α' H' d v → Q v H'
def rA (f : List D → Hd → Option (D × Hd)) : List V → Hp → VK → Prop := fun vs H Q => ∃ α S ds d S', Ok K α S H ∧ Rps K α H ds vs ∧ f ds S = some (d, S') ∧ ∀ α' H' v, Xt K α H α' H' → Ok K α' S' H' → Rp K α' H' d v → Q v H'
def rM (f : D → List D → Hd → Option (D × Hd)) : V → List V → Hp → VK → Prop := fun x vs H Q => ∃ α S d1 ds d S', Ok K α S H ∧ Rp K α H d1 x ∧ Rps K α H ds vs ∧ f d1 ds S = some (d, S') ∧ ∀ α' H' v, Xt K α H α' H' → Ok K α' S' H' → Rp K α' H' d v → Q v H'
end
section
variable {K : PySem.W.Frag} {Γ : Fs} {α : List Addr} {S S' : Hd} {H : Hp} {d x y : D} {v u : V}
/-! ### reading values -/
theorem seq_of {xs : List D} (ok : Ok K α S H) (r : Rp K α H d v) (h : seqOf S d = some xs) : ∃ a vs, v = .ref a ∧ Rps K α H xs vs ∧ ((isTup d = true ∧ SqT K H a vs) ∨ (isTup d = false ∧ SqL K H a vs)) := by
  cases r with
  | tup h1 l q =>
    simp only [seqOf, Option.some.injEq] at h
    subst h
    exact ⟨_, _, rfl, ⟨l, q⟩, .inl ⟨rfl, h1⟩⟩
  | @ref k a e =>
    simp only [seqOf] at h
    split at h
    · rename_i ys e2
      simp only [Option.some.injEq] at h
      subst h
      obtain ⟨a', vs, e3, e4, e5, e6⟩ := ok.lst e2 (.ref e)
      cases e3
      exact ⟨a, vs, rfl, e6, .inr ⟨rfl, SqL.of e5⟩⟩
    · cases h
  | @ro ns a e =>
    simp only [seqOf, Option.some.injEq] at h
    subst h
    refine ⟨a, ns.map V.int, rfl, ⟨by simp, fun i x v h1 h2 => ?_⟩, .inr ⟨rfl, ?_⟩⟩
    · rw [List.getElem?_map] at h1 h2
      cases q : ns[i]? with
      | none =>
        rw [q] at h1
        cases h1
      | some z =>
        rw [q] at h1 h2
        cases h1
        cases h2
        exact .int z
    · rcases e with ⟨o, e⟩ | e
      · exact .inl (.inr ⟨o, e⟩)
      · exact .inr e
  | _ => simp [seqOf] at h
theorem Rps.empty {xs : List D} {vs : List V} (h : Rps K α H xs vs) : vs.isEmpty = xs.isEmpty := by
  cases xs <;> cases vs <;> first | rfl | (have := h.len; simp at this)
theorem tru_of {b : Bool} (ok : Ok K α S H) (r : Rp K α H d v) (h : tru S d = some b) : TruV K v H b := by
  have go : ∀ {e : D}, Rp K α H e v → ((seqOf S e).map fun xs => !xs.isEmpty) = some b → TruV K v H b := fun {e} r h => by
    cases q : seqOf S e with
    | none => rw [q] at h; cases h
    | some xs =>
      rw [q] at h
      have h : (!xs.isEmpty) = b := by simpa using h
      obtain ⟨a, vs, rfl, rs, z⟩ := seq_of ok r q
      rcases z with ⟨_, z⟩ | ⟨_, z⟩
      · exact .inr (.inl ⟨vs, z, by rw [rs.empty, h]⟩)
      · exact .inl ⟨vs, z, by rw [rs.empty, h]⟩
  cases d with
  | non => cases r; simp only [tru, Option.some.injEq] at h; exact h.symm
  | bl c => cases r; simp only [tru, Option.some.injEq] at h; exact h.symm
  | int i => cases r; simp only [tru, Option.some.injEq] at h; exact h.symm
  | str z => simp [tru] at h
  | ty z => simp [tru] at h
  | ref k => exact go r (by simpa [tru] using h)
  | tup xs => exact go r (by simpa [tru] using h)
  | ro xs => exact go r (by simpa [tru] using h)
theorem flat_of (r : Rp K α H d v) (h : flat d = true) : flatV v = true := by
  cases r <;> first | rfl | cases h
theorem flats_of {xs : List D} {vs : List V} (r : Rps K α H xs vs) (h : xs.all flat = true) : vs.all flatV = true := by
  rw [List.all_eq_true] at h ⊢
  intro w hw
  obtain ⟨i, hi⟩ := List.getElem?_of_mem hw
  obtain ⟨z, e, q⟩ := r.getV hi
  exact flat_of q (h z (List.mem_of_getElem? e))
theorem eqF_of (rx : Rp K α H x v) (ry : Rp K α H y u) (fx : flat x = true) (fy : flat y = true) : eqV v u = eqF x y := by
  cases rx <;> cases ry <;> first | rfl | (simp [flat] at fx fy)
theorem any_of {xs : List D} (rx : Rp K α H x v) (fx : flat x = true) : ∀ {xs : List D} {vs : List V}, Rps K α H xs vs → xs.all flat = true → inV v vs = xs.any fun z => eqF z x
  | [], vs, r, _ => by
    rw [r.unnil]
    rfl
  | z :: xs, vs, r, f => by
    obtain ⟨w, ws, rfl, r1, r2⟩ := r.uncons
    rw [List.all_cons, Bool.and_eq_true] at f
    have := any_of (xs := xs) rx fx r2 f.2
    unfold inV at this ⊢
    rw [List.any_cons, List.any_cons, this, eqF_of r1 rx f.1 fx]
theorem scal_of {b : Bool} (rx : Rp K α H x v) (ry : Rp K α H y u) (h : scalD x y = some b) : scal v u = true ∧ decide (v = u) = b := by
  cases rx <;> cases ry <;> simp [scalD] at h <;> (try subst h) <;> simp [scal]
theorem non_of (rx : Rp K α H x v) : decide (v = .non) = isNon x := by
  cases rx <;> simp [isNon]
theorem at_of {β : Type} {xs : List D} {vs : List V} {i : Int} (r : Rps K α H xs vs) (h : atI xs i = some d) : ∃ w, atI vs i = some w ∧ Rp K α H d w := by
  unfold atI at h ⊢
  rw [r.len]
  cases q : ixN xs.length i with
  | none => rw [q] at h; cases h
  | some j =>
    rw [q] at h
    exact r.get h
theorem cut_of {xs : List D} {vs : List V} (r : Rps K α H xs vs) (lo hi : Option Int) : Rps K α H (cutD xs lo hi) (cutV vs lo hi) := by
  unfold cutD cutV
  rw [r.len]
  exact (r.drop _).take _
theorem Rp.newT {p : Addr} {vs : List V} {xs : List D} (hp : H p = none) (r : Rps K α H xs vs) : Rp K α (upd H p (.tup vs)) (.tup xs) (.ref p) := .tup (SqT.of upd_same) r.len (r.mono (Xt.fresh hp)).at_
/-- a new list -/
theorem go_new {Q : VK} {p : Addr} {vs : List V} {xs : List D} (ok : Ok K α S H) (hp : H p = none) (r : Rps K α H xs vs)
    (k : ∀ α' H' v, Xt K α H α' H' → Ok K α' (S ++ [.lst xs]) H' → Rp K α' H' (.ref S.length) v → Q v H') : Q (.ref p) (upd H p (.lst vs)) :=
  k (α ++ [p]) _ _ (Xt.snoc hp) (ok.snoc hp (o := .lst xs) (u := .lst vs) r) (Rp.snoc ok.len)
/-- a new tuple -/
theorem go_tup {Q : VK} {p : Addr} {vs : List V} {xs : List D} (ok : Ok K α S H) (hp : H p = none) (r : Rps K α H xs vs)
    (k : ∀ α' H' v, Xt K α H α' H' → Ok K α' S H' → Rp K α' H' (.tup xs) v → Q v H') : Q (.ref p) (upd H p (.tup vs)) :=
  k α _ _ (Xt.fresh hp) (ok.fresh hp) (Rp.newT hp r)
end
theorem most_line {n : Nat} (h : n ≤ most) : n ≤ sizeLine := Nat.le_trans h (by decide)
theorem most_lt {n : Nat} (h : n < most) : n < sizeLine := Nat.lt_of_lt_of_le h (by decide)

/-! ### weakening -/
section
variable {X : Cx} {e : Expr} {es : List Expr} {st : Stmt} {sts : List Stmt}
theorem pe_w {t t' : TE} (h : PE X e t) (w : ∀ σ H Q, t' σ H Q → t σ H Q) : PE X e t' := ⟨fun pins s σ H Q I q => h.run pins s σ H Q I (w σ H Q q)⟩
theorem pt_w {t t' : TT} (h : PT X e t) (w : ∀ σ H Q, t' σ H Q → t σ H Q) : PT X e t' := ⟨fun pins s σ H Q I q => h.run pins s σ H Q I (w σ H Q q)⟩
theorem pw_w {t t' : TT} (h : PW X e t) (w : ∀ σ H Q, t' σ H Q → t σ H Q) : PW X e t' := ⟨fun wh pins s σ H Q I q => h.run wh pins s σ H Q I (w σ H Q q)⟩
theorem pa_w {t t' : TA} (h : PA X es t) (w : ∀ σ H Q, t' σ H Q → t σ H Q) : PA X es t' := ⟨fun pos pins s σ H Q I q => h.run pos pins s σ H Q I (w σ H Q q)⟩
theorem ps_w {t t' : TS} (h : PS X st t) (w : ∀ D σ H, t' D σ H → t D σ H) : PS X st t' := ⟨fun pins s σ H D I q => h.run pins s σ H D I (w D σ H q)⟩
theorem pss_w {t t' : TS} (h : PSs X sts t) (w : ∀ D σ H, t' D σ H → t D σ H) : PSs X sts t' := ⟨fun pins s σ H D I q => h.run pins s σ H D I (w D σ H q)⟩
theorem pg_w {g t' : TG} (h : PG X e g) (w : ∀ v σ H Q, t' v σ H Q → g v σ H Q) : PG X e t' := ⟨fun pins s σ H v u Q I r q => h.run pins s σ H v u Q I r (w v σ H Q q)⟩
end

/-! ### the operations -/
section
variable {X : Cx}
/-- a list and a list, wherever they lie -/
def rCatR (K : PySem.W.Frag) : R2 := fun x y H Q => ∃ l b xs ys, x = .ref l ∧ y = .ref b ∧ SqL K H l xs ∧ SqL K H b ys ∧ xs.length + ys.length ≤ sizeLine ∧ ∀ p, H p = none → Q (.ref p) (upd H p (.lst (xs ++ ys)))
theorem op_catR : OpR X (binaryOp .Add) (rCatR X.K) := by
  intro pins s σ H x y v u Q I rx ry ⟨l, b, xs, ys, e1, e2, h1, h2, hz, q⟩
  subst e1 e2
  cases rx
  cases ry
  obtain ⟨i1, r1, ⟨⟨cls, dd, data, sl⟩, n, ho, hc, _, hd⟩, _⟩ := I.list h1
  obtain ⟨i2, r2, ⟨⟨cls2, dd2, data2, sl2⟩, n2, ho2, hc2, _, hd2⟩, _⟩ := I.list h2
  simp only at hc hd hc2 hd2
  subst hc hd hc2 hd2
  have z1 := r1.length
  have z2 := r2.length
  refine PySem.concat_meets ⟨_, ho, rfl⟩ ⟨_, ho2, rfl⟩ PySem.noFill_list_add PySem.seq_list_add PySem.F.slot_list_add PySem.F.entry_list_add (PySem.F.args_list_add_2 _ _) (PyProof.Rows.list_addW l b i1.toArray i2.toArray n n2 dd dd2 sl sl2 (by rw [List.size_toArray, List.size_toArray]; omega)) ⟨ho, ho2, ?_⟩
  rw [show i1.toArray ++ i2.toArray = (i1 ++ i2).toArray by simp]
  exact ⟨.ref _, _, I.lnew (t' := s.toks) (r1.append r2) (by rw [List.length_append]; omega), rfl, q _ I.fresh⟩
theorem o_add : OpR X (binaryOp .Add) (rB X.K (binD .add)) := by
  intro pins s σ H x y v u Q I rx ry ⟨α, S, d1, d2, d, S', ok, r1, r2, e, k⟩
  cases d1 with
  | int i =>
    cases d2 with
    | int j =>
      simp only [binD, Option.some.injEq, Prod.mk.injEq] at e
      obtain ⟨rfl, rfl⟩ := e
      cases r1
      cases r2
      exact op_add pins s σ H _ _ v u Q I rx ry ⟨i, j, rfl, rfl, k α H _ Xt.refl ok (.int _)⟩
    | _ => simp [binD] at e
  | str i =>
    cases d2 with
    | str j =>
      simp only [binD] at e
      split at e
      · simp only [Option.some.injEq, Prod.mk.injEq] at e
        obtain ⟨rfl, rfl⟩ := e
        cases r1
        cases r2
        exact op_add_str pins s σ H _ _ v u Q I rx ry ⟨i, j, rfl, rfl, most_line (by assumption), k α H _ Xt.refl ok (.str _)⟩
      · cases e
    | _ => simp [binD] at e
  | tup xs =>
    cases d2 with
    | tup ys =>
      simp only [binD] at e
      split at e
      · rename_i hz
        simp only [Option.some.injEq, Prod.mk.injEq] at e
        obtain ⟨rfl, rfl⟩ := e
        cases r1 with
        | tup h1 l1 q1 =>
          cases r2 with
          | tup h2 l2 q2 =>
            rename_i a va b vb
            refine op_catA pins s σ H _ _ v u Q I rx ry ⟨a, b, va, vb, rfl, rfl, h1, h2, most_line (by omega), fun z => ?_, fun z z2 => ?_, fun z z2 p hp => ?_⟩
            · subst z
              have : xs = [] := by cases xs with
                | nil => rfl
                | cons _ _ => simp at l1
              subst this
              exact k α H _ Xt.refl ok (.tup h2 l2 q2)
            · subst z2
              have : ys = [] := by cases ys with
                | nil => rfl
                | cons _ _ => simp at l2
              subst this
              rw [List.append_nil] at k
              exact k α H _ Xt.refl ok (.tup h1 l1 q1)
            · exact go_tup ok hp (Rps.append ⟨l1, q1⟩ ⟨l2, q2⟩) k
      · cases e
    | _ => simp [binD] at e
  | ref a =>
    cases d2 with
    | ref b =>
      simp only [binD] at e
      split at e
      · rename_i xs ys e1 e2
        split at e
        · rename_i hz
          simp only [alloc, Option.some.injEq, Prod.mk.injEq] at e
          obtain ⟨rfl, rfl⟩ := e
          obtain ⟨a1, v1, rfl, _, h1, q1⟩ := ok.lst e1 r1
          obtain ⟨a2, v2, rfl, _, h2, q2⟩ := ok.lst e2 r2
          exact op_cat pins s σ H _ _ v u Q I rx ry ⟨a1, a2, v1, v2, rfl, rfl, h1, h2, most_line (by rw [q1.len, q2.len]; exact hz), fun p hp => go_new ok hp (q1.append q2) k⟩
        · cases e
      · cases e
    | _ => simp [binD] at e
  | ro ns =>
    cases d2 with
    | ref b =>
      simp only [binD] at e
      split at e
      · rename_i ys e2
        split at e
        · rename_i hz
          simp only [alloc, Option.some.injEq, Prod.mk.injEq] at e
          obtain ⟨rfl, rfl⟩ := e
          obtain ⟨a1, v1, rfl, q1, z1⟩ := seq_of ok r1 (show seqOf S (.ro ns) = some (ns.map .int) from rfl)
          obtain ⟨a2, v2, rfl, _, h2, q2⟩ := ok.lst e2 r2
          have h1 : SqL X.K H a1 v1 := by
            rcases z1 with z | z
            · exact absurd z.1 (by simp [isTup])
            · exact z.2
          exact op_catR pins s σ H _ _ v u Q I rx ry ⟨a1, a2, v1, v2, rfl, rfl, h1, SqL.of h2, most_line (by rw [q1.len, q2.len, List.length_map]; exact hz), fun p hp => go_new ok hp (q1.append q2) k⟩
        · cases e
      · cases e
    | _ => simp [binD] at e
  | _ => cases d2 <;> simp [binD] at e
theorem o_sub : OpR X (binaryOp .Sub) (rB X.K (binD .sub)) := by
  intro pins s σ H x y v u Q I rx ry ⟨α, S, d1, d2, d, S', ok, r1, r2, e, k⟩
  cases d1 <;> cases d2 <;> simp [binD] at e
  obtain ⟨rfl, rfl⟩ := e
  cases r1
  cases r2
  exact op_sub pins s σ H _ _ v u Q I rx ry ⟨_, _, rfl, rfl, k α H _ Xt.refl ok (.int _)⟩
theorem o_fdiv : OpR X (binaryOp .FloorDiv) (rB X.K (binD .fdiv)) := by
  intro pins s σ H x y v u Q I rx ry ⟨α, S, d1, d2, d, S', ok, r1, r2, e, k⟩
  cases d1 <;> cases d2 <;> simp [binD] at e
  obtain ⟨h, rfl, rfl⟩ := e
  cases r1
  cases r2
  exact op_fdivW pins s σ H _ _ v u Q I rx ry ⟨_, _, rfl, rfl, h, k α H _ Xt.refl ok (.int _)⟩
theorem o_mod : OpR X (binaryOp .Mod) (rB X.K (binD .mod)) := by
  intro pins s σ H x y v u Q I rx ry ⟨α, S, d1, d2, d, S', ok, r1, r2, e, k⟩
  cases d1 <;> cases d2 <;> simp [binD] at e
  obtain ⟨h, rfl, rfl⟩ := e
  cases r1
  cases r2
  exact op_mod pins s σ H _ _ v u Q I rx ry ⟨_, _, rfl, rfl, h, k α H _ Xt.refl ok (.int _)⟩
theorem o_pow : OpR X (binaryOp .Pow) (rB X.K (binD .pow)) := by
  intro pins s σ H x y v u Q I rx ry ⟨α, S, d1, d2, d, S', ok, r1, r2, e, k⟩
  cases d1 with
  | int i =>
    cases d2 with
    | int j =>
      simp only [binD] at e
      split at e
      · rename_i h
        simp only [Option.some.injEq, Prod.mk.injEq] at e
        obtain ⟨rfl, rfl⟩ := e
        cases r1
        cases r2
        exact op_pow pins s σ H _ _ v u Q I rx ry ⟨i, j, rfl, rfl, h, k α H _ Xt.refl ok (.int _)⟩
      · cases e
    | _ => simp [binD] at e
  | _ => cases d2 <;> simp [binD] at e
theorem flat_rep {K : PySem.W.Frag} {α : List Addr} {H : Hp} {xs : List D} {vs : List V} (r : Rps K α H xs vs) : ∀ n : Nat, Rps K α H (List.replicate n xs).flatten (List.replicate n vs).flatten
  | 0 => .nil
  | n + 1 => by
    rw [List.replicate_succ, List.replicate_succ, List.flatten_cons, List.flatten_cons]
    exact r.append (flat_rep r n)
theorem o_mul : OpR X (binaryOp .Mult) (rB X.K (binD .mul)) := by
  intro pins s σ H x y v u Q I rx ry ⟨α, S, d1, d2, d, S', ok, r1, r2, e, k⟩
  cases d1 with
  | int i =>
    cases d2 with
    | int j =>
      simp only [binD] at e
      split at e
      · rename_i h
        simp only [Option.some.injEq, Prod.mk.injEq] at e
        obtain ⟨rfl, rfl⟩ := e
        cases r1
        cases r2
        exact op_mulW pins s σ H _ _ v u Q I rx ry ⟨i, j, rfl, rfl, h, k α H _ Xt.refl ok (.int _)⟩
      · cases e
    | _ => simp [binD] at e
  | ref a =>
    cases d2 with
    | int j =>
      simp only [binD] at e
      split at e
      · rename_i xs e1
        split at e
        · rename_i hz
          simp only [alloc, Option.some.injEq, Prod.mk.injEq] at e
          obtain ⟨rfl, rfl⟩ := e
          obtain ⟨a1, v1, rfl, _, h1, q1⟩ := ok.lst e1 r1
          cases r2
          exact op_rep pins s σ H _ _ v u Q I rx ry ⟨a1, j, v1, rfl, rfl, h1, hz.1, hz.2.1, most_line (by rw [q1.len]; exact hz.2.2), fun p hp => go_new ok hp (flat_rep q1 _) k⟩
        · cases e
      · cases e
    | _ => simp [binD] at e
  | _ => cases d2 <;> simp [binD] at e
theorem c_eq : OpR X (compareOp .Eq) (rB X.K (cmpD .eq)) := by
  intro pins s σ H x y v u Q I rx ry ⟨α, S, d1, d2, d, S', ok, r1, r2, e, k⟩
  simp only [cmpD, Option.map_eq_some_iff, Prod.mk.injEq] at e
  obtain ⟨b, h, rfl, rfl⟩ := e
  obtain ⟨h1, h2⟩ := scal_of r1 r2 h
  exact op_eq pins s σ H _ _ v u Q I rx ry ⟨h1, k α H _ Xt.refl ok (by rw [h2]; exact .bl _)⟩
theorem c_ne : OpR X (compareOp .NotEq) (rB X.K (cmpD .ne)) := by
  intro pins s σ H x y v u Q I rx ry ⟨α, S, d1, d2, d, S', ok, r1, r2, e, k⟩
  simp only [cmpD, Option.map_eq_some_iff, Prod.mk.injEq] at e
  obtain ⟨b, h, rfl, rfl⟩ := e
  obtain ⟨h1, h2⟩ := scal_of r1 r2 h
  exact op_ne pins s σ H _ _ v u Q I rx ry ⟨h1, k α H _ Xt.refl ok (by rw [h2]; exact .bl _)⟩
theorem c_lt : OpR X (compareOp .Lt) (rB X.K (cmpD .lt)) := by
  intro pins s σ H x y v u Q I rx ry ⟨α, S, d1, d2, d, S', ok, r1, r2, e, k⟩
  cases d1 <;> cases d2 <;> simp [cmpD] at e
  obtain ⟨rfl, rfl⟩ := e
  cases r1
  cases r2
  exact op_lt pins s σ H _ _ v u Q I rx ry ⟨_, _, rfl, rfl, k α H _ Xt.refl ok (.bl _)⟩
theorem c_le : OpR X (compareOp .LtE) (rB X.K (cmpD .le)) := by
  intro pins s σ H x y v u Q I rx ry ⟨α, S, d1, d2, d, S', ok, r1, r2, e, k⟩
  cases d1 <;> cases d2 <;> simp [cmpD] at e
  obtain ⟨rfl, rfl⟩ := e
  cases r1
  cases r2
  exact op_le pins s σ H _ _ v u Q I rx ry ⟨_, _, rfl, rfl, k α H _ Xt.refl ok (.bl _)⟩
theorem c_gt : OpR X (compareOp .Gt) (rB X.K (cmpD .gt)) := by
  intro pins s σ H x y v u Q I rx ry ⟨α, S, d1, d2, d, S', ok, r1, r2, e, k⟩
  cases d1 <;> cases d2 <;> simp [cmpD] at e
  obtain ⟨rfl, rfl⟩ := e
  cases r1
  cases r2
  exact op_gt pins s σ H _ _ v u Q I rx ry ⟨_, _, rfl, rfl, k α H _ Xt.refl ok (.bl _)⟩
theorem c_ge : OpR X (compareOp .GtE) (rB X.K (cmpD .ge)) := by
  intro pins s σ H x y v u Q I rx ry ⟨α, S, d1, d2, d, S', ok, r1, r2, e, k⟩
  cases d1 <;> cases d2 <;> simp [cmpD] at e
  obtain ⟨rfl, rfl⟩ := e
  cases r1
  cases r2
  exact op_ge pins s σ H _ _ v u Q I rx ry ⟨_, _, rfl, rfl, k α H _ Xt.refl ok (.bl _)⟩
theorem c_is : OpR X (compareOp .Is) (rB X.K (cmpD .is_)) := by
  intro pins s σ H x y v u Q I rx ry ⟨α, S, d1, d2, d, S', ok, r1, r2, e, k⟩
  cases d2 with
  | non =>
    simp only [cmpD, Option.some.injEq, Prod.mk.injEq] at e
    obtain ⟨rfl, rfl⟩ := e
    cases r2
    exact op_isN pins s σ H _ _ v u Q I rx ry ⟨rfl, k α H _ Xt.refl ok (by rw [non_of r1]; exact .bl _)⟩
  | bl j =>
    cases d1 with
    | bl i =>
      simp only [cmpD, Option.some.injEq, Prod.mk.injEq] at e
      obtain ⟨rfl, rfl⟩ := e
      cases r1
      cases r2
      exact op_isBl pins s σ H _ _ v u Q I rx ry ⟨i, j, rfl, rfl, k α H _ Xt.refl ok (.bl _)⟩
    | _ => simp [cmpD] at e
  | _ => cases d1 <;> simp [cmpD] at e
theorem c_isnot : OpR X (compareOp .IsNot) (rB X.K (cmpD .isnot)) := by
  intro pins s σ H x y v u Q I rx ry ⟨α, S, d1, d2, d, S', ok, r1, r2, e, k⟩
  cases d2 with
  | non =>
    simp only [cmpD, Option.some.injEq, Prod.mk.injEq] at e
    obtain ⟨rfl, rfl⟩ := e
    cases r2
    exact op_notN pins s σ H _ _ v u Q I rx ry ⟨rfl, k α H _ Xt.refl ok (by rw [non_of r1]; exact .bl _)⟩
  | bl j =>
    cases d1 with
    | bl i =>
      simp only [cmpD, Option.some.injEq, Prod.mk.injEq] at e
      obtain ⟨rfl, rfl⟩ := e
      cases r1
      cases r2
      exact op_notBl pins s σ H _ _ v u Q I rx ry ⟨i, j, rfl, rfl, k α H _ Xt.refl ok (.bl _)⟩
    | _ => simp [cmpD] at e
  | _ => cases d1 <;> simp [cmpD] at e
theorem c_in : OpR X (compareOp .In) (rB X.K (cmpD .in_)) := by
  intro pins s σ H x y v u Q I rx ry ⟨α, S, d1, d2, d, S', ok, r1, r2, e, k⟩
  simp only [cmpD] at e
  split at e
  · rename_i f
    rw [Option.bind_eq_some_iff] at e
    obtain ⟨xs, h1, e⟩ := e
    split at e
    · rename_i g
      simp only [Option.some.injEq, Prod.mk.injEq] at e
      obtain ⟨rfl, rfl⟩ := e
      obtain ⟨a, vs, rfl, rs, z⟩ := seq_of ok r2 h1
      refine op_in_seq pins s σ H _ _ v u Q I rx ry ⟨a, vs, rfl, z.elim (fun z => .inr z.2) fun z => .inl z.2, flat_of r1 f, flats_of rs g, ?_⟩
      rw [any_of (xs := xs) r1 f rs g]
      exact k α H _ Xt.refl ok (.bl _)
    · cases e
  · cases e
theorem c_notin : OpR X (compareOp .NotIn) (rB X.K (cmpD .notin)) := by
  intro pins s σ H x y v u Q I rx ry ⟨α, S, d1, d2, d, S', ok, r1, r2, e, k⟩
  simp only [cmpD] at e
  split at e
  · rename_i f
    rw [Option.bind_eq_some_iff] at e
    obtain ⟨xs, h1, e⟩ := e
    split at e
    · rename_i g
      simp only [Option.some.injEq, Prod.mk.injEq] at e
      obtain ⟨rfl, rfl⟩ := e
      obtain ⟨a, vs, rfl, rs, z⟩ := seq_of ok r2 h1
      refine op_notIn_seq pins s σ H _ _ v u Q I rx ry ⟨a, vs, rfl, z.elim (fun z => .inr z.2) fun z => .inl z.2, flat_of r1 f, flats_of rs g, ?_⟩
      rw [any_of (xs := xs) r1 f rs g]
      exact k α H _ Xt.refl ok (.bl _)
    · cases e
  · cases e
theorem i_ix : IxR X (rB X.K ixD) := by
  intro value slice pins s σ H x y v u Q I rx ry ⟨α, S, d1, d2, d, S', ok, r1, r2, e, k⟩ hs
  cases d2 with
  | int i =>
    simp only [ixD, Option.bind_eq_some_iff, Option.map_eq_some_iff, Prod.mk.injEq] at e
    obtain ⟨xs, h1, d, h2, rfl, rfl⟩ := e
    cases r2
    obtain ⟨a, vs, rfl, rs, z⟩ := seq_of ok r1 h1
    obtain ⟨w, h3, r3⟩ := at_of (β := Unit) rs h2
    rcases z with ⟨_, z⟩ | ⟨_, z⟩
    · exact ix_tup value slice pins s σ H _ _ v u Q I rx ry ⟨a, vs, i, w, rfl, rfl, z, h3, k α H _ Xt.refl ok r3⟩ hs
    · exact ix_list value slice pins s σ H _ _ v u Q I rx ry ⟨a, vs, i, w, rfl, rfl, z, h3, k α H _ Xt.refl ok r3⟩ hs
  | _ => simp [ixD] at e
end
end Ix

namespace Ix
open PySem L2
/-! ### the words of the text, one by one: expressions -/
def opOf : Bo → Operator
  | .add => .Add | .sub => .Sub | .mul => .Mult | .fdiv => .FloorDiv | .mod => .Mod | .pow => .Pow
def coOf : Co → CmpOp
  | .eq => .Eq | .ne => .NotEq | .lt => .Lt | .le => .LtE | .gt => .Gt | .ge => .GtE | .is_ => .Is | .isnot => .IsNot | .in_ => .In | .notin => .NotIn
section
variable {X : Cx} {Γ : Fs}
theorem o_of : ∀ o : Bo, OpR X (binaryOp (opOf o)) (rB X.K (binD o))
  | .add => o_add | .sub => o_sub | .mul => o_mul | .fdiv => o_fdiv | .mod => o_mod | .pow => o_pow
theorem c_of : ∀ o : Co, OpR X (compareOp (coOf o)) (rB X.K (cmpD o))
  | .eq => c_eq | .ne => c_ne | .lt => c_lt | .le => c_le | .gt => c_gt | .ge => c_ge | .is_ => c_is | .isnot => c_isnot | .in_ => c_in | .notin => c_notin
section
variable {K : PySem.W.Frag} {f : D → D → Hd → Option (D × Hd)} {c a b : E} {σ : L2.St} {H : Hp} {Q : VK}
theorem w_bin (hev : ∀ env S, ev Γ c env S = (ev Γ a env S).bind fun x => (ev Γ b env x.2).bind fun y => f x.1 y.1 y.2) (h : tr K Γ c σ H Q) : tOp (rB K f) (tr K Γ a) (tr K Γ b) σ H Q := by
  obtain ⟨α, env, S, d, S', ok, en, e, k⟩ := h
  rw [hev] at e
  simp only [Option.bind_eq_some_iff] at e
  obtain ⟨⟨d1, S1⟩, e1, ⟨d2, S2⟩, e2, e3⟩ := e
  exact ⟨α, env, S, d1, S1, ok, en, e1, fun α1 H1 v1 x1 ok1 r1 => ⟨α1, env, S1, d2, S2, ok1, en.mono x1, e2, fun α2 H2 v2 x2 ok2 r2 =>
    ⟨α2, S2, d1, d2, d, S', ok2, r1.mono x2, r2, e3, fun α3 H3 v x3 ok3 r => k α3 H3 v (x1.trans (x2.trans x3)) ok3 r⟩⟩⟩
end
variable {a b c e : Expr} {es rest : List Expr} {ca cb cc ce cs : E} {pos : Pos}
theorem xe_var (i : Nat) {x : Str} (hN : X.N[i]? = some x := by rfl) (hv : Vis X.env.scope x := by first | exact Or.inl rfl | exact Or.inr (Or.inl rfl) | exact Or.inr (Or.inr rfl)) (hd : (x == ("__debug__" : Str)) = false := by decide)
    (hcd : (x == ("__classdict__" : Str)) = false := by decide) : PE X (.Name x pos) (tr X.K Γ (.var i)) :=
  pe_w (pe_var hN hv hd hcd) fun σ H Q ⟨α, env, S, d, S', ok, en, e, k⟩ => by
    simp only [ev] at e
    split at e
    · rename_i d' e2
      simp only [Option.some.injEq, Prod.mk.injEq] at e
      obtain ⟨rfl, rfl⟩ := e
      obtain ⟨v, h1, r⟩ := en.at_ i _ e2
      exact ⟨v, h1, k α H v Xt.refl ok r⟩
    · cases e
theorem xe_k {d : D} {v : V} (h : PE X e (tC v)) (r : ∀ α H, Rp X.K α H d v) : PE X e (tr X.K Γ (.c d)) :=
  pe_w h fun σ H Q ⟨α, env, S, d', S', ok, en, e, k⟩ => by
    simp only [ev, Option.some.injEq, Prod.mk.injEq] at e
    obtain ⟨rfl, rfl⟩ := e
    exact k α H v Xt.refl ok (r α H)
theorem xe_int {i : Int} {j : Nat} : PE X (.Constant (.int i) j pos) (tr X.K Γ (.c (.int i))) := xe_k pe_int fun _ _ => .int i
theorem xe_bl {b : Bool} {j : Nat} : PE X (.Constant (.bool b) j pos) (tr X.K Γ (.c (.bl b))) := xe_k pe_bl fun _ _ => .bl b
theorem xe_non {j : Nat} : PE X (.Constant .none j pos) (tr X.K Γ (.c .non)) := xe_k pe_non fun _ _ => .non
theorem xe_str {x : Str} {j : Nat} : PE X (.Constant (.str x) j pos) (tr X.K Γ (.c (.str x))) := xe_k pe_str fun _ _ => .str x
theorem xe_ty {x : Str} {n : String} (hg : Gl X x) (hm : X.mg x = none) (hv : bootBuiltins x = some (.type n)) (hn : x ≠ "__name__" := by decide) (hd : (x == ("__debug__" : Str)) = false := by decide) : PE X (.Name x pos) (tr X.K Γ (.c (.ty n))) :=
  xe_k (v := .ty n) (pe_bltn hg hm hv (rfl : RelV (.ty n) (.type n)) hn hd) fun _ _ => .ty n
theorem xe_glob {x : Str} {d : D} {v : V} {u : Value} (hg : Gl X x) (hm : X.mg x = some u) (r : RelV v u) (h : ∀ α H, Rp X.K α H d v) (hd : (x == ("__debug__" : Str)) = false := by decide) : PE X (.Name x pos) (tr X.K Γ (.c d)) := xe_k (pe_glob hg hm r hd) h
theorem xe_bin (o : Bo) (ha : PE X a (tr X.K Γ ca)) (hb : PE X b (tr X.K Γ cb)) : PE X (.BinOp a (opOf o) b pos) (tr X.K Γ (.bin o ca cb)) :=
  pe_w (pe_op (o_of o) ha hb) fun σ H Q h => w_bin (fun _ _ => rfl) h
theorem xe_cmp (o : Co) (ha : PE X a (tr X.K Γ ca)) (hb : PE X b (tr X.K Γ cb)) (hm : behindInMarks (coOf o) b = false) : PE X (.Compare a [coOf o] [b] pos) (tr X.K Γ (.cmp o ca cb)) :=
  pe_w (pe_cmpR (c_of o) ha hb hm) fun σ H Q h => w_bin (fun _ _ => rfl) h
theorem xe_ix (ha : PE X a (tr X.K Γ ca)) (hb : PE X b (tr X.K Γ cb)) (hs : PlainIx b) : PE X (.Subscript a b pos) (tr X.K Γ (.ix ca cb)) :=
  pe_w (pe_ix i_ix ha hb hs) fun σ H Q h => w_bin (fun _ _ => rfl) h
theorem xe_neg (ha : PE X a (tr X.K Γ ca)) : PE X (.UnaryOp .USub a pos) (tr X.K Γ (.neg ca)) :=
  pe_w (pe_un un_neg ha) fun σ H Q ⟨α, env, S, d, S', ok, en, e, k⟩ => by
    simp only [ev, Option.bind_eq_some_iff] at e
    obtain ⟨⟨d1, S1⟩, e1, e2⟩ := e
    refine ⟨α, env, S, d1, S1, ok, en, e1, fun α1 H1 v1 x1 ok1 r1 => ?_⟩
    cases d1 with
    | int i =>
      simp only [Option.some.injEq, Prod.mk.injEq] at e2
      obtain ⟨rfl, rfl⟩ := e2
      cases r1
      exact ⟨i, rfl, k α1 H1 _ x1 ok1 (.int _)⟩
    | _ => cases e2
theorem tst_some {r : Option (D × Hd)} {b : Bool} {S : Hd} (h : tst r = some (b, S)) : ∃ d, r = some (d, S) ∧ tru S d = some b := by
  unfold tst at h
  simp only [Option.bind_eq_some_iff, Option.map_eq_some_iff, Prod.mk.injEq] at h
  obtain ⟨⟨d, S1⟩, e1, b', e2, rfl, rfl⟩ := h
  exact ⟨d, e1, e2⟩
theorem tst_of {r : Option (D × Hd)} {b : Bool} {S : Hd} {d : D} (h1 : r = some (d, S)) (h2 : tru S d = some b) : tst r = some (b, S) := by
  unfold tst
  rw [h1]
  simp [h2]
theorem xe_not (ha : PE X a (tr X.K Γ ca)) : PE X (.UnaryOp .Not a pos) (tr X.K Γ (.not_ ca)) :=
  pe_w (pe_notT ha) fun σ H Q ⟨α, env, S, d, S', ok, en, e, k⟩ => by
    simp only [ev, Option.map_eq_some_iff, Prod.mk.injEq] at e
    obtain ⟨⟨b, S1⟩, e1, rfl, rfl⟩ := e
    obtain ⟨d1, e2, e3⟩ := tst_some e1
    exact ⟨α, env, S, d1, S1, ok, en, e2, fun α1 H1 v1 x1 ok1 r1 => ⟨b, tru_of ok1 r1 e3, k α1 H1 _ x1 ok1 (.bl _)⟩⟩
theorem xe_one {op} (ha : PE X a (tr X.K Γ ca)) : PE X (.BoolOp op [a] pos) (tr X.K Γ ca) := pe_one ha
theorem xe_and (ha : PE X a (tr X.K Γ ca)) (hb : PE X (.BoolOp .And (b :: rest) pos) (tr X.K Γ cb)) : PE X (.BoolOp .And (a :: b :: rest) pos) (tr X.K Γ (.and_ ca cb)) :=
  pe_w (pe_and ha hb) fun σ H Q ⟨α, env, S, d, S', ok, en, e, k⟩ => by
    simp only [ev, Option.bind_eq_some_iff] at e
    obtain ⟨⟨d1, S1⟩, e1, e2⟩ := e
    refine ⟨α, env, S, d1, S1, ok, en, e1, fun α1 H1 v1 x1 ok1 r1 => ?_⟩
    cases d1 with
    | bl i =>
      cases r1
      refine ⟨i, rfl, ?_⟩
      cases i with
      | true => exact ⟨α1, env, S1, d, S', ok1, en.mono x1, e2, fun α2 H2 v2 x2 ok2 r2 => k α2 H2 v2 (x1.trans x2) ok2 r2⟩
      | false =>
        simp only [Option.some.injEq, Prod.mk.injEq] at e2
        obtain ⟨rfl, rfl⟩ := e2
        exact k α1 H1 _ x1 ok1 (.bl _)
    | _ => cases e2
theorem xe_or (ha : PE X a (tr X.K Γ ca)) (hb : PE X (.BoolOp .Or (b :: rest) pos) (tr X.K Γ cb)) : PE X (.BoolOp .Or (a :: b :: rest) pos) (tr X.K Γ (.or_ ca cb)) :=
  pe_w (pe_or ha hb) fun σ H Q ⟨α, env, S, d, S', ok, en, e, k⟩ => by
    simp only [ev, Option.bind_eq_some_iff] at e
    obtain ⟨⟨d1, S1⟩, e1, e2⟩ := e
    refine ⟨α, env, S, d1, S1, ok, en, e1, fun α1 H1 v1 x1 ok1 r1 => ?_⟩
    cases d1 with
    | bl i =>
      cases r1
      refine ⟨i, rfl, ?_⟩
      cases i with
      | false => exact ⟨α1, env, S1, d, S', ok1, en.mono x1, e2, fun α2 H2 v2 x2 ok2 r2 => k α2 H2 v2 (x1.trans x2) ok2 r2⟩
      | true =>
        simp only [Option.some.injEq, Prod.mk.injEq] at e2
        obtain ⟨rfl, rfl⟩ := e2
        exact k α1 H1 _ x1 ok1 (.bl _)
    | _ => cases e2
theorem xe_ite {c : Expr} (hc : PT X c (trT X.K Γ cc)) (ha : PE X a (tr X.K Γ ca)) (hb : PE X b (tr X.K Γ cb)) : PE X (.IfExp c a b pos) (tr X.K Γ (.ite cc ca cb)) :=
  pe_w (pe_ifExp hc ha hb) fun σ H Q ⟨α, env, S, d, S', ok, en, e, k⟩ => by
    simp only [ev, Option.bind_eq_some_iff] at e
    obtain ⟨⟨t, S1⟩, e1, e2⟩ := e
    refine ⟨α, env, S, t, S1, ok, en, e1, fun α1 H1 x1 ok1 => ?_⟩
    cases t with
    | true =>
      rw [if_pos rfl] at e2 ⊢
      exact ⟨α1, env, S1, d, S', ok1, en.mono x1, e2, fun α2 H2 v2 x2 ok2 r2 => k α2 H2 v2 (x1.trans x2) ok2 r2⟩
    | false =>
      rw [if_neg Bool.false_ne_true] at e2 ⊢
      exact ⟨α1, env, S1, d, S', ok1, en.mono x1, e2, fun α2 H2 v2 x2 ok2 r2 => k α2 H2 v2 (x1.trans x2) ok2 r2⟩
theorem w_chain {o p : Co} {σ : L2.St} {H : Hp} {Q : VK} (h : tr X.K Γ (.chain o p ca cb cc) σ H Q) : tChain (rB X.K (cmpD o)) (rB X.K (cmpD p)) (tr X.K Γ ca) (tr X.K Γ cb) (tr X.K Γ cc) σ H Q := by
  obtain ⟨α, env, S, d, S', ok, en, e, k⟩ := h
  simp only [ev, Option.bind_eq_some_iff] at e
  obtain ⟨⟨d1, S1⟩, e1, ⟨d2, S2⟩, e2, ⟨d3, S3⟩, e3, e4⟩ := e
  refine ⟨α, env, S, d1, S1, ok, en, e1, fun α1 H1 v1 x1 ok1 r1 => ⟨α1, env, S1, d2, S2, ok1, en.mono x1, e2, fun α2 H2 v2 x2 ok2 r2 =>
    ⟨α2, S2, d1, d2, d3, S3, ok2, r1.mono x2, r2, e3, fun α3 H3 v3 x3 ok3 r3 => ?_⟩⟩⟩
  cases d3 with
  | bl t =>
    cases r3
    refine ⟨t, rfl, ?_⟩
    cases t with
    | true =>
      rw [if_pos rfl]
      simp only [Option.bind_eq_some_iff] at e4
      obtain ⟨⟨d5, S5⟩, e5, e6⟩ := e4
      exact ⟨α3, env, S3, d5, S5, ok3, en.mono (x1.trans (x2.trans x3)), e5, fun α4 H4 v4 x4 ok4 r4 => ⟨α4, S5, d2, d5, d, S', ok4, r2.mono (x3.trans x4), r4, e6, fun α5 H5 v5 x5 ok5 r5 =>
        k α5 H5 v5 (x1.trans (x2.trans (x3.trans (x4.trans x5)))) ok5 r5⟩⟩
    | false =>
      rw [if_neg Bool.false_ne_true]
      simp only [Option.some.injEq, Prod.mk.injEq] at e4
      obtain ⟨rfl, rfl⟩ := e4
      exact k α3 H3 _ (x1.trans (x2.trans x3)) ok3 (.bl _)
  | _ => cases e4
theorem xe_chain (o p : Co) (ha : PE X a (tr X.K Γ ca)) (hb : PE X b (tr X.K Γ cb)) (hc : PE X c (tr X.K Γ cc)) (hm : lastMarks [coOf o, coOf p] [b, c] = false := by with_unfolding_all rfl) :
    PE X (.Compare a [coOf o, coOf p] [b, c] pos) (tr X.K Γ (.chain o p ca cb cc)) := pe_w (pe_chain (c_of o) (c_of p) ha hb hc hm) fun σ H Q h => w_chain h

/-! ### arguments -/
theorem xa_nil : PA X [] (trA X.K Γ .nil) := pa_w pa_nil fun σ H Q ⟨α, env, S, ds, S', ok, en, e, k⟩ => by
  simp only [ev, Option.some.injEq, Prod.mk.injEq, D.tup.injEq] at e
  obtain ⟨rfl, rfl⟩ := e
  exact k α H [] Xt.refl ok .nil
theorem w_cons {es' : E} {σ : L2.St} {H : Hp} {Q : List V → Hp → Prop} (h : trA X.K Γ (.cons ca es') σ H Q) : tCons (tr X.K Γ ca) (trA X.K Γ es') σ H Q := by
  obtain ⟨α, env, S, ds, S', ok, en, e, k⟩ := h
  simp only [ev, Option.bind_eq_some_iff, Option.map_eq_some_iff, Prod.mk.injEq, D.tup.injEq] at e
  obtain ⟨⟨d1, S1⟩, e1, ⟨d2, S2⟩, e2, dr, e3, rfl, rfl⟩ := e
  cases d2 with
  | tup zs =>
    simp only [argsOf, Option.some.injEq] at e3
    subst e3
    exact ⟨α, env, S, d1, S1, ok, en, e1, fun α1 H1 v1 x1 ok1 r1 => ⟨α1, env, S1, _, S2, ok1, en.mono x1, e2, fun α2 H2 v2 x2 ok2 r2 => k α2 H2 _ (x1.trans x2) ok2 (.cons (r1.mono x2) r2)⟩⟩
  | _ => cases e3
theorem xa_cons (ha : PE X e (tr X.K Γ ca)) (hr : PA X es (trA X.K Γ cs)) (hs : starEach (e :: es) X.env = (false, eval e X.env) :: starEach es X.env := by rfl) : PA X (e :: es) (trA X.K Γ (.cons ca cs)) :=
  pa_w (pa_cons ha hr hs) fun σ H Q h => w_cons h
theorem argsOf_some {d : D} {ds : List D} (h : argsOf d = some ds) : d = .tup ds := by
  cases d <;> simp [argsOf] at h
  rw [h]
theorem xe_tup {x1} (h : PA X es (trA X.K Γ cs)) : PE X (.Tuple es x1 pos) (tr X.K Γ (.tup cs)) :=
  pe_w (pe_tup h) fun σ H Q ⟨α, env, S, d, S', ok, en, e, k⟩ => by
    simp only [ev, Option.bind_eq_some_iff] at e
    obtain ⟨⟨d1, S1⟩, e1, ds, e2, e3⟩ := e
    cases argsOf_some e2
    split at e3
    · rename_i hz
      simp only [Option.some.injEq, Prod.mk.injEq] at e3
      obtain ⟨rfl, rfl⟩ := e3
      exact ⟨α, env, S, ds, S1, ok, en, e1, fun α1 H1 vs x1 ok1 r1 => ⟨most_line (by rw [r1.len]; exact hz), fun p hp => go_tup ok1 hp r1 fun α2 H2 v2 x2 ok2 r2 => k α2 H2 v2 (x1.trans x2) ok2 r2⟩⟩
    · cases e3
theorem xe_lst (h : PA X es (trA X.K Γ cs)) : PE X (.List es pos) (tr X.K Γ (.lst cs)) :=
  pe_w (pe_lst h) fun σ H Q ⟨α, env, S, d, S', ok, en, e, k⟩ => by
    simp only [ev, Option.bind_eq_some_iff] at e
    obtain ⟨⟨d1, S1⟩, e1, ds, e2, e3⟩ := e
    cases argsOf_some e2
    split at e3
    · rename_i hz
      simp only [alloc, Option.some.injEq, Prod.mk.injEq] at e3
      obtain ⟨rfl, rfl⟩ := e3
      exact ⟨α, env, S, ds, S1, ok, en, e1, fun α1 H1 vs x1 ok1 r1 => ⟨most_line (by rw [r1.len]; exact hz), fun p hp => go_new ok1 hp r1 fun α2 H2 v2 x2 ok2 r2 => k α2 H2 v2 (x1.trans x2) ok2 r2⟩⟩
    · cases e3

/-! ### slices -/
theorem xo_none : PO X none (trO X.K Γ false .nop) := by
  refine ⟨fun pins s σ H Q I h => ?_⟩
  obtain ⟨α, env, S, o, S', ok, en, e, k⟩ := h
  simp only [evP, Bool.false_eq_true, if_false, Option.some.injEq, Prod.mk.injEq] at e
  obtain ⟨rfl, rfl⟩ := e
  exact po_none.run pins s σ H Q I (k α H Xt.refl ok)
theorem xo_some (h : PE X e (tr X.K Γ ce)) : PO X (some e) (trO X.K Γ true ce) := by
  refine ⟨fun pins s σ H Q I hw => ?_⟩
  obtain ⟨α, env, S, o, S', ok, en, e1, k⟩ := hw
  simp only [evP, if_true, Option.bind_eq_some_iff] at e1
  obtain ⟨⟨d, S1⟩, e1, e2⟩ := e1
  cases d with
  | int i =>
    simp only [Option.some.injEq, Prod.mk.injEq] at e2
    obtain ⟨rfl, rfl⟩ := e2
    exact (po_some h).run pins s σ H Q I ⟨α, env, S, _, S1, ok, en, e1, fun α' H' v x ok' r => by
      cases r
      exact ⟨i, rfl, k α' H' x ok'⟩⟩
  | _ => cases e2
def rSD (K : PySem.W.Frag) : V → Option Int → Option Int → Hp → VK → Prop := fun x l h H Q => ∃ α S d1 d S', Ok K α S H ∧ Rp K α H d1 x ∧ slD d1 l h S = some (d, S') ∧ ∀ α' H' v, Xt K α H α' H' → Ok K α' S' H' → Rp K α' H' d v → Q v H'
theorem cut_all {xs : List D} {lo hi : Option Int} (h : HT.sIx xs.length 0 lo = 0 ∧ HT.sIx xs.length xs.length hi = xs.length) : cutD xs lo hi = xs := by
  unfold cutD
  rw [h.1, h.2]
  simp
theorem s_sl : SlR X (rSD X.K) := by
  intro pins s σ H x v vl vu lo hi sl Q I rx hs pl pu ⟨α, S, d1, d, S', ok, r1, e, k⟩
  have lst : ∀ {xs : List D}, isTup d1 = false → (seqOf S d1).map (fun xs => alloc S (cutD xs lo hi)) = some (d, S') →
      ∃ T id, typeLookup (.type T) "__getitem__" = pure (some (.builtin id)) ∧ s.TypeIs v T ∧ wpAny (model X.prog X.w) X.A (getItem v (.ref sl)) (EP X pins σ Q) X.xe s := fun {xs} nt e => by
    simp only [Option.map_eq_some_iff, alloc, Prod.mk.injEq] at e
    obtain ⟨xs, h1, rfl, rfl⟩ := e
    obtain ⟨a, vs, rfl, rs, z⟩ := seq_of ok r1 h1
    rcases z with ⟨z1, _⟩ | ⟨_, z⟩
    · rw [nt] at z1
      cases z1
    · exact sl_list pins s σ H _ v vl vu lo hi sl Q I rx hs pl pu ⟨a, vs, rfl, z, fun p hp => go_new ok hp (cut_of rs lo hi) k⟩
  cases d1 with
  | tup xs =>
    simp only [slD, Option.some.injEq, Prod.mk.injEq] at e
    obtain ⟨rfl, rfl⟩ := e
    cases r1 with
    | tup h1 l1 q1 =>
      rename_i a vs
      refine sl_tupA pins s σ H _ v vl vu lo hi sl Q I rx hs pl pu ⟨a, vs, rfl, h1, fun z => ?_, fun z p hp => go_tup ok hp (cut_of ⟨l1, q1⟩ lo hi) k⟩
      rw [l1] at z
      rw [cut_all z] at k
      exact k α H _ Xt.refl ok (.tup h1 l1 q1)
  | str z =>
    simp only [slD] at e
    split at e
    · rename_i hz
      simp only [Option.some.injEq, Prod.mk.injEq] at e
      obtain ⟨rfl, rfl⟩ := e
      cases r1
      exact sl_str pins s σ H _ v vl vu lo hi sl Q I rx hs pl pu ⟨z, rfl, most_line hz, k α H _ Xt.refl ok (.str _)⟩
    · cases e
  | ref k => exact lst (xs := []) rfl e
  | ro ns => exact lst (xs := []) rfl e
  | _ => simp [slD, seqOf] at e
theorem xe_sl {lo hi : Option Expr} {p2 : Pos} {b1 b2 : Bool} {cl ch : E} (ha : PE X a (tr X.K Γ ca)) (hl : PO X lo (trO X.K Γ b1 cl)) (hh : PO X hi (trO X.K Γ b2 ch)) : PE X (.Subscript a (.Slice lo hi none p2) pos) (tr X.K Γ (.sl b1 b2 ca cl ch)) :=
  pe_w (pe_slice s_sl ha hl hh) fun σ H Q ⟨α, env, S, d, S', ok, en, e, k⟩ => by
    simp only [ev, Option.bind_eq_some_iff] at e
    obtain ⟨⟨d1, S1⟩, e1, ⟨o1, S2⟩, e2, ⟨o2, S3⟩, e3, e4⟩ := e
    exact ⟨α, env, S, d1, S1, ok, en, e1, fun α1 H1 v1 x1 ok1 r1 => ⟨α1, env, S1, o1, S2, ok1, en.mono x1, e2, fun α2 H2 x2 ok2 => ⟨α2, env, S2, o2, S3, ok2, en.mono (x1.trans x2), e3, fun α3 H3 x3 ok3 =>
      ⟨α3, S3, d1, d, S', ok3, r1.mono (x2.trans x3), e4, fun α4 H4 v4 x4 ok4 r4 => k α4 H4 v4 (x1.trans (x2.trans (x3.trans x4))) ok4 r4⟩⟩⟩⟩

/-! ### tests -/
theorem xt_truth (ha : PE X a (tr X.K Γ ca)) (he : ∀ whole, isTrue a X.env whole = (do let v ← whole; standAt a.pos; holding [v] (truthy v))) : PT X a (trT X.K Γ ca) :=
  pt_w (pt_truth ha he) fun σ H Q ⟨α, env, S, b, S', ok, en, e, k⟩ => by
    obtain ⟨d, e1, e2⟩ := tst_some e
    exact ⟨α, env, S, d, S', ok, en, e1, fun α' H' v x ok' r => ⟨b, tru_of ok' r e2, k α' H' x ok'⟩⟩
theorem cmp_bl {o : Co} {x y d : D} {S S' : Hd} (h : cmpD o x y S = some (d, S')) : ∃ b, d = .bl b := by
  unfold cmpD at h
  split at h
  · simp only [Option.map_eq_some_iff, Prod.mk.injEq] at h
    obtain ⟨b, _, rfl, _⟩ := h
    exact ⟨_, rfl⟩
  · simp only [Option.map_eq_some_iff, Prod.mk.injEq] at h
    obtain ⟨b, _, rfl, _⟩ := h
    exact ⟨_, rfl⟩
  · simp only [Option.some.injEq, Prod.mk.injEq] at h; exact ⟨_, h.1.symm⟩
  · simp only [Option.some.injEq, Prod.mk.injEq] at h; exact ⟨_, h.1.symm⟩
  · simp only [Option.some.injEq, Prod.mk.injEq] at h; exact ⟨_, h.1.symm⟩
  · simp only [Option.some.injEq, Prod.mk.injEq] at h; exact ⟨_, h.1.symm⟩
  · simp only [Option.some.injEq, Prod.mk.injEq] at h; exact ⟨_, h.1.symm⟩
  · simp only [Option.some.injEq, Prod.mk.injEq] at h; exact ⟨_, h.1.symm⟩
  · simp only [Option.some.injEq, Prod.mk.injEq] at h; exact ⟨_, h.1.symm⟩
  · simp only [Option.some.injEq, Prod.mk.injEq] at h; exact ⟨_, h.1.symm⟩
  · split at h
    · simp only [Option.bind_eq_some_iff] at h
      obtain ⟨xs, _, h⟩ := h
      split at h
      · simp only [Option.some.injEq, Prod.mk.injEq] at h; exact ⟨_, h.1.symm⟩
      · cases h
    · cases h
  · split at h
    · simp only [Option.bind_eq_some_iff] at h
      obtain ⟨xs, _, h⟩ := h
      split at h
      · simp only [Option.some.injEq, Prod.mk.injEq] at h; exact ⟨_, h.1.symm⟩
      · cases h
    · cases h
  · cases h
/-- a test whose value is a bool: back to the value -/
theorem w_test {t : TE} {σ : L2.St} {H : Hp} {Q : Bool → Hp → Prop} (hb : ∀ env S d S', ev Γ ca env S = some (d, S') → ∃ b, d = .bl b) (w : ∀ σ H Q, tr X.K Γ ca σ H Q → t σ H Q) (h : trT X.K Γ ca σ H Q) : tTest t σ H Q := by
  obtain ⟨α, env, S, b, S', ok, en, e, k⟩ := h
  obtain ⟨d, e1, e2⟩ := tst_some e
  obtain ⟨b', rfl⟩ := hb env S d S' e1
  simp only [tru, Option.some.injEq] at e2
  subst e2
  refine w σ H _ ⟨α, env, S, _, S', ok, en, e1, fun α' H' v x ok' r => ?_⟩
  cases r
  exact ⟨b', rfl, k α' H' x ok'⟩
theorem xt_cmp (o : Co) (ha : PE X a (tr X.K Γ ca)) (hb : PE X b (tr X.K Γ cb)) (hm : behindInMarks (coOf o) b = false) : PT X (.Compare a [coOf o] [b] pos) (trT X.K Γ (.cmp o ca cb)) :=
  pt_w (pt_cmpR (c_of o) ha hb hm) fun σ H Q h => w_test (fun env S d S' e => by
    simp only [ev, Option.bind_eq_some_iff] at e
    obtain ⟨_, _, _, _, e⟩ := e
    exact cmp_bl e) (fun σ H Q h => w_bin (fun _ _ => rfl) h) h
theorem xt_chain (o p : Co) (ha : PE X a (tr X.K Γ ca)) (hb : PE X b (tr X.K Γ cb)) (hc : PE X c (tr X.K Γ cc)) (hm : lastMarks [coOf o, coOf p] [b, c] = false := by with_unfolding_all rfl) :
    PT X (.Compare a [coOf o, coOf p] [b, c] pos) (trT X.K Γ (.chain o p ca cb cc)) :=
  pt_w (pt_chain (c_of o) (c_of p) ha hb hc hm) fun σ H Q h => w_test (fun env S d S' e => by
    simp only [ev, Option.bind_eq_some_iff] at e
    obtain ⟨_, _, _, _, ⟨d3, S3⟩, e3, e4⟩ := e
    obtain ⟨t, rfl⟩ := cmp_bl e3
    cases t with
    | true =>
      simp only [Option.bind_eq_some_iff] at e4
      obtain ⟨_, _, e4⟩ := e4
      exact cmp_bl e4
    | false =>
      simp only [Option.some.injEq, Prod.mk.injEq] at e4
      exact ⟨_, e4.1.symm⟩) (fun σ H Q h => w_chain h) h
theorem xt_not (ha : PT X a (trT X.K Γ ca)) : PT X (.UnaryOp .Not a pos) (trT X.K Γ (.not_ ca)) :=
  pt_w (pt_not ha) fun σ H Q ⟨α, env, S, b, S', ok, en, e, k⟩ => by
    obtain ⟨d, e1, e2⟩ := tst_some e
    simp only [ev, Option.map_eq_some_iff, Prod.mk.injEq] at e1
    obtain ⟨⟨b1, S1⟩, e3, rfl, rfl⟩ := e1
    simp only [tru, Option.some.injEq] at e2
    subst e2
    exact ⟨α, env, S, b1, S1, ok, en, e3, k⟩
theorem xw_and1 (ha : PT X a (trT X.K Γ ca)) : PW X (.BoolOp .And [a] pos) (trT X.K Γ ca) := pw_and1 ha
theorem xw_or1 (ha : PT X a (trT X.K Γ ca)) : PW X (.BoolOp .Or [a] pos) (trT X.K Γ ca) := pw_or1 ha
theorem xw_and (ha : PT X a (trT X.K Γ ca)) (hb : PW X (.BoolOp .And (b :: rest) pos) (trT X.K Γ cb)) : PW X (.BoolOp .And (a :: b :: rest) pos) (trT X.K Γ (.and_ ca cb)) :=
  pw_w (pw_and ha hb) fun σ H Q ⟨α, env, S, t, S', ok, en, e, k⟩ => by
    obtain ⟨d, e1, e2⟩ := tst_some e
    simp only [ev, Option.bind_eq_some_iff] at e1
    obtain ⟨⟨d1, S1⟩, e3, e4⟩ := e1
    cases d1 with
    | bl i =>
      refine ⟨α, env, S, i, S1, ok, en, tst_of e3 rfl, fun α1 H1 x1 ok1 => ?_⟩
      cases i with
      | true =>
        rw [if_pos rfl]
        exact ⟨α1, env, S1, t, S', ok1, en.mono x1, tst_of e4 e2, fun α2 H2 x2 ok2 => k α2 H2 (x1.trans x2) ok2⟩
      | false =>
        rw [if_neg Bool.false_ne_true]
        simp only [Option.some.injEq, Prod.mk.injEq] at e4
        obtain ⟨rfl, rfl⟩ := e4
        simp only [tru, Option.some.injEq] at e2
        subst e2
        exact k α1 H1 x1 ok1
    | _ => cases e4
theorem xw_or (ha : PT X a (trT X.K Γ ca)) (hb : PW X (.BoolOp .Or (b :: rest) pos) (trT X.K Γ cb)) : PW X (.BoolOp .Or (a :: b :: rest) pos) (trT X.K Γ (.or_ ca cb)) :=
  pw_w (pw_or ha hb) fun σ H Q ⟨α, env, S, t, S', ok, en, e, k⟩ => by
    obtain ⟨d, e1, e2⟩ := tst_some e
    simp only [ev, Option.bind_eq_some_iff] at e1
    obtain ⟨⟨d1, S1⟩, e3, e4⟩ := e1
    cases d1 with
    | bl i =>
      refine ⟨α, env, S, i, S1, ok, en, tst_of e3 rfl, fun α1 H1 x1 ok1 => ?_⟩
      cases i with
      | false =>
        rw [if_neg Bool.false_ne_true]
        exact ⟨α1, env, S1, t, S', ok1, en.mono x1, tst_of e4 e2, fun α2 H2 x2 ok2 => k α2 H2 (x1.trans x2) ok2⟩
      | true =>
        rw [if_pos rfl]
        simp only [Option.some.injEq, Prod.mk.injEq] at e4
        obtain ⟨rfl, rfl⟩ := e4
        simp only [tru, Option.some.injEq] at e2
        subst e2
        exact k α1 H1 x1 ok1
    | _ => cases e4
end
end Ix

namespace Ix
open PySem PySem.Spec PyProof.Rows L2
/-! ### arounds in which nothing is being written out (repr asks this) -/
structure RoomG (k : Nat) (A : Around) : Prop where
  room : Room k A
  none : A.guards = some []
theorem RoomG.deeper {k : Nat} {A : Around} (r : RoomG (k + 1) A) (env : Env) : RoomG k (A.deeper env) := ⟨r.room.deeper env, r.none⟩
theorem RoomG.mono {j k : Nat} {A : Around} (r : RoomG k A) (h : j ≤ k) : RoomG j A := ⟨r.room.mono h, r.none⟩
theorem RoomG.in1 {k : Nat} {A : Around} (r : RoomG (k + 1) A) : RoomG k A.in1 := ⟨r.room.in1, r.none⟩
variable {P : Program} {w : World} {K : PySem.W.Frag} {mg : Str → Option Value} {base : Heap}
/-- what a def promises where nothing is being written out -/
structure FnG (P : Program) (w : World) (K : PySem.W.Frag) (mg : Str → Option Value) (base : Heap) (k : Nat) (f : Addr) (fd : FuncData) (ps : List Str) (sp : Sp) : Prop where
  len : ∀ vs H Q E, sp vs H Q E → vs.length = ps.length
  run : ∀ {A : Around} {outer : List Env} {s : Shared} {H : Hp} {args : Args} {us : List Value} {vs : List V} {Q : VK} {E : XK}, RoomG k A → Env0 P w K mg base A outer s H → BindsTo s fd args (ps.zip us) →
    Vals vs us → sp vs H Q E → codeAny (model P w) A (.call (.ref f) args) (CR CX0 outer P w H s Q E) s
/-- a def as it stands in K, whatever its defaults -/
def FunA (K : PySem.W.Frag) (x : Str) (st : Stmt) (f : Addr) (fd : FuncData) : Prop := ∃ (oc : Value) (od : Option Addr) (dV kV doc pm : Value) (an : Option Addr) (cdv ct : Value) (osl : Array (Option Value)),
  fd = PySem.W.fnOf x x (defArgs st) (defBody st) (defScope st) dV kV doc pm an cdv ct ∧ K.lookup f = some ⟨oc, od, .func fd, osl⟩ ∧ PySem.W.codeIn K cdv x = true
theorem fun_A {x : Str} {st : Stmt} {f : Addr} {fd : FuncData} (F : Fun K x x st f fd) : FunA K x st f fd := by
  obtain ⟨oc, od, kV, doc, pm, an, cdv, ct, osl, e, look, code⟩ := F.ex
  exact ⟨oc, od, _, kV, doc, pm, an, cdv, ct, osl, e, look, code⟩
theorem fund_A {x : Str} {st : Stmt} {f : Addr} {fd : FuncData} {dvs : List V} {kws : List (Str × V)} (F : FunD K x x (defArgs st) (defBody st) (defScope st) dvs kws f fd) : FunA K x st f fd := by
  obtain ⟨oc, od, dV, kV, doc, pm, an, cdv, ct, osl, e, look, code, _, _⟩ := F.ex
  exact ⟨oc, od, dV, kV, doc, pm, an, cdv, ct, osl, e, look, code⟩
theorem fnG_of {x : Str} {st : Stmt} {f : Addr} {fd : FuncData} {N ps : List Str} {k : Nat} {sp : Sp} (F : FunA K x st f fd) (S : FnScope N ps (defScope st)) (len : ∀ vs H Q E, sp vs H Q E → vs.length = ps.length)
    (body : ∀ (cdv : Value) (A : Around) (outer : List Env) (s : Shared) (H : Hp) (vs : List V) (Q : VK) (E : XK), RoomG k (A.deeper (PyProof.Rows.envOfC x (defScope st) s.heap.objs.size f cdv)) → sp vs H Q E →
      ∃ t, PSs (cxOf CX0 P w K mg base N x (defScope st) f cdv A outer s H E).nox (defBody st) t ∧ t { nx := fun _ H' => Q .non H', rt := Q } (start N vs) H) : FnG P w K mg base (k + 1) f fd ps sp := by
  obtain ⟨oc, od, dV, kV, doc, pm, an, cdv, ct, osl, rfl, look, code⟩ := F
  constructor
  · exact len
  intro A outer s H args us vs Q E rg e0 binds rv spec
  have kept : ∀ b o, base.get? b = some o → s.heap.get? b = some o := fun b o e => (e0.bs b o e).1
  have inK : K.In s.heap := e0.mod.kin.keeps kept
  have free : s.heap.NoLimit := e0.mod.nolimit.keeps kept
  have kinds : ∀ y ∈ ps.zip us, (defScope st).names.lookup y.1 = some .local ∨ ((defScope st).names.lookup y.1 = some .cell ∧ ((cellsFrom (s.heap.objs.size + 1) (defScope st).names []).lookup y.1).isSome = true) := by
    rintro ⟨n, v⟩ hy
    exact (S.par n (List.of_mem_zip hy).1).imp id fun q => ⟨q, PySem.W.cellsFrom_some _ _ _ (.inl q)⟩
  apply codeAny_call_function rg.room.depth (inK _ _ look) rfl S.co S.gen rfl (PySem.W.codeRec_of inK code)
  apply binds
  apply wpAny_newFunctionEnv_cells S.kind kinds
  rintro env rfl s1 laid
  constructor
  · exact free.keeps laid.toInCall.keep
  apply codeAny_func
  obtain ⟨t, tree, here⟩ := body cdv A outer s H vs Q E (rg.deeper _) spec
  have start0 : Inv (cxOf CX0 P w K mg base N x (defScope st) f cdv A outer s H E) [] (start N vs) H s1 := inv_start S rg.room.hd e0 (len _ _ _ _ spec) rv laid
  refine wpAny_mono (tree.nox.run [] s1 (start N vs) H _ start0 here) ?_ fun _ _ z => z
  intro fl s' q
  match fl, q with
  | .ret u, ⟨v, _, H', J, rv, z⟩ => exact ⟨v, H', J.os, J.bare, J.base, J.hok, rv, z⟩
  | .next, ⟨_, H', J, z⟩ => exact ⟨V.non, H', J.os, J.bare, J.base, J.hok, rfl, z⟩
  | .brk, ⟨_, _, _, z⟩ => exact z.elim
  | .cont, ⟨_, _, _, z⟩ => exact z.elim
section
variable {X : Cx} {k : Nat} {f : Addr} {fd : FuncData} {ps : List Str} {sp : Sp} {E : XK}
/-- the call itself, its arguments bound -/
theorem runG {pins : List (Addr × Obj)} {σ : L2.St} {H : Hp} {s : Shared} {Q : VK} {args : Args} {us : List Value} {vs : List V} (F : FnG X.prog X.w X.K X.mg X.base k f fd ps sp) (hr : RoomG k X.A) (hb : BindsTo s fd args (ps.zip us)) (hx : Passes CX0 X E)
    (I : Inv X pins σ H s) (r : Vals vs us) (h : sp vs H Q E) : wpAny (model X.prog X.w) X.A (call (.ref f) args.pos args.kw) (EP X pins σ Q) X.xe s := by
  apply wpAny_call
  refine codeAny_mono (F.run hr I.env0 hb r h) ?_
  intro res s' q
  match res, q with
  | .error e, q => exact hx pins σ H s e s' I q
  | .ok (.ret u), q => exact I.after q
  | .ok .next, q => exact False.elim q
  | .ok .brk, q => exact False.elim q
  | .ok .cont, q => exact False.elim q
variable {x : Str} {p pos : Pos} {e : Expr} {es : List Expr} {t : TA} {ds : List Value}
theorem pe_callG (F : FnG X.prog X.w X.K X.mg X.base k f fd ps sp) (hr : RoomG k X.A) (hg : Gl X x) (hm : X.mg x = some (.ref f)) (hk : PySem.W.keepIn X.K (.ref f) = true) (hb : Binds X.K fd ps []) (hx : Passes CX0 X E)
    (ha : PA X (e :: es) t) (hdb : (x == ("__debug__" : Str)) = false) (he : starEach (e :: es) X.env = (false, eval e X.env) :: starEach es X.env) (hpl : (backTo pos (starEach es X.env)).any (·.1) = false) :
    PE X (.Call (.Name x p) (e :: es) [] pos) (tCall sp [] E t) := by
  constructor
  intro pins s σ H Q I h
  apply wpAny_Call_Name_kw
  refine ld_glob I hg hm ?_ hdb
  refine PySem.W.callWith_K I.ok.mod.kin hk (thn (ha.run pos pins s σ H _ I h) ?_) he hpl
  rintro us s1 ⟨vs, H1, I1, r, q⟩
  have q' : sp (vs ++ []) H1 Q E := q
  rw [List.append_nil] at q'
  refine ⟨I1.kIn, ?_⟩
  have l : us.length = ps.length := by rw [← r.length]; exact F.len _ _ _ _ q'
  have b := hb s1 us I1.kIn (by rw [List.append_nil]; exact l)
  rw [List.append_nil] at b
  exact runG (args := ⟨us, []⟩) F hr b hx I1 r q'
/-- a call by position, the last of the defaults filled in -/
theorem pe_callGP {dvs : List V} (F : FnG X.prog X.w X.K X.mg X.base k f fd ps sp) (hr : RoomG k X.A) (hg : Gl X x) (hm : X.mg x = some (.ref f)) (hk : PySem.W.keepIn X.K (.ref f) = true) (hb : Binds X.K fd ps ds) (hd : Vals dvs ds) (hx : Passes CX0 X E)
    (ha : PA X (e :: es) t) (hdb : (x == ("__debug__" : Str)) = false) (he : starEach (e :: es) X.env = (false, eval e X.env) :: starEach es X.env) (hpl : (backTo pos (starEach es X.env)).any (·.1) = false) :
    PE X (.Call (.Name x p) (e :: es) [] pos) (tCall sp dvs E t) := by
  constructor
  intro pins s σ H Q I h
  apply wpAny_Call_Name_kw
  refine ld_glob I hg hm ?_ hdb
  refine PySem.W.callWith_K I.ok.mod.kin hk (thn (ha.run pos pins s σ H _ I h) ?_) he hpl
  rintro us s1 ⟨vs, H1, I1, r, q⟩
  have q' : sp (vs ++ dvs) H1 Q E := q
  refine ⟨I1.kIn, ?_⟩
  have rr := r.append hd
  have l : (us ++ ds).length = ps.length := by rw [← rr.length]; exact F.len _ _ _ _ q'
  exact runG (args := ⟨us, []⟩) F hr (hb s1 us I1.kIn l) hx I1 rr q'
end
section
variable {X : Cx} {k n : Nat} {f : Addr} {fd : FuncData} {ps ks : List Str} {sp : Sp} {E : XK} {g : List Value → List Value → List Value} {gV : List V → List V → List V}
theorem run_fnG {pins : List (Addr × Obj)} {σ : L2.St} {H : Hp} {s : Shared} {Q : VK} {us ws : List Value} {vs zs : List V} (F : FnG X.prog X.w X.K X.mg X.base k f fd ps sp) (hr : RoomG k X.A) (hb : KBn X.K fd ps n ks g gV) (hx : Passes CX0 X E)
    (I : Inv X pins σ H s) (r : Vals vs us) (rz : Vals zs ws) (l1 : vs.length = n) (l2 : zs.length = ks.length) (h : sp (gV vs zs) H Q E) : wpAny (model X.prog X.w) X.A (call (.ref f) us (ks.zip ws)) (EP X pins σ Q) X.xe s := by
  have b := hb.to s us ws I.kIn (by rw [← r.length]; exact l1) (by rw [← rz.length]; exact l2)
  exact runG (args := ⟨us, ks.zip ws⟩) F hr b hx I (hb.rel r rz) h
variable {x : Str} {p pos : Pos} {e : Expr} {es : List Expr} {t tk : TA} {kws : List Keyword}
theorem pe_callNG (F : FnG X.prog X.w X.K X.mg X.base k f fd ps sp) (hr : RoomG k X.A) (hg : Gl X x) (hm : X.mg x = some (.ref f)) (hk : PySem.W.keepIn X.K (.ref f) = true) (hb : KBn X.K fd ps n ks g gV) (hx : Passes CX0 X E)
    (ha : PA X (e :: es) t) (hkw : PK X kws tk) (hall : (backToKw pos (keywordEach kws X.env)).all (·.1.isSome) = true) (hks : (backToKw pos (keywordEach kws X.env)).filterMap (·.1) = ks)
    (hdb : (x == ("__debug__" : Str)) = false) (he : starEach (e :: es) X.env = (false, eval e X.env) :: starEach es X.env)
    (hpl : ((backTo pos (starEach (e :: es) X.env)).any (·.1) || (backToKw pos (keywordEach kws X.env)).any (·.1.isNone)) = false) :
    PE X (.Call (.Name x p) (e :: es) kws pos) (tCallN n ks.length sp gV E t tk) := by
  constructor
  intro pins s σ H Q I h
  apply wpAny_Call_Name_kw
  refine ld_glob I hg hm ?_ hdb
  refine PySem.W.callWith_KW I.ok.mod.kin hk hall (thn (ha.run pos pins s σ H _ I h) ?_) hpl he
  rintro us s1 ⟨vs, H1, I1, r, q⟩
  refine thn (hkw.run pos pins s1 σ H1 _ I1 q) ?_
  rintro ws s2 ⟨zs, H2, I2, rz, l1, l2, z⟩
  refine ⟨I2.kIn, ?_⟩
  subst hks
  exact run_fnG F hr hb hx I2 r rz l1 l2 z
end
/-! ### the law's own call -/
theorem law_callG {mb : Str → Option Value} {k : Nat} {fa a : Addr} {fd : FuncData} {x : Str} {sp : Sp} {s₁ : Shared} {vs : List Value} {ns : List Int} (inK : K.In s₁.heap) (names : s₁.heap.Ns mainGlobals mg) (nb : s₁.heap.Ns builtinsNs mb) (boot : ∀ x : Str, x ≠ "__name__" → mb x = bootBuiltins x)
    (free : s₁.heap.NoLimit) (nogen : s₁.gens = #[]) (ha : s₁.heap.get? a = some { cls := .type "list", data := .seq vs.toArray }) (hi : IntsAre vs ns) (hl : ns.length ≤ sizeLine) (hr : RoomG k callerA)
    (F : ∀ base : Heap, K.In base → base.Ns mainGlobals mg → FnG P w K mg base k fa fd [x] sp) (bind : ∀ (s : Shared) (u : Value), BindsTo s fd ⟨[u], []⟩ [(x, u)])
    (hsp : ∀ H : Hp, Only H → SqL K H a (ns.map V.int) → sp [.ref a] H (fun v _ => v = .bl true) E0) :
    codeAny (model P w) callerA (.call (.ref fa) ⟨[.ref a], []⟩) (fun r s' => r = .ok (.ret (.bool true)) ∧ OldK s₁.heap s'.heap ∧ s'.os = s₁.os ∧ AllBare s'.gens) s₁ := by
  have rv := vals_ints hi
  have lenV := hi.length
  obtain ⟨H, only, seq, hok, own, out⟩ : ∃ H : Hp, Only H ∧ SqL K H a (ns.map V.int) ∧ HOk P w H s₁.heap ∧ (∀ b, H b ≠ none → b = a) ∧ (H a ≠ none → K.lookup a = none) := by
    cases look : K.lookup a with
    | some o =>
      have same := inK a o look
      rw [ha] at same
      cases same
      refine ⟨fun _ => none, fun _ => .inl rfl, .inr ⟨_, vs.toArray, _, look, rfl, rfl, rfl, ?_, ?_⟩, ?_, ?_, ?_⟩
      · rw [List.size_toArray, lenV]; exact hl
      · simpa using rv
      · intro b u z; cases (show (none : Option HO) = some u from z)
      · intro b z; exact absurd rfl z
      · intro z; exact absurd rfl z
    | none =>
      let T : HO := .frz { cls := .type "list", data := .seq vs.toArray } (.lst (ns.map V.int))
      obtain ⟨H, here, there⟩ : ∃ H : Hp, H a = some T ∧ ∀ b, b ≠ a → H b = none := ⟨fun b => if b = a then some T else none, if_pos rfl, fun b e => if_neg e⟩
      have only1 : ∀ b u, H b = some u → b = a := fun b u z => Classical.byContradiction fun e => by rw [there b e] at z; cases z
      refine ⟨H, fun b => ?_, .inl (.inr ⟨_, here⟩), fun b u z => ?_, fun b z => ?_, fun _ => rfl⟩
      · by_cases e : b = a
        · subst e
          exact .inr ⟨_, _, here⟩
        · exact .inl (there b e)
      · have e := only1 b u z
        subst e
        rw [here] at z
        cases z
        exact ⟨ha, by rw [List.length_map]; exact hl, vs, _, rv, ha⟩
      · exact Classical.byContradiction fun e => z (there b e)
  have bare : ∀ {b : Addr} {o : Obj}, s₁.heap.get? b = some o → (b = a → False) → (hidT s₁.heap H).get? b = some o := fun {b o} e ne => hidT_get e (Classical.byContradiction fun q => ne (own b q))
  have dict : ∀ {b : Addr} {o : Obj} {es : Array DictEntry} {ep : Nat}, s₁.heap.get? b = some o → o.data = .dict es ep → b = a → False := fun {b o es ep} e d z => by
    subst z
    rw [ha] at e
    cases e
    cases d
  have nsB : ∀ {b : Addr} {m : Str → Option Value}, s₁.heap.Ns b m → (hidT s₁.heap H).Ns b m := fun {b m} ⟨o, es, ep, e, d, r⟩ => ⟨o, es, ep, bare e (dict e d), d, r⟩
  have inB : K.In (hidT s₁.heap H) := fun b o e => hidT_get (inK b o e) (Classical.byContradiction fun q => by
    have z := own b q
    subst z
    rw [out q] at e
    cases e)
  obtain ⟨mc, f1, f2⟩ := free
  have e0 : Env0 P w K mg (hidT s₁.heap H) callerA [] s₁ H := ⟨rfl, ⟨inB, nsB names, ⟨mb, nsB nb, boot⟩, ⟨mc, nsB f1, f2⟩⟩, fun b o e => of_hidT e, Nat.le_of_eq (hidT_size _ _), trivial, (fun b hb => by simp [frs] at hb), hok, AllBare.of_eq nogen⟩
  refine codeAny_mono ((F _ inB (nsB names)).run (args := ⟨[.ref a], []⟩) (us := [.ref a]) (vs := [.ref a]) hr e0 (bind s₁ (.ref a)) (.cons rfl .nil) (hsp H only seq)) ?_
  intro r s' q
  match r, q with
  | .error e, q => exact q.elim
  | .ok .next, q => exact False.elim q
  | .ok .brk, q => exact False.elim q
  | .ok .cont, q => exact False.elim q
  | .ok (.ret u), ⟨v, H', os, br, un, hok', r', z⟩ =>
    have z : v = .bl true := z
    subst z
    have r' : u = Value.bool true := r'
    subst r'
    refine ⟨rfl, OldK.of_keep fun b o e => ?_, os, br⟩
    cases hb : H b with
    | none => exact un.keep b o e hb (fun z => by cases z) (by simp)
    | some u =>
      rcases only b with z | ⟨ob, xs, z⟩
      · rw [hb] at z; cases z
      · obtain ⟨e1, _⟩ := hok b _ z
        obtain ⟨e2, _⟩ := hok' b _ (un.frzs b ob _ z)
        rw [e] at e1
        cases e1
        exact e2
theorem walkG {l : PySem.W.OpenLaw} {n k : Nat} {q : Program} {loose : List Str} {XP : (Str → Option Value) → Heap → Prop} {YP : World → Heap → Prop} {d : DefRec} {K : Params → PySem.W.Frag} {sp : World → Sp} {x : Str}
    (hn : l.most = some n) (small : n ≤ sizeLine) (hdf : d.params.defaults = []) (hr : RoomG k callerA) (hY : ∀ (w : World) (h : Heap), YP w h → (K w.params).In h)
    (F : ∀ (w : World) (mg : Str → Option Value) (fa : Addr) (h : Heap), (K w.params).In h → h.Ns mainGlobals mg → mg d.name = some (.ref fa) →
      ∃ fd : FuncData, (∀ (s : Shared) (u : Value), BindsTo s fd ⟨[u], []⟩ [(x, u)]) ∧ ∀ base : Heap, (K w.params).In base → base.Ns mainGlobals mg → FnG l.prog w (K w.params) mg base k fa fd [x] (sp w))
    (holds : ∀ (w : World) (H : Hp) (a : Addr) (ns : List Int), ns.length ≤ n → (∀ z ∈ ns, Builtin.Int.intBits z ≤ 1048576) → Only H → SqL (K w.params) H a (ns.map V.int) → sp w [.ref a] H (fun v _ => v = .bl true) E0) :
    PySem.W.WalkO q loose XP YP l.row.toRowW d [] (fun f vs => PySem.call f vs) := by
  apply Att.attach_callB hn hdf
  intro w s₀ s₁ mg mb fa o pm cd doc a vs ns ground Y ho hd hcd hmg hobj hints hlen hbits nogen
  have inK := hY w _ Y
  obtain ⟨fd, bind, fn⟩ := F w mg fa _ inK ground.T.g hmg
  exact law_callG inK ground.T.g ground.T.b ground.T.builtins ground.T.nolimit nogen hobj hints (Nat.le_trans hlen small) hr fn bind fun H only seq => holds w H a ns hlen hbits only seq
end Ix

namespace Ix
open PySem L2
/-! ### built-ins, methods, calls -/
section
variable {X : Cx} {Γ : Fs} {a b c e : Expr} {es rest : List Expr} {ca cb cc ce cs : E} {pos : Pos}
theorem w_args {c2 : E} {f : List D → Hd → Option (D × Hd)} {σ : L2.St} {H : Hp} {Q : VK} (hev : ∀ env S, ev Γ c2 env S = (ev Γ cs env S).bind fun x => (argsOf x.1).bind fun ds => f ds x.2) (h : tr X.K Γ c2 σ H Q) : tCB (rA X.K f) (trA X.K Γ cs) σ H Q := by
  obtain ⟨α, env, S, d, S', ok, en, e, k⟩ := h
  rw [hev] at e
  simp only [Option.bind_eq_some_iff] at e
  obtain ⟨⟨d1, S1⟩, e1, ds, e2, e3⟩ := e
  cases argsOf_some e2
  exact ⟨α, env, S, ds, S1, ok, en, e1, fun α1 H1 vs x1 ok1 r1 => ⟨α1, S1, ds, d, S', ok1, r1, e3, fun α2 H2 v x2 ok2 r2 => k α2 H2 v (x1.trans x2) ok2 r2⟩⟩
theorem Rps.one' {K : PySem.W.Frag} {α : List Addr} {H : Hp} {x : D} {vs : List V} (h : Rps K α H [x] vs) : ∃ v, vs = [v] ∧ Rp K α H x v := by
  obtain ⟨w, ws, rfl, r, t⟩ := h.uncons
  exact ⟨w, by rw [t.unnil], r⟩
theorem Rps.two' {K : PySem.W.Frag} {α : List Addr} {H : Hp} {x y : D} {vs : List V} (h : Rps K α H [x, y] vs) : ∃ v u, vs = [v, u] ∧ Rp K α H x v ∧ Rp K α H y u := by
  obtain ⟨w, ws, rfl, r, t⟩ := h.uncons
  obtain ⟨u, rfl, q⟩ := t.one'
  exact ⟨w, u, rfl, r, q⟩
theorem bools_of {K : PySem.W.Frag} {α : List Addr} {H : Hp} : ∀ {xs : List D} {bs : List Bool} {vs : List V}, bools xs = some bs → Rps K α H xs vs → vs = bs.map V.bl
  | [], bs, vs, h, r => by
    simp only [bools, Option.some.injEq] at h
    subst h
    exact r.unnil
  | x :: xs, bs, vs, h, r => by
    cases x with
    | bl b =>
      simp only [bools, Option.map_eq_some_iff] at h
      obtain ⟨cs, h, rfl⟩ := h
      obtain ⟨w, ws, rfl, r1, r2⟩ := r.uncons
      cases r1
      rw [bools_of h r2]
      rfl
    | _ => simp [bools] at h
theorem len1 {α : Type} {f : Bl} {xs : List D} {S : Hd} {r : D × Hd} (h : bltD f xs S = some r) : True := trivial
theorem b_len : CallR X (.builtin "len") (rA X.K (bltD .len)) := by
  intro pins s σ H xs us Q I r ⟨α, S, ds, d, S', ok, rs, e, k⟩
  match ds, e with
  | [x], e =>
    simp only [bltD, Option.map_eq_some_iff, Prod.mk.injEq] at e
    obtain ⟨ys, h1, rfl, rfl⟩ := e
    obtain ⟨v, rfl, r1⟩ := rs.one'
    obtain ⟨a, vs, rfl, q, z⟩ := seq_of ok r1 h1
    exact call_len_seq pins s σ H _ us Q I r ⟨a, vs, rfl, z.elim (fun z => .inr z.2) fun z => .inl z.2, by rw [q.len]; exact k α H _ Xt.refl ok (.int _)⟩
  | [], e => simp [bltD] at e
  | _ :: _ :: _, e => simp [bltD] at e
theorem b_int : CallR X (.type "int") (rA X.K (bltD .int_)) := by
  intro pins s σ H xs us Q I r ⟨α, S, ds, d, S', ok, rs, e, k⟩
  match ds, e with
  | [x], e =>
    obtain ⟨v, rfl, r1⟩ := rs.one'
    cases x with
    | int i =>
      simp only [bltD, Option.some.injEq, Prod.mk.injEq] at e
      obtain ⟨rfl, rfl⟩ := e
      cases r1
      exact call_int1 pins s σ H _ us Q I r (.inl ⟨i, rfl, k α H _ Xt.refl ok (.int _)⟩)
    | bl i =>
      simp only [bltD, Option.some.injEq, Prod.mk.injEq] at e
      obtain ⟨rfl, rfl⟩ := e
      cases r1
      exact call_int1 pins s σ H _ us Q I r (.inr ⟨i, rfl, k α H _ Xt.refl ok (.int _)⟩)
    | _ => simp [bltD] at e
  | [], e => simp [bltD] at e
  | x :: _ :: _, e => cases x <;> simp [bltD] at e
theorem b_abs : CallR X (.builtin "abs") (rA X.K (bltD .abs_)) := by
  intro pins s σ H xs us Q I r ⟨α, S, ds, d, S', ok, rs, e, k⟩
  match ds, e with
  | [x], e =>
    obtain ⟨v, rfl, r1⟩ := rs.one'
    cases x with
    | int i =>
      simp only [bltD, Option.some.injEq, Prod.mk.injEq] at e
      obtain ⟨rfl, rfl⟩ := e
      cases r1
      exact call_abs pins s σ H _ us Q I r ⟨i, rfl, k α H _ Xt.refl ok (.int _)⟩
    | _ => simp [bltD] at e
  | [], e => simp [bltD] at e
  | x :: _ :: _, e => cases x <;> simp [bltD] at e
theorem ints_of {K : PySem.W.Frag} {α : List Addr} {H : Hp} : ∀ {xs : List D} {ns : List Int} {vs : List V}, intsD xs = some ns → Rps K α H xs vs → vs = ns.map V.int
  | [], ns, vs, h, r => by
    simp only [intsD, Option.some.injEq] at h
    subst h
    exact r.unnil
  | x :: xs, ns, vs, h, r => by
    cases x with
    | int b =>
      simp only [intsD, Option.map_eq_some_iff] at h
      obtain ⟨cs, h, rfl⟩ := h
      obtain ⟨w, ws, rfl, r1, r2⟩ := r.uncons
      cases r1
      rw [ints_of h r2]
      rfl
    | _ => simp [intsD] at h
theorem intsAt_of {K : PySem.W.Frag} {α : List Addr} {S : Hd} {H : Hp} {d : D} {v : V} {ns : List Int} (ok : Ok K α S H) (r : Rp K α H d v) (h : intsAt S d = some ns) : ∃ a, v = .ref a ∧ SqL K H a (ns.map V.int) := by
  unfold intsAt at h
  split at h
  · cases h
  · rename_i nt
    simp only [Option.bind_eq_some_iff] at h
    obtain ⟨xs, h1, h2⟩ := h
    obtain ⟨a, vs, rfl, q, z⟩ := seq_of ok r h1
    rcases z with ⟨z, _⟩ | ⟨_, z⟩
    · exact absurd z nt
    · rw [ints_of h2 q] at z
      exact ⟨a, rfl, z⟩
theorem fold_max : ∀ (is : List Int) (i m : Int), (m = i ∨ m ∈ is) → i ≤ m → (∀ y ∈ is, y ≤ m) → is.foldl (fun a b => if b > a then b else a) i = m
  | [], i, m, h, _, _ => by
    rcases h with h | h
    · exact h.symm
    · simp at h
  | j :: is, i, m, h, hi, hm => by
    have hj := hm j List.mem_cons_self
    refine fold_max is _ m ?_ ?_ fun y hy => hm y (List.mem_cons_of_mem _ hy)
    · rcases h with h | h
      · subst h
        left
        show m = if j > m then j else m
        rw [if_neg (by omega)]
      · rcases List.mem_cons.mp h with h | h
        · subst h
          left
          show m = if m > i then m else i
          split <;> omega
        · exact .inr h
    · show (if j > i then j else i) ≤ m
      split <;> omega
theorem maxL_is {ns : List Int} {m m' : Int} (h : maxL ns = some m) (h1 : m' ∈ ns) (h2 : ∀ y ∈ ns, y ≤ m') : m = m' := by
  cases ns with
  | nil => cases h
  | cons i is =>
    simp only [maxL, Option.some.injEq] at h
    rw [← h]
    exact fold_max is i m' (List.mem_cons.mp h1) (h2 i List.mem_cons_self) fun y hy => h2 y (List.mem_cons_of_mem _ hy)
theorem insI_perm (i : Int) : ∀ js : List Int, (insI i js).Perm (i :: js)
  | [] => .refl _
  | j :: js => by
    unfold insI
    split
    · exact .refl _
    · exact ((insI_perm i js).cons j).trans (.swap i j js)
theorem srtI_perm : ∀ is : List Int, (srtI is).Perm is
  | [] => .refl _
  | i :: is => (insI_perm i _).trans ((srtI_perm is).cons i)
theorem insI_le (i : Int) : ∀ {js : List Int}, js.Pairwise (· ≤ ·) → (insI i js).Pairwise (· ≤ ·)
  | [], _ => by simp [insI]
  | j :: js, h => by
    unfold insI
    have h' := List.pairwise_cons.mp h
    split
    · refine List.pairwise_cons.mpr ⟨fun y hy => ?_, h⟩
      rcases List.mem_cons.mp hy with e | hy
      · omega
      · have := h'.1 y hy
        omega
    · refine List.pairwise_cons.mpr ⟨fun y hy => ?_, insI_le i h'.2⟩
      rcases List.mem_cons.mp ((insI_perm i js).mem_iff.mp hy) with e | hy
      · omega
      · exact h'.1 y hy
theorem srtI_le : ∀ is : List Int, (srtI is).Pairwise (· ≤ ·)
  | [] => .nil
  | i :: is => insI_le i (srtI_le is)
theorem srt_one {A B : List Int} (p : A.Perm B) (ha : A.Pairwise (· ≤ ·)) (hb : B.Pairwise (· ≤ ·)) : A = B :=
  p.eq_of_pairwise (fun a b _ _ h1 h2 => by omega) ha hb
theorem b_sum (hc : X.calm = true) : CallR X (.builtin "sum") (rA X.K (bltD .sum_)) := by
  intro pins s σ H xs us Q I r ⟨α, S, ds, d, S', ok, rs, e, k⟩
  match ds, e with
  | [x], e =>
    simp only [bltD, Option.map_eq_some_iff, Prod.mk.injEq] at e
    obtain ⟨ns, h1, rfl, rfl⟩ := e
    obtain ⟨v, rfl, r1⟩ := rs.one'
    obtain ⟨a, rfl, z⟩ := intsAt_of ok r1 h1
    exact cr_sum hc pins s σ H _ us Q I r ⟨a, ns, rfl, z, k α H _ Xt.refl ok (.int _)⟩
  | [], e => simp [bltD] at e
  | _ :: _ :: _, e => simp [bltD] at e
theorem b_sorted : CallR X (.builtin "sorted") (rA X.K (bltD .sorted_)) := by
  intro pins s σ H xs us Q I r ⟨α, S, ds, d, S', ok, rs, e, k⟩
  match ds, e with
  | [x], e =>
    simp only [bltD, Option.map_eq_some_iff, alloc, Prod.mk.injEq] at e
    obtain ⟨ns, h1, rfl, rfl⟩ := e
    obtain ⟨v, rfl, r1⟩ := rs.one'
    obtain ⟨a, rfl, z⟩ := intsAt_of ok r1 h1
    refine cr_sortedI pins s σ H _ us Q I r ⟨a, ns, rfl, z, fun ns' p pm le hp => ?_⟩
    have e2 : ns' = srtI ns := srt_one (pm.trans (srtI_perm ns).symm) le (srtI_le ns)
    subst e2
    refine go_new ok hp ⟨by simp, fun i x v h1 h2 => ?_⟩ k
    rw [List.getElem?_map] at h1 h2
    cases hx : (srtI ns)[i]? with
    | none => rw [hx] at h1; cases h1
    | some m =>
      rw [hx] at h1 h2
      cases h1
      cases h2
      exact .int m
  | [], e => simp [bltD] at e
  | _ :: _ :: _, e => simp [bltD] at e
theorem b_max (hc : X.calm = true) : CallR X (.builtin "max") (rA X.K (bltD .max_)) := by
  intro pins s σ H xs us Q I r ⟨α, S, ds, d, S', ok, rs, e, k⟩
  match ds, e with
  | [x], e =>
    simp only [bltD, Option.map_eq_some_iff, Option.bind_eq_some_iff, Prod.mk.injEq] at e
    obtain ⟨m, ⟨ns, h1, h2⟩, rfl, rfl⟩ := e
    obtain ⟨v, rfl, r1⟩ := rs.one'
    obtain ⟨a, rfl, z⟩ := intsAt_of ok r1 h1
    refine cr_max hc pins s σ H _ us Q I r ⟨a, ns, rfl, z, ?_, fun m' q1 q2 => ?_⟩
    · cases ns with
      | nil => cases h2
      | cons i is => exact Nat.succ_pos _
    · rw [← maxL_is h2 q1 q2]
      exact k α H _ Xt.refl ok (.int _)
  | [x, y], e =>
    obtain ⟨v, u, rfl, r1, r2⟩ := rs.two'
    cases x with
    | int i =>
      cases y with
      | int j =>
        simp only [bltD, Option.some.injEq, Prod.mk.injEq] at e
        obtain ⟨rfl, rfl⟩ := e
        cases r1
        cases r2
        exact call_max2 hc pins s σ H _ us Q I r ⟨i, j, rfl, k α H _ Xt.refl ok (.int _)⟩
      | _ => simp [bltD] at e
    | _ => cases y <;> simp [bltD] at e
  | [], e => simp [bltD] at e
  | x :: y :: _ :: _, e => cases x <;> cases y <;> simp [bltD] at e
theorem b_min (hc : X.calm = true) : CallR X (.builtin "min") (rA X.K (bltD .min_)) := by
  intro pins s σ H xs us Q I r ⟨α, S, ds, d, S', ok, rs, e, k⟩
  match ds, e with
  | [x, y], e =>
    obtain ⟨v, u, rfl, r1, r2⟩ := rs.two'
    cases x with
    | int i =>
      cases y with
      | int j =>
        simp only [bltD, Option.some.injEq, Prod.mk.injEq] at e
        obtain ⟨rfl, rfl⟩ := e
        cases r1
        cases r2
        exact call_min2 hc pins s σ H _ us Q I r ⟨i, j, rfl, k α H _ Xt.refl ok (.int _)⟩
      | _ => simp [bltD] at e
    | _ => cases y <;> simp [bltD] at e
  | [], e => simp [bltD] at e
  | [x], e => cases x <;> simp [bltD] at e
  | x :: y :: _ :: _, e => cases x <;> cases y <;> simp [bltD] at e
theorem b_all (hc : X.calm = true) : CallR X (.builtin "all") (rA X.K (bltD .all_)) := by
  intro pins s σ H xs us Q I r ⟨α, S, ds, d, S', ok, rs, e, k⟩
  match ds, e with
  | [x], e =>
    simp only [bltD] at e
    split at e
    · cases e
    · rename_i nt
      simp only [Option.map_eq_some_iff, Option.bind_eq_some_iff, Prod.mk.injEq] at e
      obtain ⟨bs, ⟨ys, h1, h2⟩, rfl, rfl⟩ := e
      obtain ⟨v, rfl, r1⟩ := rs.one'
      obtain ⟨a, vs, rfl, q, z⟩ := seq_of ok r1 h1
      rcases z with ⟨z, _⟩ | ⟨_, z⟩
      · exact absurd z nt
      · rw [bools_of h2 q] at z
        exact cr_all hc pins s σ H _ us Q I r ⟨a, bs, rfl, z, k α H _ Xt.refl ok (.bl _)⟩
  | [], e => simp [bltD] at e
  | _ :: _ :: _, e => simp [bltD] at e
theorem b_any (hc : X.calm = true) : CallR X (.builtin "any") (rA X.K (bltD .any_)) := by
  intro pins s σ H xs us Q I r ⟨α, S, ds, d, S', ok, rs, e, k⟩
  match ds, e with
  | [x], e =>
    simp only [bltD] at e
    split at e
    · cases e
    · rename_i nt
      simp only [Option.map_eq_some_iff, Option.bind_eq_some_iff, Prod.mk.injEq] at e
      obtain ⟨bs, ⟨ys, h1, h2⟩, rfl, rfl⟩ := e
      obtain ⟨v, rfl, r1⟩ := rs.one'
      obtain ⟨a, vs, rfl, q, z⟩ := seq_of ok r1 h1
      rcases z with ⟨z, _⟩ | ⟨_, z⟩
      · exact absurd z nt
      · rw [bools_of h2 q] at z
        exact cr_any hc pins s σ H _ us Q I r ⟨a, bs, rfl, z, k α H _ Xt.refl ok (.bl _)⟩
  | [], e => simp [bltD] at e
  | _ :: _ :: _, e => simp [bltD] at e
theorem b_tuple : CallR X (.type "tuple") (rA X.K (bltD .tuple_)) := by
  intro pins s σ H xs us Q I r ⟨α, S, ds, d, S', ok, rs, e, k⟩
  match ds, e with
  | [x], e =>
    simp only [bltD, Option.map_eq_some_iff, Prod.mk.injEq] at e
    obtain ⟨ys, h1, rfl, rfl⟩ := e
    obtain ⟨v, rfl, r1⟩ := rs.one'
    obtain ⟨a, vs, rfl, q, z⟩ := seq_of ok r1 h1
    rcases z with ⟨_, z⟩ | ⟨_, z⟩
    · exact call_tuple_of pins s σ H _ us Q I r ⟨a, vs, rfl, .inr ⟨z, k α H _ Xt.refl ok (.tup z q.len q.at_)⟩⟩
    · exact call_tuple_of pins s σ H _ us Q I r ⟨a, vs, rfl, .inl ⟨z, fun p hp => go_tup ok hp q k⟩⟩
  | [], e => simp [bltD] at e
  | _ :: _ :: _, e => simp [bltD] at e
theorem b_list : CallR X (.type "list") (rA X.K (bltD .list_)) := by
  intro pins s σ H xs us Q I r ⟨α, S, ds, d, S', ok, rs, e, k⟩
  match ds, e with
  | [x], e =>
    simp only [bltD, Option.map_eq_some_iff, alloc, Prod.mk.injEq] at e
    obtain ⟨ys, h1, rfl, rfl⟩ := e
    obtain ⟨v, rfl, r1⟩ := rs.one'
    obtain ⟨a, vs, rfl, q, z⟩ := seq_of ok r1 h1
    exact call_list_of pins s σ H _ us Q I r ⟨a, vs, rfl, z.elim (fun z => .inr z.2) fun z => .inl z.2, fun p hp => go_new ok hp q k⟩
  | [], e => simp [bltD] at e
  | _ :: _ :: _, e => simp [bltD] at e
theorem b_str : CallR X (.type "str") (rA X.K (bltD .str_)) := by
  intro pins s σ H xs us Q I r ⟨α, S, ds, d, S', ok, rs, e, k⟩
  match ds, e with
  | [x], e =>
    obtain ⟨v, rfl, r1⟩ := rs.one'
    cases x with
    | str z =>
      simp only [bltD, Option.some.injEq, Prod.mk.injEq] at e
      obtain ⟨rfl, rfl⟩ := e
      cases r1
      exact SkE.call_str_str pins s σ H _ us Q I r ⟨z, rfl, k α H _ Xt.refl ok (.str _)⟩
    | int i =>
      simp only [bltD] at e
      split at e
      · simp only [Option.some.injEq, Prod.mk.injEq] at e
        obtain ⟨rfl, rfl⟩ := e
        cases r1
        exact call_str_int pins s σ H _ us Q I r ⟨i, rfl, by assumption, k α H _ Xt.refl ok (.str _)⟩
      · cases e
    | _ => simp [bltD] at e
  | [], e => simp [bltD] at e
  | x :: _ :: _, e => cases x <;> simp [bltD] at e
/-! isinstance -/
theorem tyX_of {K : PySem.W.Frag} {α : List Addr} {H : Hp} {S : Hd} {x : D} {v : V} {n : String} (ok : Ok K α S H) (r : Rp K α H x v) (h : tyName S x = some n) : TyX K H v (.type n) := by
  cases r with
  | non => simp only [tyName, Option.some.injEq] at h; subst h; exact .base .non
  | bl b => simp only [tyName, Option.some.injEq] at h; subst h; exact .base (.bl b)
  | int i => simp only [tyName, Option.some.injEq] at h; subst h; exact .base (.int i)
  | str z => simp only [tyName, Option.some.injEq] at h; subst h; exact .base (.str z)
  | ty z => simp [tyName] at h
  | tup h1 l q =>
    simp only [tyName, Option.some.injEq] at h
    subst h
    rcases h1 with (h1 | ⟨o, h1⟩) | ⟨o, its, m, h1, h2, _⟩
    · exact .base (.tup h1)
    · exact .fTuple h1
    · exact .kTuple h1 h2
  | @ref k a e =>
    simp only [tyName] at h
    split at h
    · rename_i ys e2
      simp only [Option.some.injEq] at h
      subst h
      obtain ⟨a', vs, e3, e4, e5, e6⟩ := ok.lst e2 (.ref e)
      cases e3
      exact .base (.lst e5)
    · cases h
  | ro h1 =>
    simp only [tyName, Option.some.injEq] at h
    subst h
    rcases h1 with ⟨o, h1⟩ | ⟨o, its, m, h1, h2, _⟩
    · exact .base (.frz h1)
    · exact .kList h1 h2
def names7 : List String := ["NoneType", "bool", "int", "str", "tuple", "list"]
theorem tyName_in {S : Hd} {x : D} {n : String} (h : tyName S x = some n) : n ∈ names7 := by
  unfold tyName at h
  split at h <;> first
    | (simp only [Option.some.injEq] at h; subst h; decide)
    | (split at h <;> first | (simp only [Option.some.injEq] at h; subst h; decide) | cases h)
    | cases h
theorem kit_all : (names7.all fun n => ["int", "bool", "str", "tuple", "list"].all fun c => decide (kitB n c = some (isaN n c))) = true := by decide +kernel
theorem kit_of' {K : PySem.W.Frag} {n c : String} (hn : n ∈ names7) (hc : plainTy c = true) : PySem.W.kitOne K (.type n) (.type c) = some (isaN n c) := by
  have h := kit_all
  rw [List.all_eq_true] at h
  have h2 := h n hn
  rw [List.all_eq_true] at h2
  exact kit_ty (of_decide_eq_true (h2 c (by unfold plainTy at hc; simpa using hc)))
theorem tys_of {K : PySem.W.Frag} {α : List Addr} {H : Hp} : ∀ {xs : List D} {ts : List String} {vs : List V}, tysOf xs = some ts → Rps K α H xs vs → Paired ClsV vs (ts.map Value.type) ∧ ∀ t ∈ ts, plainTy t = true
  | [], ts, vs, h, r => by
    simp only [tysOf, Option.some.injEq] at h
    subst h
    rw [r.unnil]
    exact ⟨.nil, fun t ht => by cases ht⟩
  | x :: xs, ts, vs, h, r => by
    cases x with
    | ty c =>
      simp only [tysOf] at h
      split at h
      · rename_i hp
        simp only [Option.map_eq_some_iff] at h
        obtain ⟨cs, h, rfl⟩ := h
        obtain ⟨w, ws, rfl, r1, r2⟩ := r.uncons
        cases r1
        obtain ⟨p1, p2⟩ := tys_of h r2
        refine ⟨.cons (.ty c) p1, fun t ht => ?_⟩
        rcases List.mem_cons.mp ht with rfl | ht
        · exact hp
        · exact p2 t ht
      · cases h
    | _ => simp [tysOf] at h
theorem kit_any {K : PySem.W.Frag} {n : String} (hn : n ∈ names7) : ∀ {ts : List String}, (∀ t ∈ ts, plainTy t = true) → PySem.W.kitAny K (.type n) (ts.map Value.type) = some (ts.any (isaN n))
  | [], _ => kitAny_nil
  | t :: ts, h => by
    refine kitAny_cons (kit_of' hn (h t List.mem_cons_self)) (fun hb => ?_) fun hb => ?_
    · rw [List.any_cons, hb, Bool.false_or]
      exact kit_any hn fun u hu => h u (List.mem_cons_of_mem _ hu)
    · rw [List.any_cons, hb, Bool.true_or]
theorem b_isi : CallR X (.builtin "isinstance") (rA X.K (bltD .isi)) := by
  intro pins s σ H xs us Q I r ⟨α, S, ds, d, S', ok, rs, e, k⟩
  match ds, e with
  | [x, y], e =>
    obtain ⟨v, u, rfl, r1, r2⟩ := rs.two'
    cases y with
    | ty c =>
      simp only [bltD] at e
      split at e
      · rename_i hp
        simp only [Option.map_eq_some_iff, Prod.mk.injEq] at e
        obtain ⟨n, h1, rfl, rfl⟩ := e
        cases r2
        exact call_isi pins s σ H _ us Q I r ⟨v, .ty c, .type n, .type c, isaN n c, rfl, .ty c, tyX_of ok r1 h1, kit_of' (tyName_in h1) hp, k α H _ Xt.refl ok (.bl _)⟩
      · cases e
    | tup cs =>
      simp only [bltD, Option.bind_eq_some_iff, Option.map_eq_some_iff, Prod.mk.injEq] at e
      obtain ⟨ts, h2, n, h1, rfl, rfl⟩ := e
      cases r2 with
      | @tup _ tp vs h3 l q =>
        obtain ⟨p1, p2⟩ := tys_of h2 ⟨l, q⟩
        obtain ⟨u1, u2, rfl, q1, q2⟩ := vals2 r
        cases (show u2 = Value.ref tp from q2)
        obtain ⟨P, Z, p, hx⟩ := kit_of I q1 (tyX_of ok r1 h1)
        obtain ⟨its, rv, ⟨o, g1, g2, m, g3⟩, _⟩ := I.tuple h3
        have e3 := ClsV.all p1 rv
        subst e3
        obtain ⟨oc, od, dt, sl⟩ := o
        simp only at g2 g3
        subst g2 g3
        exact PySem.W.kia_tup Z I.kIn p g1 (kit_any (tyName_in h1) p2) hx fun tk => ⟨.bl _, H, I.tok tk, rfl, k α H _ Xt.refl ok (.bl _)⟩
    | _ => simp [bltD] at e
  | [], e => simp [bltD] at e
  | [_], e => simp [bltD] at e
  | _ :: _ :: _ :: _, e => simp [bltD] at e
/-- f(e, ..) of a built-in function, of a built-in class -/
theorem xe_blt {id : String} {x : Str} {p : Pos} (B : Bl) (hc : CallR X (.builtin id) (rA X.K (bltD B))) (hg : Gl X x) (hm : X.mg x = none) (hv : bootBuiltins x = some (.builtin id)) (ha : PA X (e :: es) (trA X.K Γ cs)) (hn : x ≠ "__name__" := by decide) (hdb : (x == ("__debug__" : Str)) = false := by decide)
    (he : starEach (e :: es) X.env = (false, eval e X.env) :: starEach es X.env := by rfl) (hpl : (backTo pos (starEach es X.env)).any (·.1) = false := by rfl) : PE X (.Call (.Name x p) (e :: es) [] pos) (tr X.K Γ (.blt B cs)) :=
  pe_w (pe_callB hc hg hm hv ha hn hdb he hpl) fun σ H Q h => w_args (fun _ _ => rfl) h
theorem xe_bty {T : String} {x : Str} {p : Pos} (B : Bl) (hc : CallR X (.type T) (rA X.K (bltD B))) (hg : Gl X x) (hm : X.mg x = none) (hv : bootBuiltins x = some (.type T)) (ha : PA X (e :: es) (trA X.K Γ cs)) (hn : x ≠ "__name__" := by decide) (hdb : (x == ("__debug__" : Str)) = false := by decide)
    (he : starEach (e :: es) X.env = (false, eval e X.env) :: starEach es X.env := by rfl) (hpl : (backTo pos (starEach es X.env)).any (·.1) = false := by rfl) : PE X (.Call (.Name x p) (e :: es) [] pos) (tr X.K Γ (.blt B cs)) :=
  pe_w (pe_callTy hc hg hm hv ha hn hdb he hpl) fun σ H Q h => w_args (fun _ _ => rfl) h
/-- xs.append(e) -/
theorem m_append : MtR X "list.append" (rM X.K (methD .append)) := by
  intro pins s σ H x xs v us Q I rx r ⟨α, S, d1, ds, d, S', ok, r1, rs, e, k⟩
  cases d1 with
  | ref j =>
    match ds, e with
    | [y], e =>
      simp only [methD] at e
      split at e
      · rename_i ys e1
        split at e
        · rename_i hz
          simp only [Option.some.injEq, Prod.mk.injEq] at e
          obtain ⟨rfl, rfl⟩ := e
          obtain ⟨u, rfl, r2⟩ := rs.one'
          obtain ⟨a, vs, rfl, e3, e4, q⟩ := ok.lst e1 r1
          exact mt_append pins s σ H _ _ v us Q I rx r ⟨a, vs, u, rfl, rfl, e4, most_lt (by rw [q.len]; exact hz), k α _ _ (Xt.write e4) (ok.write e3 e4 (o := .lst (ys ++ [y])) (u := .lst (vs ++ [u])) (Rps.append q (Rps.one r2))) .non⟩
        · cases e
      · cases e
    | [], e => simp [methD] at e
    | _ :: _ :: _, e => simp [methD] at e
  | _ => simp [methD] at e
theorem m_clear : MtR X "list.clear" (rM X.K (methD .clear)) := by
  intro pins s σ H x xs v us Q I rx r ⟨α, S, d1, ds, d, S', ok, r1, rs, e, k⟩
  cases d1 with
  | ref j =>
    match ds, e with
    | [], e =>
      simp only [methD] at e
      split at e
      · rename_i ys e1
        simp only [Option.some.injEq, Prod.mk.injEq] at e
        obtain ⟨rfl, rfl⟩ := e
        obtain rfl := rs.unnil
        obtain ⟨a, vs, rfl, e3, e4, q⟩ := ok.lst e1 r1
        exact mt_clear pins s σ H _ _ v us Q I rx r ⟨a, vs, rfl, rfl, e4, k α _ _ (Xt.write e4) (ok.write e3 e4 (o := .lst []) (u := .lst []) Rps.nil) .non⟩
      · cases e
    | [y], e => simp [methD] at e
    | _ :: _ :: _, e => simp [methD] at e
  | _ => simp [methD] at e
theorem lst_ty {K : PySem.W.Frag} {α : List Addr} {H : Hp} {S : Hd} {d : D} {v : V} (ok : Ok K α S H) (r1 : Rp K α H d v) (h : isLst S d = true) : tyV K "list" v H := by
  unfold isLst at h
  split at h
  · split at h
    · rename_i k xs e
      obtain ⟨a, vs, rfl, _, e4, _⟩ := ok.lst e r1
      exact .inl ⟨rfl, vs, SqL.of e4⟩
    · cases h
  · cases h
theorem xe_append {apos cpos : Pos} {o : Expr} {co : E} (ho : PE X o (tr X.K Γ co)) (ha : PA X (e :: es) (trA X.K Γ cs))
    (hbase : attributeBase o "append" X.env (eval o X.env) = eval o X.env := by rfl)
    (hfew : ((backTo cpos (starEach (e :: es) X.env)).all (fun x => !x.1) && (backToKw cpos (keywordEach [] X.env)).all (fun x => x.1.isSome)
      && decide ((e :: es).length + ([] : List Keyword).length + (if ([] : List Keyword).isEmpty then 0 else 1) < 30)) = true := by rfl)
    (hline : (apos.endLine == cpos.line) = true := by rfl) (hs : starEach (e :: es) X.env = (false, eval e X.env) :: starEach es X.env := by rfl) (hplain : (backTo cpos (starEach es X.env)).any (·.1) = false := by rfl) :
    PE X (.Call (.Attribute o "append" apos) (e :: es) [] cpos) (tr X.K Γ (.meth .append co cs)) :=
  pe_w (pe_bm PySem.F.plainAttrs_list PySem.F.slot_list_append PySem.F.type_list_append m_append ho ha hbase hfew hline hs hplain) fun σ H Q ⟨α, env, S, d, S', ok, en, e, k⟩ => by
    simp only [ev, Option.bind_eq_some_iff] at e
    obtain ⟨⟨d1, S1⟩, e1, e2⟩ := e
    split at e2
    · rename_i hl
      simp only [Option.bind_eq_some_iff] at e2
      obtain ⟨⟨d2, S2⟩, e2, ds, e3, e4⟩ := e2
      cases argsOf_some e3
      exact ⟨α, env, S, d1, S1, ok, en, e1, fun α1 H1 v1 x1 ok1 r1 => ⟨lst_ty ok1 r1 hl, α1, env, S1, ds, S2, ok1, en.mono x1, e2, fun α2 H2 vs x2 ok2 r2 =>
        ⟨α2, S2, d1, ds, d, S', ok2, r1.mono x2, r2, e4, fun α3 H3 v x3 ok3 r3 => k α3 H3 v (x1.trans (x2.trans x3)) ok3 r3⟩⟩⟩
    · cases e2
end

/-! ### the defs -/
section
/-- what a def of the text promises: as the meaning says -/
def spF (K : PySem.W.Frag) (Γ : Fs) (f : Nat) : Sp := fun vs H Q _ => ∃ α S ds d S', Ok K α S H ∧ Rps K α H ds vs ∧ Γ f ds S = some (d, S') ∧ ∀ α' H' v, Xt K α H α' H' → Ok K α' S' H' → Rp K α' H' d v → Q v H'
/-- the def f, called x in the text, keeps its promise -/
structure FnI (P : Program) (w : World) (K : PySem.W.Frag) (mg : Str → Option Value) (base : Heap) (Γ : Fs) (n f : Nat) (x : Str) (ps : List Str) (st : Stmt) : Prop where
  ex : ∃ (fa : Addr) (fd : FuncData), mg x = some (.ref fa) ∧ Fun K x x st fa fd ∧ FnG P w K mg base n fa fd ps (spF K Γ f) ∧ Binds K fd ps []
variable {X : Cx} {Γ : Fs} {e : Expr} {es : List Expr} {cs ck : E} {pos p : Pos} {n f : Nat} {x : Str} {ps : List Str} {st : Stmt}
theorem xe_call (F : FnI X.prog X.w X.K X.mg X.base Γ n f x ps st) (hr : RoomG n X.A) (hg : Gl X x) (ha : PA X (e :: es) (trA X.K Γ cs))
    (hdb : (x == ("__debug__" : Str)) = false := by decide) (he : starEach (e :: es) X.env = (false, eval e X.env) :: starEach es X.env := by rfl) (hpl : (backTo pos (starEach es X.env)).any (·.1) = false := by rfl) :
    PE X (.Call (.Name x p) (e :: es) [] pos) (tr X.K Γ (.call f cs)) := by
  obtain ⟨fa, fd, h1, h2, h3, hb⟩ := F.ex
  refine pe_w (pe_callG (E := E0) h3 hr hg h1 h2.kp hb pass0 ha hdb he hpl) fun σ H Q ⟨α, env, S, d, S', ok, en, e, k⟩ => ?_
  simp only [ev, Option.bind_eq_some_iff] at e
  obtain ⟨⟨d1, S1⟩, e1, ds, e2, e3⟩ := e
  cases argsOf_some e2
  refine ⟨α, env, S, ds, S1, ok, en, e1, fun α1 H1 vs x1 ok1 r1 => ?_⟩
  show spF X.K Γ f (vs ++ []) H1 Q E0
  rw [List.append_nil]
  exact ⟨α1, S1, ds, d, S', ok1, r1, e3, fun α2 H2 v x2 ok2 r2 => k α2 H2 v (x1.trans x2) ok2 r2⟩
def narg : E → Option Nat
  | .nil => some 0
  | .cons _ es => (narg es).map (· + 1)
  | _ => none
theorem narg_len : ∀ {cs : E} {m : Nat} {env : Sl} {S : Hd} {ds : List D} {S' : Hd}, narg cs = some m → ev Γ cs env S = some (.tup ds, S') → ds.length = m
  | .nil, m, env, S, ds, S', h, e => by
    simp only [narg, Option.some.injEq] at h
    simp only [ev, Option.some.injEq, Prod.mk.injEq, D.tup.injEq] at e
    rw [← e.1, ← h]
    rfl
  | .cons a es, m, env, S, ds, S', h, e => by
    simp only [narg, Option.map_eq_some_iff] at h
    obtain ⟨m1, h, rfl⟩ := h
    simp only [ev, Option.bind_eq_some_iff, Option.map_eq_some_iff, Prod.mk.injEq, D.tup.injEq] at e
    obtain ⟨⟨d1, S1⟩, e1, ⟨d2, S2⟩, e2, dr, e3, rfl, rfl⟩ := e
    cases argsOf_some e3
    rw [List.length_cons, narg_len h e2]
theorem rel_get {vs : List V} {us : List Value} (r : Vals vs us) (i : Nat) : (∃ v u, vs[i]? = some v ∧ us[i]? = some u ∧ RelV v u) ∨ (vs[i]? = none ∧ us[i]? = none) := by
  cases h : vs[i]? with
  | none => exact .inr ⟨rfl, r.none_of h⟩
  | some v =>
    obtain ⟨u, h1, h2⟩ := r.get h
    exact .inl ⟨v, u, rfl, h1, h2⟩
theorem rel_perm {vs : List V} {us : List Value} (r : Vals vs us) : ∀ perm : List Nat, Vals (permV perm vs) (permV perm us)
  | [] => .nil
  | i :: perm => by
    unfold permV
    rcases rel_get r i with ⟨v, u, h1, h2, h3⟩ | ⟨h1, h2⟩
    · rw [List.filterMap_cons, List.filterMap_cons, h1, h2]
      exact .cons h3 (rel_perm r perm)
    · rw [List.filterMap_cons, List.filterMap_cons, h1, h2]
      exact rel_perm r perm
theorem Rps.perm {K : PySem.W.Frag} {α : List Addr} {H : Hp} {ds : List D} {vs : List V} (r : Rps K α H ds vs) : ∀ perm : List Nat, Rps K α H (permV perm ds) (permV perm vs)
  | [] => .nil
  | i :: perm => by
    unfold permV
    cases h : ds[i]? with
    | none =>
      have h2 : vs[i]? = none := by
        rw [List.getElem?_eq_none_iff, r.len]
        exact List.getElem?_eq_none_iff.mp h
      rw [List.filterMap_cons, List.filterMap_cons, h, h2]
      exact Rps.perm r perm
    | some d =>
      obtain ⟨v, h2, q⟩ := r.get h
      rw [List.filterMap_cons, List.filterMap_cons, h, h2]
      exact .cons q (Rps.perm r perm)
theorem xk_nil : PK X [] (trA X.K Γ .nil) := ⟨fun pos pins s σ H Q I h => pk_nil.run pos pins s σ H Q I (by
  obtain ⟨α, env, S, ds, S', ok, en, e, k⟩ := h
  simp only [ev, Option.some.injEq, Prod.mk.injEq, D.tup.injEq] at e
  obtain ⟨rfl, rfl⟩ := e
  exact k α H [] Xt.refl ok .nil)⟩
theorem xk_cons {nm : Option Str} {kpos : Pos} {kws : List Keyword} {ca : E} (ha : PE X e (tr X.K Γ ca)) (hr : PK X kws (trA X.K Γ cs)) : PK X (⟨nm, e, kpos⟩ :: kws) (trA X.K Γ (.cons ca cs)) :=
  ⟨fun pos pins s σ H Q I h => (pk_cons ha hr).run pos pins s σ H Q I (w_cons h)⟩
/-- f(e, .., k = v, ..) -/
theorem xe_callK {kws : List Keyword} (F : FnI X.prog X.w X.K X.mg X.base Γ n f x ps st) (ks : List Str) (perm : List Nat) (m : Nat)
    (kb : ∀ (kV doc pm : Value) (an : Option Addr) (cdv ct : Value) (us ws : List Value), us.length = m → ws.length = ks.length → bindArgs (PySem.W.fnOf x x (defArgs st) (defBody st) (defScope st) .none kV doc pm an cdv ct) ⟨us, ks.zip ws⟩ = pure (ps.zip (permV perm (us ++ ws))))
    (hn : narg cs = some m) (hnk : narg ck = some ks.length) (hr : RoomG n X.A) (hg : Gl X x) (ha : PA X (e :: es) (trA X.K Γ cs)) (hk : PK X kws (trA X.K Γ ck))
    (hall : (backToKw pos (keywordEach kws X.env)).all (·.1.isSome) = true := by rfl) (hks : (backToKw pos (keywordEach kws X.env)).filterMap (·.1) = ks := by rfl)
    (hdb : (x == ("__debug__" : Str)) = false := by decide) (he : starEach (e :: es) X.env = (false, eval e X.env) :: starEach es X.env := by rfl)
    (hpl : ((backTo pos (starEach (e :: es) X.env)).any (·.1) || (backToKw pos (keywordEach kws X.env)).any (·.1.isNone)) = false := by rfl) :
    PE X (.Call (.Name x p) (e :: es) kws pos) (tr X.K Γ (.callK f cs ck perm)) := by
  obtain ⟨fa, fd, h1, h2, h3, hb⟩ := F.ex
  obtain ⟨oc, od, kV, doc, pm, an, cdv, ct, osl, rfl, lk, hcd⟩ := h2.ex
  have hB : KBn X.K (PySem.W.fnOf x x (defArgs st) (defBody st) (defScope st) .none kV doc pm an cdv ct) ps m ks (fun us ws => permV perm (us ++ ws)) (fun us ws => permV perm (us ++ ws)) :=
    ⟨fun s us ws _ l1 l2 => .of_eq (kb kV doc pm an cdv ct us ws l1 l2), fun r1 r2 => rel_perm (r1.append r2) perm⟩
  refine pe_w (pe_callNG (E := E0) h3 hr hg h1 h2.kp hB pass0 ha hk hall hks hdb he hpl) fun σ H Q ⟨α, env, S, d, S', ok, en, e, k⟩ => ?_
  simp only [ev, Option.bind_eq_some_iff] at e
  obtain ⟨⟨d1, S1⟩, e1, ds, e2, ⟨d2, S2⟩, e3, zs, e4, e5⟩ := e
  cases argsOf_some e2
  cases argsOf_some e4
  have l1 := narg_len hn e1
  have l2 := narg_len hnk e3
  exact ⟨α, env, S, ds, S1, ok, en, e1, fun α1 H1 vs x1 ok1 r1 => ⟨α1, env, S1, zs, S2, ok1, en.mono x1, e3, fun α2 H2 ws x2 ok2 r2 => ⟨by rw [r1.len, l1], by rw [r2.len, l2],
      α2, S2, _, d, S', ok2, ((r1.mono x2).append r2).perm perm, e5, fun α3 H3 v x3 ok3 r3 => k α3 H3 v (x1.trans (x2.trans x3)) ok3 r3⟩⟩⟩
/-- f(k = v, ..) -/
theorem xe_callK0 {kws : List Keyword} (F : FnI X.prog X.w X.K X.mg X.base Γ n f x ps st) (ks : List Str) (perm : List Nat)
    (kb : ∀ (kV doc pm : Value) (an : Option Addr) (cdv ct : Value) (ws : List Value), ws.length = ks.length → bindArgs (PySem.W.fnOf x x (defArgs st) (defBody st) (defScope st) .none kV doc pm an cdv ct) ⟨[], ks.zip ws⟩ = pure (ps.zip (permV perm ws)))
    (hnk : narg ck = some ks.length) (hr : RoomG n X.A) (hg : Gl X x) (hk : PK X kws (trA X.K Γ ck))
    (hall : (backToKw pos (keywordEach kws X.env)).all (·.1.isSome) = true := by rfl) (hks : (backToKw pos (keywordEach kws X.env)).filterMap (·.1) = ks := by rfl)
    (hdb : (x == ("__debug__" : Str)) = false := by decide)
    (hpl : ((backTo pos (starEach [] X.env)).any (·.1) || (backToKw pos (keywordEach kws X.env)).any (·.1.isNone)) = false := by rfl) :
    PE X (.Call (.Name x p) [] kws pos) (tr X.K Γ (.callK f .nil ck perm)) := by
  obtain ⟨fa, fd, h1, h2, h3, hb⟩ := F.ex
  obtain ⟨oc, od, kV, doc, pm, an, cdv, ct, osl, rfl, lk, hcd⟩ := h2.ex
  have hB : KBn X.K (PySem.W.fnOf x x (defArgs st) (defBody st) (defScope st) .none kV doc pm an cdv ct) ps 0 ks (fun us ws => permV perm (us ++ ws)) (fun us ws => permV perm (us ++ ws)) :=
    ⟨fun s us ws _ l1 l2 => (match us, l1 with | [], _ => .of_eq (kb kV doc pm an cdv ct ws l2)), fun r1 r2 => rel_perm (r1.append r2) perm⟩
  refine ⟨fun pins s σ H Q I h => ?_⟩
  obtain ⟨α, env, S, d, S', ok, en, e, k⟩ := h
  simp only [ev, Option.bind_eq_some_iff, Option.some.injEq] at e
  obtain ⟨_, rfl, ds, e1, ⟨d2, S2⟩, e3, zs, e4, e5⟩ := e
  cases argsOf_some e1
  cases argsOf_some e4
  have l2 := narg_len hnk e3
  refine wpAny_Call_Name_kw (ld_glob I hg h1 ?_ hdb)
  refine PySem.W.callWith_KW0 (h₀ := X.base) I.ok.mod.kin h2.kp hall (thn (hk.run pos pins s σ H (fun ws H2 => ws.length = ks.length ∧ spF X.K Γ f (permV perm ([] ++ ws)) H2 Q E0) I ?_) fun ws s2 ⟨zs, H2, I2, rz, l3, q2⟩ => ⟨I2.kIn, ?_⟩) hpl
  · exact ⟨α, env, S, zs, S2, ok, en, e3, fun α2 H2 ws x2 ok2 r2 => ⟨by rw [r2.len, l2], α2, S2, _, d, S', ok2, Rps.perm (by simpa using r2) perm, e5, fun α3 H3 v x3 ok3 r3 => k α3 H3 v (x2.trans x3) ok3 r3⟩⟩
  · rw [hks]
    exact run_fnG h3 hr hB pass0 I2 (.nil : Vals [] []) rz rfl l3 q2
end
end Ix

namespace Ix
open PySem L2
/-! ### zip of a tuple and a list -/
section
variable {prog : Program} {w : World} {A : Around} {E : Value → Shared → Prop} {s : Shared}
abbrev mx1 (h : Heap) (a : Addr) : Heap := h.push { cls := .type "tuple_iterator", data := .fields #[.ref a, .int 0 0] }
abbrev mx2 (h : Heap) (a b : Addr) : Heap := (mx1 h a).push { cls := .type "list_iterator", data := .fields #[.ref b, .int 0 0] }
abbrev mx3 (h : Heap) (a b : Addr) : Heap := (mx2 h a b).push { cls := .type "tuple", data := .seq #[.ref h.objs.size, .ref (mx1 h a).objs.size] }
abbrev mx4 (h : Heap) (a b : Addr) : Heap := (mx3 h a b).push { cls := .type "tuple", data := .seq #[.none, .none] }
abbrev mx5 (h : Heap) (a b : Addr) : Heap := (mx4 h a b).push { cls := .type "zip", data := .fields #[.none, .bool false, .bool false, .ref (mx2 h a b).objs.size, .ref (mx3 h a b).objs.size] }
theorem mx_new (a b : Addr) (xs ys : Array Value) : Meets (Builtin.«zip.__new__» ⟨[.type "zip", .ref a, .ref b], []⟩) (fun _ R s => s.heap.IsTuple a xs ∧ s.heap.IsList b ys ∧ R (.ok (.ret (.ref (mx4 s.heap a b).objs.size))) { s with heap := mx5 s.heap a b }) :=
  .of_wp fun prog w A R s q => by
    obtain ⟨hp, gs, dr, tk, os⟩ := s
    obtain ⟨ta, lb, q⟩ := q
    have hsub := sub_zip
    have t1 : Heap.IsTuple (Shared.heap ⟨hp, gs, dr, tk, os⟩) a xs := ta
    have t2 : Heap.IsList (Shared.heap ⟨mx1 hp a, gs, dr, tk, os⟩) b ys := Heap.IsList.push lb _
    wp_walk using wpAny_pyIter_tuple t1, wpAny_pyIter_list t2
    exact ⟨_, rfl, q⟩
theorem get_up {h : Heap} {c : Addr} {o o2 : Obj} (e : h.get? c = some o) : (h.push o2).get? c = some o := Heap.get?_push_of_some _ e
theorem mx_call {a b : Addr} {xs ys : Array Value} {Q : Value → Shared → Prop} (ta : s.heap.IsTuple a xs) (lb : s.heap.IsList b ys)
    (q : ∀ h', IsZip h' (s.heap.objs.size + 4) (s.heap.objs.size + 2) (s.heap.objs.size + 3) .none → IsPair h' (s.heap.objs.size + 2) (.ref s.heap.objs.size) (.ref (s.heap.objs.size + 1)) → IsPair h' (s.heap.objs.size + 3) .none .none →
      h'.IsTupleIter s.heap.objs.size a 0 → h'.IsListIter (s.heap.objs.size + 1) b 0 → (∀ c o, s.heap.get? c = some o → h'.get? c = some o) → Q (.ref (s.heap.objs.size + 4)) { s with heap := h' }) :
    wpAny (model prog w) A (call (.type "zip") [.ref a, .ref b]) Q E s := by
  refine callType_new F.called_zip (by decide) (F.typeCall_zip_2 _ _) (F.newCall_zip_2 _ _) (fun obj => F.args_object_init_3 obj _ _) F.entry_zip_new (mx_new a b xs ys) ⟨ta, lb, ?_⟩
  have s1 : (mx1 s.heap a).objs.size = s.heap.objs.size + 1 := Heap.size_push ..
  have s2 : (mx2 s.heap a b).objs.size = s.heap.objs.size + 2 := by rw [Heap.size_push, s1]
  have s3 : (mx3 s.heap a b).objs.size = s.heap.objs.size + 3 := by rw [Heap.size_push, s2]
  have s4 : (mx4 s.heap a b).objs.size = s.heap.objs.size + 4 := by rw [Heap.size_push, s3]
  have e5 : (mx5 s.heap a b).get? (mx4 s.heap a b).objs.size = some _ := Heap.get?_push_size _ rfl
  have e4 : (mx5 s.heap a b).get? (mx3 s.heap a b).objs.size = some _ := get_up (Heap.get?_push_size _ rfl)
  have e3 : (mx5 s.heap a b).get? (mx2 s.heap a b).objs.size = some _ := get_up (get_up (Heap.get?_push_size _ rfl))
  have e2 : (mx5 s.heap a b).get? (mx1 s.heap a).objs.size = some _ := get_up (get_up (get_up (Heap.get?_push_size _ rfl)))
  have e1 : (mx5 s.heap a b).get? s.heap.objs.size = some _ := get_up (get_up (get_up (get_up (Heap.get?_push_size _ rfl))))
  show _ ∧ _
  rw [s2, s3, s4] at e5
  rw [s1, s2] at e3
  rw [s3] at e4
  rw [s1] at e2
  rw [s4]
  exact ⟨⟨_, e5, rfl⟩, q _ e5 e3 e4 ⟨_, e1, rfl, rfl⟩ ⟨_, e2, rfl, rfl⟩ fun c o x => get_up (get_up (get_up (get_up (get_up x))))⟩
end
def Itm (K : PySem.W.Frag) (a b : Addr) : It :=
  ⟨fun i H => ∃ (vs us : List V) (x y : V), SqT K H a vs ∧ SqL K H b us ∧ vs[i]? = some x ∧ us[i]? = some y,
    fun i H v H' => ∃ T x y, v = .ref T ∧ H T = none ∧ H' = upd H T (.tup [x, y]) ∧ (∀ vs, SqT K H a vs → vs[i]? = some x) ∧ ∀ us, SqL K H b us → us[i]? = some y,
    fun i H => ∃ vs us : List V, SqT K H a vs ∧ SqL K H b us ∧ i = min vs.length us.length⟩
theorem sep_mx {z TI TO i1 i2 a b : Addr} (D : ZipApart z TI TO i1 i2 a b) : ZipSep2 z TI TO i1 i2 [i1, a] [i2, b] where
  TIz := D.TIz
  TOz := D.TOz
  TITO := D.TITO
  TIi1 := D.TIi1
  mem1 := List.mem_cons_self
  zf1 := by simp only [List.mem_cons, List.not_mem_nil, or_false, not_or]; exact ⟨D.i1z.symm, D.l1z.symm⟩
  Tf1 := by simp only [List.mem_cons, List.not_mem_nil, or_false, not_or]; exact ⟨D.TOi1, D.l1TO.symm⟩
  TIi2 := D.TIi2
  mem2 := List.mem_cons_self
  zf2 := by simp only [List.mem_cons, List.not_mem_nil, or_false, not_or]; exact ⟨D.i2z.symm, D.l2z.symm⟩
  Tf2 := by simp only [List.mem_cons, List.not_mem_nil, or_false, not_or]; exact ⟨D.TOi2, D.l2TO.symm⟩
  sep1_2 := by simp only [List.mem_cons, List.not_mem_nil, or_false, not_or]; exact ⟨D.i12, D.l2i1.symm⟩
  sep2_1 := by simp only [List.mem_cons, List.not_mem_nil, or_false, not_or]; exact ⟨D.i12.symm, D.l1i2.symm⟩
def MxSt (z TI TO i1 i2 a b : Addr) (i : Nat) (h : Heap) : Prop := IsZip h z TI TO .none ∧ IsPair h TI (.ref i1) (.ref i2) ∧ (∃ x y, IsPair h TO x y) ∧ h.IsTupleIter i1 a i ∧ h.IsListIter i2 b i
theorem of5 {c z TI TO i1 i2 : Addr} (h : c ∈ [z, TI, TO, i1, i2]) : c = z ∨ c = TI ∨ c = TO ∨ c = i1 ∨ c = i2 := by simpa using h
theorem turn_mx {P : Program} {w : World} {K : PySem.W.Frag} {elts : List Expr} {kk : Nat} {tpos : Pos} {a b z TI TO i1 i2 : Addr} (D : ZipApart z TI TO i1 i2 a b) : Turn P w K (.Tuple elts kk tpos) (Itm K a b) [z, TI, TO, i1, i2] z (MxSt z TI TO i1 i2 a b) where
  mem := List.mem_cons_self
  obj := fun i h ⟨m1, m2, ⟨x, y, m3⟩, ⟨o1, p1, _, d1⟩, ⟨o2, p2, _, d2⟩⟩ c hc => by
    rcases of5 hc with rfl | rfl | rfl | rfl | rfl
    · exact ⟨_, m1, fun _ q => nomatch q⟩
    · exact ⟨_, m2, fun _ q => nomatch q⟩
    · exact ⟨_, m3, fun _ q => nomatch q⟩
    · exact ⟨o1, p1, fun _ q => by rw [d1] at q; cases q⟩
    · exact ⟨o2, p2, fun _ q => by rw [d2] at q; cases q⟩
  keep := fun i h h' ⟨m1, m2, ⟨x, y, m3⟩, m4, m5⟩ k => ⟨k z (by simp) _ m1, k TI (by simp) _ m2, ⟨x, y, k TO (by simp) _ m3⟩, m4.at (k i1 (by simp)), m5.at (k i2 (by simp))⟩
  item := by
    rintro X rfl rfl rfl hc i pins s σ H E I hf ⟨m1, m2, ⟨x0, y0, m3⟩, m4, m5⟩ ⟨vs, us, x, y, qa, qb, hx, hy⟩
    obtain ⟨ia, ra, pa, _⟩ := I.tuple qa
    obtain ⟨ib, rb, pb, _⟩ := I.list qb
    obtain ⟨u, hu, ru⟩ := ra.get hx
    obtain ⟨v, hv, rv⟩ := rb.get hy
    have zl : z < s.heap.objs.size := Heap.lt_size m1
    have hd : X.A.in1.handled = none := I.ok.hd hc
    have ua : ia.toArray[i]? = some u := by simpa using hu
    have ub : ib.toArray[i]? = some v := by simpa using hv
    have na : i < ia.toArray.size := (Array.getElem?_eq_some_iff.mp ua).1
    have nb : i < ib.toArray.size := (Array.getElem?_eq_some_iff.mp ub).1
    refine wpAny_pyNext_zipD2_item (sep_mx D) (Draws.tuple hd i1 a D.l1i1 ia.toArray) (Draws.list hd i2 b D.l2i2 ib.toArray) m1 m2 m3 ⟨m4, pa⟩ ⟨m5, pb.isList⟩ na nb fun w1 w2 h1 tk f1 f2 z1 t1 g1 g2 new1 sz1 k1 => ?_
    obtain rfl : w1 = u := Option.some.inj (f1.symm.trans ua)
    obtain rfl : w2 = v := Option.some.inj (f2.symm.trans ub)
    refine ⟨_, rfl, wpAny_letOwnedTupleGo_zip (s := { s with heap := h1, toks := tk }) z1 fun h2 z2 sb => ?_⟩
    have at2 : h2.get? s.heap.objs.size = some { cls := .type "tuple", data := .seq #[w1, w2] } := (sb.2 _ (Nat.ne_of_gt zl)).trans new1
    have ok2 : ObjOk X.prog X.w (upd H s.heap.objs.size (.tup [x, y])) h2 s.heap.objs.size (.tup [x, y]) := ⟨by show 2 ≤ sizeLine; decide, [w1, w2], .cons ru (.cons rv .nil), ⟨_, at2, rfl, _, rfl⟩⟩
    have kp : ∀ c o, c ∉ [z, TI, TO, i1, i2] → s.heap.get? c = some o → h2.get? c = some o := fun c o nc e =>
      (sb.2 c fun e' => nc (by simp [e'])).trans (k1 c o (fun e' => nc (by simp [e'])) (fun e' => nc (by simp [e'])) (fun e' => nc (by simp [e'])) (fun e' => nc (by simp [e'])) e)
    have I2 : Inv X pins σ (upd H s.heap.objs.size (.tup [x, y])) { s with heap := h2, toks := tk } := I.turnedNew (t' := tk) (ch := [z, TI, TO, i1, i2]) kp hf (Nat.le_refl _) ok2
    refine ⟨.ref s.heap.objs.size, _, I2, rfl, ⟨_, x, y, rfl, I.hok.fresh (Nat.le_refl _), rfl, fun l hl => by rw [I.tuple_inj hl qa]; exact hx, fun l hl => by rw [I.list_inj hl qb]; exact hy⟩, ⟨z2, (sb.2 _ D.TIz).trans (k1 _ _ D.TIz D.TITO D.TIi1 D.TIi2 m2), ⟨w1, w2, (sb.2 _ D.TOz).trans t1⟩, g1.1.at fun o e => (sb.2 _ D.i1z).trans e, g2.1.at fun o e => (sb.2 _ D.i2z).trans e⟩, fun c hcm => ?_⟩
    have lt : c < s.heap.objs.size := by
      rcases of5 hcm with rfl | rfl | rfl | rfl | rfl
      · exact zl
      · exact Heap.lt_size m2
      · exact Heap.lt_size m3
      · exact m4.elim fun _ e => Heap.lt_size e.1
      · exact m5.elim fun _ e => Heap.lt_size e.1
    rw [upd_ne (Nat.ne_of_lt lt)]
    exact (hf c hcm).1
  done := by
    rintro X rfl rfl rfl hc i pins s σ H E I hf ⟨m1, m2, ⟨x0, y0, m3⟩, m4, m5⟩ ⟨vs, us, qa, qb, hi⟩
    obtain ⟨ia, ra, pa, _⟩ := I.tuple qa
    obtain ⟨ib, rb, pb, _⟩ := I.list qb
    have hd : X.A.in1.handled = none := I.ok.hd hc
    have la : ia.toArray.size = vs.length := by rw [List.size_toArray, ra.length]
    have lb : ib.toArray.size = us.length := by rw [List.size_toArray, rb.length]
    refine wpAny_pyNext_zipD2_end (sep_mx D) (Draws.tuple hd i1 a D.l1i1 ia.toArray) (Draws.list hd i2 b D.l2i2 ib.toArray) m1 m2 m3 ⟨m4, pa⟩ ⟨m5, pb.isList⟩ (by omega) (by omega) (by omega) fun h1 tk k1 => ⟨rfl, I.turnedL (t' := tk) (ch := [z, TI, TO, i1, i2]) (fun c o nc e => ?_) hf⟩
    exact k1 c o (fun e' => nc (by simp [e'])) (fun e' => nc (by simp [e'])) (fun e' => nc (by simp [e'])) (fun e' => nc (by simp [e'])) e
  self := fun _ _ _ _ _ m q => wpAny_pyIter_zip m.1 q
def iMx (K : PySem.W.Frag) (ta : TA) : TI := fun σ H R => ta σ H fun vs H1 => ∃ a b xs ys, vs = [.ref a, .ref b] ∧ SqT K H1 a xs ∧ SqL K H1 b ys ∧ R (Itm K a b) H1
theorem pi_mx {X : Cx} {e e2 : Expr} {ta : TA} {p pos tpos : Pos} {elts : List Expr} {kk : Nat} (hg : Gl X "zip") (hm : X.mg "zip" = none) (ha : PA X [e, e2] ta) (hs : starEach [e, e2] X.env = (false, eval e X.env) :: starEach [e2] X.env := by rfl) (hpl : (backTo pos (starEach [e2] X.env)).any (·.1) = false := by rfl) :
    PI X (.Tuple elts kk tpos) (.Call (.Name "zip" p) [e, e2] [] pos) (iMx X.K ta) := by
  refine ⟨fun pins s σ H R I hw => ?_⟩
  refine PyProof.Rows.Call_ (ld_blt I hg hm PyProof.Rows.boot_zip (PyProof.Rows.callWith_type1 (thn (ha.run pos pins s σ H _ I hw) fun ws s1 ⟨vs, H1, I1, rs, q⟩ => ?_) hs hpl))
  obtain ⟨a, b, xs, ys, ev, qa, qb, q⟩ := q
  subst ev
  cases rs with
  | cons r1 rs =>
    cases rs with
    | cons r2 rs =>
    cases rs
    cases r1
    cases r2
    obtain ⟨ia, _, pa, _⟩ := I1.tuple qa
    obtain ⟨ib, _, pb, _⟩ := I1.list qb
    have fr : ∀ c, c ∈ [s1.heap.objs.size + 4, s1.heap.objs.size + 2, s1.heap.objs.size + 3, s1.heap.objs.size, s1.heap.objs.size + 1] → FpOk X pins H1 c := fun c hcm => by
      have le : s1.heap.objs.size ≤ c := by rcases of5 hcm with rfl | rfl | rfl | rfl | rfl <;> omega
      exact I1.fpOk le (I1.hok.fresh le)
    obtain ⟨oa, ea, _⟩ := id pa
    refine mx_call (show s1.heap.IsTuple a ia.toArray from pa) pb.isList fun h1 z1 t1 o1 n1 n2 k1 => wpAny_pyIter_zip z1 ?_
    have I2 : Inv X pins σ H1 { s1 with heap := h1 } := I1.kept (t' := s1.toks) k1
    exact ⟨s1.heap.objs.size + 4, [s1.heap.objs.size + 4, s1.heap.objs.size + 2, s1.heap.objs.size + 3, s1.heap.objs.size, s1.heap.objs.size + 1], _, _, H1, rfl, I2, turn_mx (PySem.W.ktu_apart s1.heap.objs.size a b (Heap.lt_size ea) pb.lt), ⟨z1, t1, ⟨_, _, o1⟩, n1, n2⟩, fr, q⟩
end Ix

namespace Ix
open PySem L2
/-! ### targets -/
theorem wipe_set {σ : L2.St} {i : Nat} {x : Option V} : ∀ {own : List Nat}, wipe (σ.set i x) own = if i ∈ own then wipe σ own else (wipe σ own).set i x
  | [] => by simp [wipe]
  | v :: vs => by
    unfold wipe
    rw [wipe_set (own := vs)]
    by_cases h1 : i ∈ vs
    · rw [if_pos h1, if_pos (List.mem_cons_of_mem _ h1)]
    · rw [if_neg h1]
      by_cases h2 : i = v
      · subst h2
        rw [if_pos List.mem_cons_self, List.set_set]
      · rw [if_neg (by simp [h1, h2]), List.set_comm _ _ h2]
theorem wipe_wipe {σ : L2.St} : ∀ {own own2 : List Nat}, (∀ v ∈ own2, v ∈ own) → wipe (wipe σ own2) own = wipe σ own
  | own, [], _ => rfl
  | own, v :: vs, h => by
    show wipe ((wipe σ vs).set v none) own = wipe σ own
    rw [wipe_set, if_pos (h v List.mem_cons_self)]
    exact wipe_wipe fun u hu => h u (List.mem_cons_of_mem _ hu)
theorem wipeD_En {K : PySem.W.Frag} {α : List Addr} {H : Hp} {env : Sl} {σ : L2.St} (en : En K α H env σ) : ∀ own : List Nat, En K α H (wipeD env own) (wipe σ own)
  | [] => en
  | v :: vs => by
    have ih := wipeD_En en vs
    refine ⟨by simp [wipe, wipeD, ih.len], fun i d h => ?_⟩
    unfold wipeD at h
    unfold wipe
    by_cases e : v = i
    · subst e
      rw [List.getElem?_set] at h
      simp only [if_true] at h
      split at h <;> cases h
    · rw [List.getElem?_set_ne e] at h ⊢
      exact ih.at_ i d h
section
variable {X : Cx} {Γ : Fs} {e : Expr} {es : List Expr} {pos : Pos}
theorem xg_name (i : Nat) {x : Str} (hN : X.N.Nodup) (hi : X.N[i]? = some x := by rfl) (hx : Loc X.env.scope x := by first | exact Or.inl rfl | exact Or.inr rfl) (hf : X.fn x = true ∨ X.env.scope.names.lookup x = some .local := by first | exact .inl rfl | exact .inr rfl | assumption) : PG X (.Name x pos) (trG X.K (.name i)) :=
  pg_w (pg_name hN hi hx hf) fun v σ H Q ⟨α, env, d, env', r, en, e, k⟩ => by
    simp only [asgG, Option.some.injEq] at e
    subst e
    refine k _ (en.set i r) fun own h => ?_
    rw [wipe_set, if_pos (by simpa [gOk] using h)]
theorem xgs_nil : PGs X [] (trGs X.K .nil) := ⟨fun pins s σ H vs us Q I r ⟨α, env, ds, env', rs, en, e, k⟩ => pgs_nil.run pins s σ H vs us Q I r (by
  cases ds with
  | nil =>
    simp only [asgG, Option.some.injEq] at e
    subst e
    exact ⟨rs.unnil, k _ en fun _ _ => rfl⟩
  | cons _ _ => simp [asgG] at e)⟩
theorem xgs_cons {g h : G} (h1 : PG X e (trG X.K g)) (h2 : PGs X es (trGs X.K h)) (hs : (assignEach (e :: es) X.env).map (·.2) = assign e X.env :: (assignEach es X.env).map (·.2) := by rfl) : PGs X (e :: es) (trGs X.K (.cons g h)) :=
  ⟨fun pins s σ H vs us Q I r ⟨α, env, ds, env', rs, en, e, k⟩ => (pgs_cons h1 h2 hs).run pins s σ H vs us Q I r (by
    cases ds with
    | nil => simp [asgG] at e
    | cons d ds =>
      simp only [asgG, Option.bind_eq_some_iff] at e
      obtain ⟨env1, e1, e2⟩ := e
      obtain ⟨w, ws, rfl, r1, r2⟩ := rs.uncons
      refine ⟨w, ws, rfl, α, env, d, env1, r1, en, e1, fun σ1 en1 w1 => ⟨α, env1, ds, env', r2, en1, e2, fun σ2 en2 w2 => k σ2 en2 fun own ho => ?_⟩⟩
      simp only [gOk, Bool.and_eq_true] at ho
      rw [w2 own ho.2, w1 own ho.1])⟩
theorem asg_len : ∀ {g : G} {n : Nat} {ds : List D} {env env' : Sl}, (∃ m, m = g) → gLen g = some n → asgG g (.tup ds) env = some env' → ds.length = n
  | .nil, n, ds, env, env', _, h, e => by
    simp only [gLen, Option.some.injEq] at h
    cases ds with
    | nil => exact h
    | cons _ _ => simp [asgG] at e
  | .cons g1 g2, n, ds, env, env', _, h, e => by
    simp only [gLen, Option.map_eq_some_iff] at h
    obtain ⟨m, h, rfl⟩ := h
    cases ds with
    | nil => simp [asgG] at e
    | cons d ds =>
      simp only [asgG, Option.bind_eq_some_iff] at e
      obtain ⟨env1, e1, e2⟩ := e
      rw [List.length_cons, asg_len ⟨_, rfl⟩ h e2]
  | .name _, n, ds, env, env', _, h, e => by simp [gLen] at h
  | .tup _, n, ds, env, env', _, h, e => by simp [gLen] at h
theorem xg_tup {g : G} {k n : Nat} (hc : X.calm = true) (h : PGs X es (trGs X.K g)) (hl : gLen g = some n := by rfl) (hn : (assignEach es X.env).length = n := by rfl) (hst : (assignEach es X.env).findIdx? (·.1) = none := by rfl) : PG X (.Tuple es k pos) (trG X.K (.tup g)) :=
  pg_w (pg_tup hc h hn hst) fun v σ H Q ⟨α, env, d, env', r, en, e, k⟩ => by
    cases d with
    | tup xs =>
      simp only [asgG] at e
      cases r with
      | tup h1 l q => exact ⟨_, _, rfl, h1, by rw [l, asg_len ⟨_, rfl⟩ hl e], α, env, xs, env', ⟨l, q⟩, en, e, fun σ' en' w => k σ' en' fun own ho => w own (by simpa [gOk] using ho)⟩
    | _ => simp [asgG] at e
end

/-! ### what is walked -/
def trI (K : PySem.W.Frag) (Γ : Fs) (k : Ik) (c : E) : TI := fun σ H R => ∃ α env S ds S' its, Ok K α S H ∧ En K α H env σ ∧ ev Γ c env S = some (.tup ds, S') ∧ items k ds S' = some its ∧
  ∀ (α' : List Addr) (H' : Hp) (J : It) (G : Hp → Prop) (Y : Nat → Hp → V → Hp → Prop), Xt K α H α' H' → Ok K α' S' H' → Walk J its.length G Y →
    (∀ α2 S2 H2, Xt K α' H' α2 H2 → Ok K α2 S2 H2 → items k ds S2 = some its → G H2) →
    (∀ i α2 S2 H2 x H3, Xt K α' H' α2 H2 → Ok K α2 S2 H2 → items k ds S2 = some its → i < its.length → Y i H2 x H3 → ∃ d, its[i]? = some d ∧ Xt K α2 H2 α2 H3 ∧ Ok K α2 S2 H3 ∧ Rp K α2 H3 d x) → R J H'
section
variable {K : PySem.W.Frag} {a b : Addr} {n : Nat}
theorem walk_listE : Walk (Itl K a) n (fun H => ∃ vs, SqL K H a vs ∧ vs.length = n) (fun i H x H' => H' = H ∧ ∀ vs, SqL K H a vs → vs[i]? = some x) :=
  ⟨fun i _ hi ⟨vs, q, l⟩ => ⟨vs, vs[i]'(by omega), q, by simp⟩, fun _ ⟨vs, q, l⟩ => ⟨vs, q, by omega⟩, fun _ _ _ _ _ _ y => y⟩
theorem walk_tupE : Walk (Itt K a) n (fun H => ∃ vs, SqT K H a vs ∧ vs.length = n) (fun i H x H' => H' = H ∧ ∀ vs, SqT K H a vs → vs[i]? = some x) :=
  ⟨fun i _ hi ⟨vs, q, l⟩ => ⟨vs, vs[i]'(by omega), q, by simp⟩, fun _ ⟨vs, q, l⟩ => ⟨vs, q, by omega⟩, fun _ _ _ _ _ _ y => y⟩
theorem walk_zipE : Walk (Itz K a b) n (fun H => ∃ vs us, SqL K H a vs ∧ SqL K H b us ∧ min vs.length us.length = n)
    (fun i H v H' => ∃ T x y, v = .ref T ∧ H T = none ∧ H' = upd H T (.tup [x, y]) ∧ (∀ xs, SqL K H a xs → xs[i]? = some x) ∧ ∀ ys, SqL K H b ys → ys[i]? = some y) :=
  ⟨fun i _ hi ⟨vs, us, q, r, l⟩ => ⟨vs, us, vs[i]'(by omega), us[i]'(by omega), q, r, by simp, by simp⟩, fun _ ⟨vs, us, q, r, l⟩ => ⟨vs, us, q, r, by omega⟩, fun _ _ _ _ _ _ y => y⟩
theorem walk_zipTE : Walk (RZ.ItzT K a b) n (fun H => ∃ vs us, SqT K H a vs ∧ SqT K H b us ∧ min vs.length us.length = n)
    (fun i H v H' => ∃ T x y, v = .ref T ∧ H T = none ∧ H' = upd H T (.tup [x, y]) ∧ (∀ xs, SqT K H a xs → xs[i]? = some x) ∧ ∀ ys, SqT K H b ys → ys[i]? = some y) :=
  ⟨fun i _ hi ⟨vs, us, q, r, l⟩ => ⟨vs, us, vs[i]'(by omega), us[i]'(by omega), q, r, by simp, by simp⟩, fun _ ⟨vs, us, q, r, l⟩ => ⟨vs, us, q, r, by omega⟩, fun _ _ _ _ _ _ y => y⟩
end
section
variable {X : Cx} {Γ : Fs} {tg e e2 : Expr} {c c2 cs : E} {pos p : Pos}
theorem seq_lst {K : PySem.W.Frag} {α : List Addr} {S : Hd} {H : Hp} {d : D} {a : Addr} {xs : List D} (ok : Ok K α S H) (r : Rp K α H d (.ref a)) (h : seqOf S d = some xs) (nt : isTup d = false) : ∃ vs, SqL K H a vs ∧ Rps K α H xs vs := by
  obtain ⟨a', vs, e, rs, z⟩ := seq_of ok r h
  cases e
  rcases z with ⟨z, _⟩ | ⟨_, z⟩
  · rw [nt] at z
    cases z
  · exact ⟨vs, z, rs⟩
theorem seq_tup {K : PySem.W.Frag} {α : List Addr} {S : Hd} {H : Hp} {d : D} {a : Addr} {xs : List D} (ok : Ok K α S H) (r : Rp K α H d (.ref a)) (h : seqOf S d = some xs) (nt : isTup d = true) : ∃ vs, SqT K H a vs ∧ Rps K α H xs vs := by
  obtain ⟨a', vs, e, rs, z⟩ := seq_of ok r h
  cases e
  rcases z with ⟨_, z⟩ | ⟨z, _⟩
  · exact ⟨vs, z, rs⟩
  · rw [nt] at z
    cases z
theorem xi_seq (h : PE X e (tr X.K Γ c)) : PI X tg e (trI X.K Γ .seq (.cons c .nil)) := by
  refine ⟨fun pins s σ H R I ⟨α, env, S, ds, S', its, ok, en, e1, e2, k⟩ => ?_⟩
  simp only [ev, Option.bind_eq_some_iff, Option.map_eq_some_iff, Option.some.injEq, Prod.mk.injEq, D.tup.injEq] at e1
  obtain ⟨⟨d, S1⟩, e1, _, rfl, dr, e3, rfl, rfl⟩ := e1
  cases argsOf_some e3
  simp only [items] at e2
  cases ht : isTup d with
  | true =>
    refine (pi_tup h).run pins s σ H R I ⟨α, env, S, d, S1, ok, en, e1, fun α1 H1 v x1 ok1 r1 => ?_⟩
    obtain ⟨a, vs, rfl, rs, z⟩ := seq_of ok1 r1 e2
    obtain ⟨vs, z, rs⟩ := seq_tup ok1 r1 e2 ht
    refine ⟨a, rfl, ⟨vs, z⟩, k α1 H1 _ _ _ x1 ok1 walk_tupE (fun α2 S2 H2 x2 ok2 e4 => ?_) fun i α2 S2 H2 x H3 x2 ok2 e4 hi ⟨y1, y2⟩ => ?_⟩
    · obtain ⟨ws, w1, w2⟩ := seq_tup ok2 (r1.mono x2) (show seqOf S2 d = some its from e4) ht
      exact ⟨ws, w1, w2.len⟩
    · obtain ⟨ws, w1, w2⟩ := seq_tup ok2 (r1.mono x2) (show seqOf S2 d = some its from e4) ht
      obtain ⟨d', q1, q2⟩ := w2.getV (y2 ws w1)
      subst y1
      exact ⟨d', q1, Xt.refl, ok2, q2⟩
  | false =>
    refine (pi_list h).run pins s σ H R I ⟨α, env, S, d, S1, ok, en, e1, fun α1 H1 v x1 ok1 r1 => ?_⟩
    obtain ⟨a, vs, rfl, rs, z⟩ := seq_of ok1 r1 e2
    obtain ⟨vs, z, rs⟩ := seq_lst ok1 r1 e2 ht
    refine ⟨a, rfl, ⟨vs, z⟩, k α1 H1 _ _ _ x1 ok1 walk_listE (fun α2 S2 H2 x2 ok2 e4 => ?_) fun i α2 S2 H2 x H3 x2 ok2 e4 hi ⟨y1, y2⟩ => ?_⟩
    · obtain ⟨ws, w1, w2⟩ := seq_lst ok2 (r1.mono x2) (show seqOf S2 d = some its from e4) ht
      exact ⟨ws, w1, w2.len⟩
    · obtain ⟨ws, w1, w2⟩ := seq_lst ok2 (r1.mono x2) (show seqOf S2 d = some its from e4) ht
      obtain ⟨d', q1, q2⟩ := w2.getV (y2 ws w1)
      subst y1
      exact ⟨d', q1, Xt.refl, ok2, q2⟩
theorem xi_range1 (hg : Gl X "range") (hm : X.mg "range" = none) (ha : PA X [e] (trA X.K Γ cs)) (hs : starEach [e] X.env = [(false, eval e X.env)] := by rfl) : PI X tg (.Call (.Name "range" p) [e] [] pos) (trI X.K Γ .range1 cs) := by
  refine ⟨fun pins s σ H R I ⟨α, env, S, ds, S', its, ok, en, e1, e2, k⟩ => ?_⟩
  match ds, e1, e2 with
  | [x], e1, e2 =>
    cases x with
    | int j =>
      simp only [items] at e2
      split at e2
      · rename_i hb
        simp only [Option.some.injEq] at e2
        refine (pi_range1 hg hm ha hs).run pins s σ H R I ⟨α, env, S, _, S', ok, en, e1, fun α1 H1 vs x1 ok1 r1 => ?_⟩
        obtain ⟨v, rfl, r2⟩ := r1.one'
        cases r2
        have hl : its.length = j.toNat := by rw [← e2]; simp
        refine ⟨j, rfl, hb.1, hb.2, k α1 H1 _ _ _ x1 ok1 (show Walk (Itr 0 j.toNat) its.length (fun _ => True) (YFn fun i => .int (0 + i)) by rw [hl]; exact walk_range) (fun _ _ _ _ _ _ => trivial) fun i α2 S2 H2 x H3 x2 ok2 e4 hi ⟨y1, y2⟩ => ?_⟩
        subst y1 y2
        refine ⟨.int (0 + (i : Int)), ?_, Xt.refl, ok2, .int _⟩
        rw [← e2, List.getElem?_map, List.getElem?_range (by omega)]
        rfl
      · cases e2
    | _ => simp [items] at e2
  | [], e1, e2 => simp [items] at e2
  | x :: _ :: _, e1, e2 => cases x <;> simp [items] at e2
theorem xi_range2 (hg : Gl X "range") (hm : X.mg "range" = none) (ha : PA X [e, e2] (trA X.K Γ cs)) (hs : starEach [e, e2] X.env = [(false, eval e X.env), (false, eval e2 X.env)] := by rfl) (hs2 : starEach [e2] X.env = [(false, eval e2 X.env)] := by rfl) : PI X tg (.Call (.Name "range" p) [e, e2] [] pos) (trI X.K Γ .range2 cs) := by
  refine ⟨fun pins s σ H R I ⟨α, env, S, ds, S', its, ok, en, e1, e3, k⟩ => ?_⟩
  match ds, e1, e3 with
  | [x, y], e1, e3 =>
    cases x with
    | int i =>
      cases y with
      | int j =>
        simp only [items] at e3
        split at e3
        · rename_i hb
          simp only [Option.some.injEq] at e3
          refine (pi_range2 hg hm ha hs hs2).run pins s σ H R I ⟨α, env, S, _, S', ok, en, e1, fun α1 H1 vs x1 ok1 r1 => ?_⟩
          obtain ⟨v, u, rfl, r2, r3⟩ := r1.two'
          cases r2
          cases r3
          have hl : its.length = (j - i).toNat := by rw [← e3]; simp
          refine ⟨i, j, rfl, hb, k α1 H1 _ _ _ x1 ok1 (show Walk (Itr i (j - i).toNat) its.length (fun _ => True) (YFn fun m => .int (i + m)) by rw [hl]; exact walk_range) (fun _ _ _ _ _ _ => trivial) fun m α2 S2 H2 x H3 x2 ok2 e4 hi ⟨y1, y2⟩ => ?_⟩
          subst y1 y2
          refine ⟨.int (i + (m : Int)), ?_, Xt.refl, ok2, .int _⟩
          rw [← e3, List.getElem?_map, List.getElem?_range (by omega)]
          rfl
        · cases e3
      | _ => simp [items] at e3
    | _ => cases y <;> simp [items] at e3
  | [], e1, e3 => simp [items] at e3
  | [x], e1, e3 => cases x <;> simp [items] at e3
  | x :: y :: _ :: _, e1, e3 => cases x <;> cases y <;> simp [items] at e3
theorem zip_items {S : Hd} {x y : D} {its : List D} (h : items .zip [x, y] S = some its) : (isTup x = isTup y ∨ isTup x = true) ∧ ∃ xs ys, seqOf S x = some xs ∧ seqOf S y = some ys ∧ its = List.zipWith (fun a b => .tup [a, b]) xs ys := by
  simp only [items] at h
  split at h
  · rename_i ht
    simp only [Option.bind_eq_some_iff, Option.map_eq_some_iff] at h
    obtain ⟨xs, h1, ys, h2, rfl⟩ := h
    exact ⟨ht, xs, ys, h1, h2, rfl⟩
  · cases h
theorem walk_mxE {K : PySem.W.Frag} {a b : Addr} {n : Nat} : Walk (Itm K a b) n (fun H => ∃ vs us, SqT K H a vs ∧ SqL K H b us ∧ min vs.length us.length = n)
    (fun i H v H' => ∃ T x y, v = .ref T ∧ H T = none ∧ H' = upd H T (.tup [x, y]) ∧ (∀ vs, SqT K H a vs → vs[i]? = some x) ∧ ∀ us, SqL K H b us → us[i]? = some y) :=
  ⟨fun i _ hi ⟨vs, us, q, r, l⟩ => ⟨vs, us, vs[i]'(by omega), us[i]'(by omega), q, r, by simp, by simp⟩, fun _ ⟨vs, us, q, r, l⟩ => ⟨vs, us, q, r, by omega⟩, fun _ _ _ _ _ _ y => y⟩
theorem zip_turn {K : PySem.W.Frag} {α : List Addr} {S : Hd} {H H3 : Hp} {xs ys : List D} {vs us : List V} {v : V} {i : Nat} {T : Addr} {x y : V} (ok : Ok K α S H) (r1 : Rps K α H xs vs) (r2 : Rps K α H ys us) (e1 : v = .ref T) (hT : H T = none) (e2 : H3 = upd H T (.tup [x, y]))
    (h1 : vs[i]? = some x) (h2 : us[i]? = some y) : ∃ d, (List.zipWith (fun a b => D.tup [a, b]) xs ys)[i]? = some d ∧ Xt K α H α H3 ∧ Ok K α S H3 ∧ Rp K α H3 d v := by
  obtain ⟨dx, q1, q2⟩ := r1.getV h1
  obtain ⟨dy, q3, q4⟩ := r2.getV h2
  subst e1 e2
  exact ⟨.tup [dx, dy], by rw [List.getElem?_zipWith, q1, q3], Xt.fresh hT, ok.fresh hT, Rp.newT hT (.cons q2 (.cons q4 .nil))⟩
theorem xi_zip {elts : List Expr} {kk : Nat} {tpos : Pos} (hg : Gl X "zip") (hm : X.mg "zip" = none) (ha : PA X [e, e2] (trA X.K Γ cs)) (hs : starEach [e, e2] X.env = (false, eval e X.env) :: starEach [e2] X.env := by rfl) (hpl : (backTo pos (starEach [e2] X.env)).any (·.1) = false := by rfl) :
    PI X (.Tuple elts kk tpos) (.Call (.Name "zip" p) [e, e2] [] pos) (trI X.K Γ .zip cs) := by
  refine ⟨fun pins s σ H R I ⟨α, env, S, ds, S', its, ok, en, e1, e3, k⟩ => ?_⟩
  match ds, e1, e3 with
  | [x, y], e1, e3 =>
    by_cases hmx : isTup x = true ∧ isTup y = false
    · obtain ⟨hx, hy⟩ := hmx
      refine (pi_mx hg hm ha hs hpl).run pins s σ H R I ⟨α, env, S, _, S', ok, en, e1, fun α1 H1 vs x1 ok1 r1 => ?_⟩
      obtain ⟨v, u, rfl, r2, r3⟩ := r1.two'
      obtain ⟨_, xs, ys, h1, h2, ei⟩ := zip_items e3
      obtain ⟨a, _, rfl, _, _⟩ := seq_of ok1 r2 h1
      obtain ⟨b, _, rfl, _, _⟩ := seq_of ok1 r3 h2
      obtain ⟨vs, z1, q1⟩ := seq_tup ok1 r2 h1 hx
      obtain ⟨us, z2, q2⟩ := seq_lst ok1 r3 h2 hy
      refine ⟨a, b, vs, us, rfl, z1, z2, k α1 H1 _ _ _ x1 ok1 walk_mxE (fun α2 S2 H2 x2 ok2 e4 => ?_) fun i α2 S2 H2 w H3 x2 ok2 e4 hi ⟨T, x', y', f1, f2, f3, f4, f5⟩ => ?_⟩
      · obtain ⟨_, xs', ys', g1, g2, g3⟩ := zip_items e4
        obtain ⟨vs', w1, w2⟩ := seq_tup ok2 (r2.mono x2) g1 hx
        obtain ⟨us', w3, w4⟩ := seq_lst ok2 (r3.mono x2) g2 hy
        exact ⟨vs', us', w1, w3, by rw [w2.len, w4.len, g3, List.length_zipWith]⟩
      · obtain ⟨_, xs', ys', g1, g2, g3⟩ := zip_items e4
        obtain ⟨vs', w1, w2⟩ := seq_tup ok2 (r2.mono x2) g1 hx
        obtain ⟨us', w3, w4⟩ := seq_lst ok2 (r3.mono x2) g2 hy
        rw [g3]
        exact zip_turn ok2 w2 w4 f1 f2 f3 (f4 _ w1) (f5 _ w3)
    have hxy : isTup x = isTup y := by
      rcases (zip_items e3).1 with h | h
      · exact h
      · cases hy : isTup y with
        | true => exact h
        | false => exact absurd ⟨h, hy⟩ hmx
    refine (RZ.pi_zipA hg hm ha hs hpl).run pins s σ H R I ⟨α, env, S, _, S', ok, en, e1, fun α1 H1 vs x1 ok1 r1 => ?_⟩
    obtain ⟨v, u, rfl, r2, r3⟩ := r1.two'
    obtain ⟨_, xs, ys, h1, h2, ei⟩ := zip_items e3
    have ht := hxy
    obtain ⟨a, _, rfl, _, _⟩ := seq_of ok1 r2 h1
    obtain ⟨b, _, rfl, _, _⟩ := seq_of ok1 r3 h2
    cases hx : isTup x with
    | true =>
      have hy : isTup y = true := by rw [← ht, hx]
      obtain ⟨vs, z1, q1⟩ := seq_tup ok1 r2 h1 hx
      obtain ⟨us, z2, q2⟩ := seq_tup ok1 r3 h2 hy
      refine ⟨a, b, vs, us, rfl, .inr ⟨z1, z2, k α1 H1 _ _ _ x1 ok1 walk_zipTE (fun α2 S2 H2 x2 ok2 e4 => ?_) fun i α2 S2 H2 w H3 x2 ok2 e4 hi ⟨T, x', y', f1, f2, f3, f4, f5⟩ => ?_⟩⟩
      · obtain ⟨_, xs', ys', g1, g2, g3⟩ := zip_items e4
        obtain ⟨vs', w1, w2⟩ := seq_tup ok2 (r2.mono x2) g1 hx
        obtain ⟨us', w3, w4⟩ := seq_tup ok2 (r3.mono x2) g2 hy
        exact ⟨vs', us', w1, w3, by rw [w2.len, w4.len, g3, List.length_zipWith]⟩
      · obtain ⟨_, xs', ys', g1, g2, g3⟩ := zip_items e4
        obtain ⟨vs', w1, w2⟩ := seq_tup ok2 (r2.mono x2) g1 hx
        obtain ⟨us', w3, w4⟩ := seq_tup ok2 (r3.mono x2) g2 hy
        rw [g3]
        exact zip_turn ok2 w2 w4 f1 f2 f3 (f4 _ w1) (f5 _ w3)
    | false =>
      have hy : isTup y = false := by rw [← ht, hx]
      obtain ⟨vs, z1, q1⟩ := seq_lst ok1 r2 h1 hx
      obtain ⟨us, z2, q2⟩ := seq_lst ok1 r3 h2 hy
      refine ⟨a, b, vs, us, rfl, .inl ⟨z1, z2, k α1 H1 _ _ _ x1 ok1 walk_zipE (fun α2 S2 H2 x2 ok2 e4 => ?_) fun i α2 S2 H2 w H3 x2 ok2 e4 hi ⟨T, x', y', f1, f2, f3, f4, f5⟩ => ?_⟩⟩
      · obtain ⟨_, xs', ys', g1, g2, g3⟩ := zip_items e4
        obtain ⟨vs', w1, w2⟩ := seq_lst ok2 (r2.mono x2) g1 hx
        obtain ⟨us', w3, w4⟩ := seq_lst ok2 (r3.mono x2) g2 hy
        exact ⟨vs', us', w1, w3, by rw [w2.len, w4.len, g3, List.length_zipWith]⟩
      · obtain ⟨_, xs', ys', g1, g2, g3⟩ := zip_items e4
        obtain ⟨vs', w1, w2⟩ := seq_lst ok2 (r2.mono x2) g1 hx
        obtain ⟨us', w3, w4⟩ := seq_lst ok2 (r3.mono x2) g2 hy
        rw [g3]
        exact zip_turn ok2 w2 w4 f1 f2 f3 (f4 _ w1) (f5 _ w3)
  | [], e1, e3 => simp [items] at e3
  | [x], e1, e3 => simp [items] at e3
  | x :: y :: _ :: _, e1, e3 => simp [items] at e3
end
end Ix

namespace Ix
open PySem L2 PySem.Spec PyProof.Rows HT
/-! ### t[::-1] of a tuple -/
section
variable {prog : Program} {w : World} {A : Around} {E : Value → Shared → Prop} {s : Shared}
theorem adjust_back (n : Nat) : Builtin.Slice.sliceAdjust none none (-1) (n : Int) = ((n : Int) - 1, -1) := by
  unfold Builtin.Slice.sliceAdjust
  simp
theorem places_back (n : Nat) : Builtin.Slice.slicePlaces ((n : Int) - 1) (-1) (-1) = n := by
  unfold Builtin.Slice.slicePlaces
  have h1 : ¬ ((-1 : Int) > 0) := by omega
  simp only [h1, if_false]
  split
  · have : ((n : Int) - 1 - -1 - 1) / (- -1) = n - 1 := by
      rw [show (- -1 : Int) = 1 by rfl, Int.ediv_one]
      omega
    rw [this]
    omega
  · simp only [Int.toNat_zero]
    omega
theorem applied_back {sl : Addr} {t : Tok} {n : Nat} {Q : Int × Int × Nat → Shared → Prop} (hs : s.heap.IsSliceOf sl .none .none (.int (-1) t))
    (h : Q ((n : Int) - 1, -1, n) s) : wpAny (model prog w) A (Builtin.Slice.sliceApplied (.ref sl) (pure (n : Int))) Q E s := by
  obtain ⟨os, hos, hcs, hds⟩ := id hs
  unfold Builtin.Slice.sliceApplied Builtin.Slice.sliceFields
  refine wpAny_bind (wpAny_bind (wpAny_field hos hds (x := .none) rfl (wpAny_bind (wpAny_field hos hds (x := .none) rfl (wpAny_bind (wpAny_field hos hds (x := .int (-1) t) rfl (wpAny_pure ?_)))))))
  refine wpAny_bind (slicePart_int ?_)
  show wpAny _ _ (if ((-1 : Int) == 0) = true then _ else _) _ _ s
  rw [if_neg (by decide)]
  refine wpAny_bind (slicePart_none (wpAny_bind (slicePart_none (wpAny_bind (wpAny_pure ?_)))))
  show wpAny _ _ (match Builtin.Slice.sliceAdjust none none (-1) (n : Int) with | (lo, hi) => pure (lo, (-1 : Int), Builtin.Slice.slicePlaces lo hi (-1))) _ _ s
  rw [adjust_back]
  show wpAny _ _ (pure ((n : Int) - 1, (-1 : Int), Builtin.Slice.slicePlaces ((n : Int) - 1) (-1) (-1))) _ _ s
  rw [places_back]
  exact wpAny_pure h
theorem pick_back (xs : Array Value) : ((List.range xs.size).filterMap fun (m : Nat) => xs[(((xs.size : Int) - 1) + (m : Int) * (-1)).toNat]?).toArray = xs.toList.reverse.toArray := by
  congr 1
  apply List.ext_getElem?
  intro i
  have key : (List.range xs.size).filterMap (fun (m : Nat) => xs[(((xs.size : Int) - 1) + (m : Int) * (-1)).toNat]?) = (List.range xs.size).map (fun m => xs.toList.reverse.getD m .none) := by
    have : ∀ (l : List Nat), (∀ m ∈ l, m < xs.size) → l.filterMap (fun (m : Nat) => xs[(((xs.size : Int) - 1) + (m : Int) * (-1)).toNat]?) = l.map (fun m => xs.toList.reverse.getD m .none) := by
      intro l
      induction l with
      | nil => intro _; rfl
      | cons m l ih =>
        intro h
        have hm := h m List.mem_cons_self
        have e1 : (((xs.size : Int) - 1) + (m : Int) * (-1)).toNat = xs.size - 1 - m := by omega
        have e2 : xs[xs.size - 1 - m]? = some (xs.toList.reverse.getD m .none) := by
          rw [List.getD_eq_getElem?_getD, List.getElem?_reverse (by simpa using hm)]
          simp only [Array.length_toList, Array.getElem?_toList]
          rw [Array.getElem?_eq_getElem (by omega)]
          rfl
        rw [List.filterMap_cons, e1, e2, List.map_cons, ih fun k hk => h k (List.mem_cons_of_mem _ hk)]
    exact this _ fun m hm => List.mem_range.mp hm
  rw [key, List.getElem?_map]
  by_cases hi : i < xs.size
  · rw [List.getElem?_range hi]
    simp [List.getD_eq_getElem?_getD, hi]
  · rw [List.getElem?_eq_none (by simpa using hi), List.getElem?_eq_none (by simpa using hi)]
    rfl
theorem getItem_tuple_back {t sl : Addr} {items : Array Value} {k : Tok} {Q : Value → Shared → Prop} (ht : IsTup s.heap t items) (hs : s.heap.IsSliceOf sl .none .none (.int (-1) k))
    (h : Q (.ref s.heap.objs.size) { s with heap := s.heap.push { cls := .type "tuple", data := .seq items.toList.reverse.toArray } })
    (hsz : items.size ≤ sizeLine) : wpAny (model prog w) A (getItem (.ref t) (.ref sl)) Q E s := by
  have htake : sizeOk (.seq items.toList.reverse.toArray) := by
    show items.toList.reverse.toArray.size ≤ sizeLine
    rw [List.size_toArray, List.length_reverse, Array.length_toList]
    exact hsz
  obtain ⟨os, hos, hcs, hds⟩ := id hs
  have hTs : s.TypeIs (.ref sl) "slice" := ⟨os, hos, hcs⟩
  unfold getItem
  try with_reducible refine wpAny_holding ?_
  first | refine wpAny_bind (wpAny_pure ?_) | skip
  refine wpAny_bind (wpAny_sequenceKey ht.typeIs (by decide) ?_)
  refine wpAny_bind (wpAny_callSpecial?_slot (name := Str.ofString "__getitem__") ht.typeIs PyProof.Rows.slot_tuple_getitem
    (wpAny_call_entry PyProof.Rows.slot_tuple_getitem ht.typeIs entry_tuple_getitem ?_ (args_tuple_getitem _ _)))
  show wpAny _ _ (Builtin.Tuple.tupleItemsOf (.ref t) >>= _) _ _ s
  refine wpAny_bind (tupleItemsOf_ ht ?_)
  refine wpAny_bind (wpAny_typeOf hTs ?_)
  rw [if_pos (by decide)]
  refine wpAny_bind (applied_back hs ?_)
  have hno : ¬ ((((items.size : Int) - 1) == 0 && (-1 : Int) == 1 && items.size == items.size) = true) := by
    intro q
    rw [Bool.and_eq_true, Bool.and_eq_true] at q
    have q1 : (-1 : Int) = 1 := eq_of_beq q.1.2
    omega
  show wpAny _ _ (if (((items.size : Int) - 1) == 0 && (-1 : Int) == 1 && items.size == items.size) = true then _ else _) _ _ s
  rw [if_neg hno, pick_back]
  first
    | exact wpAny_bind (m := Builtin.Tuple.tupleExact _) (wpAny_newObj_type (wpAny_pure ⟨_, rfl, wpAny_pure h⟩) htake)
    | exact wpAny_bind (m := Builtin.Tuple.tupleExact _) (wpAny_newObj_type (wpAny_bind (wpAny_pure (wpAny_pure ⟨_, rfl, wpAny_pure h⟩))) htake)
    | exact wpAny_bind (wpAny_bind (m := Builtin.Tuple.tupleExact _) (wpAny_newObj_type (wpAny_pure (wpAny_pure ⟨_, rfl, wpAny_pure h⟩)) htake))
    | exact wpAny_bind (wpAny_bind (m := Builtin.Tuple.tupleExact _) (wpAny_newObj_type (wpAny_pure ⟨_, rfl, wpAny_pure h⟩) htake))
end
end Ix
namespace Ix
open PySem L2
theorem isPart_none {u : Value} (h : IsPart u none) : u = .none := by cases h; rfl
theorem isPart_int {u : Value} {i : Int} (h : IsPart u (some i)) : ∃ t, u = .int i t := by cases h; exact ⟨_, rfl⟩
theorem slot_tup : True := trivial
section
variable {X : Cx} {Γ : Fs} {e : Expr} {c : E}
def tRevT (K : PySem.W.Frag) (te : TE) : TE := fun σ H Q => te σ H fun x H1 => ∃ a xs, x = .ref a ∧ SqT K H1 a xs ∧ ∀ p, H1 p = none → Q (.ref p) (upd H1 p (.tup xs.reverse))
theorem pe_revT {te : TE} {k : Nat} {p1 p2 p3 pos : Pos} (he : PE X e te) : PE X (.Subscript e (.Slice none none (some (.UnaryOp .USub (.Constant (.int 1) k p1) p2)) p3) pos) (tRevT X.K te) := by
  refine ⟨fun pins s σ H Q I h => ?_⟩
  refine PyProof.Rows.Subscript_ (thn (he.run pins s σ H _ I h) fun v s1 ⟨x, H1, I1, r1, q1⟩ => ?_)
  obtain ⟨a, xs, ex, hx, q⟩ := q1
  subst ex
  cases r1
  have hst : PO X (some (.UnaryOp .USub (.Constant (.int 1) k p1) p2)) (tPart (tUn (rU fun i => .int (-i)) (tC (.int 1)))) := po_some (pe_un un_neg pe_int)
  refine wpAny_Slice (thn (po_none.run pins s1 σ H1 (fun o H2 => o = none ∧ H2 = H1) I1 ⟨rfl, rfl⟩) fun vl s2 ⟨l, H2, I2, pl, el, e2⟩ => ?_)
  subst el e2
  refine thn (po_none.run pins s2 σ H2 (fun o H3 => o = none ∧ H3 = H2) I2 ⟨rfl, rfl⟩) fun vu s3 ⟨u, H3, I3, pu, eu, e3⟩ => ?_
  subst eu e3
  refine thn (hst.run pins s3 σ H3 (fun o H4 => o = some (-1) ∧ H4 = H3) I3 ⟨1, rfl, -1, rfl, rfl, rfl⟩) fun vs s4 ⟨o, H4, I4, ps, eo, e4⟩ => ?_
  subst eo e4
  cases isPart_none pl
  cases isPart_none pu
  obtain ⟨tk, rfl⟩ := isPart_int ps
  have I5 : Inv X pins σ H4 { s4 with heap := s4.heap.push { cls := .type "slice", data := .fields #[.none, .none, .int (-1) tk] } } := I4.kept (t' := s4.toks) fun b ob q => Heap.get?_push_of_some _ q
  obtain ⟨its, r, ht, hz⟩ := I5.tuple hx
  have hlen := r.length
  show wpAny (model X.prog X.w) X.A (PyProof.Rows.subscriptTail e (.Slice none none (some (.UnaryOp .USub (.Constant (.int 1) k p1) p2)) p3) (.ref a) (.ref s4.heap.objs.size)) (EP X pins σ Q) X.xe { s4 with heap := s4.heap.push { cls := .type "slice", data := .fields #[.none, .none, .int (-1) tk] } }
  refine PyProof.Rows.tail_any (ops := [.ref a, .ref s4.heap.objs.size]) ht.typeIs (PyProof.Rows.slot_tuple_getitem.lookup) ?_ (by with_unfolding_all rfl)
  refine getItem_tuple_back ht (Heap.IsSliceOf.new _ .none .none (.int (-1) tk)) ?_ (by rw [List.size_toArray]; omega)
  refine ⟨.ref _, _, I5.laid (t' := s4.toks) (o := .tup xs.reverse) (fun b ob q => Heap.get?_push_of_some _ q) (Nat.le_refl _) ?_, rfl, q _ (I5.hok.fresh (Nat.le_refl _))⟩
  exact ⟨by rw [List.length_reverse]; exact hz, its.reverse, r.reverse, ⟨_, Heap.get?_push_size _ rfl, rfl, _, rfl⟩⟩
theorem pe_or' {t1 t2 : TE} (h1 : PE X e t1) (h2 : PE X e t2) : PE X e (fun σ H Q => t1 σ H Q ∨ t2 σ H Q) := ⟨fun pins s σ H Q I h => h.elim (h1.run pins s σ H Q I) (h2.run pins s σ H Q I)⟩
theorem xe_rev {k : Nat} {p1 p2 p3 pos : Pos} (he : PE X e (tr X.K Γ c)) : PE X (.Subscript e (.Slice none none (some (.UnaryOp .USub (.Constant (.int 1) k p1) p2)) p3) pos) (tr X.K Γ (.rev c)) :=
  pe_w (pe_or' (pe_revT he) (pe_revL he)) fun σ H Q ⟨α, env, S, d, S', ok, en, e, k⟩ => by
    simp only [ev, Option.bind_eq_some_iff] at e
    obtain ⟨⟨d1, S1⟩, e1, e2⟩ := e
    have lst : isTup d1 = false → (seqOf S1 d1).map (fun xs => alloc S1 xs.reverse) = some (d, S') → tRevL X.K (tr X.K Γ c) σ H Q := fun nt e2 => by
      simp only [Option.map_eq_some_iff, alloc, Prod.mk.injEq] at e2
      obtain ⟨xs, h1, rfl, rfl⟩ := e2
      refine ⟨α, env, S, d1, S1, ok, en, e1, fun α1 H1 v1 x1 ok1 r1 => ?_⟩
      obtain ⟨a, vs, rfl, rs, z⟩ := seq_of ok1 r1 h1
      obtain ⟨ws, z1, z2⟩ := seq_lst ok1 r1 h1 nt
      exact ⟨a, ws, rfl, z1, fun p hp => go_new ok1 hp z2.reverse fun α2 H2 v2 x2 ok2 r2 => k α2 H2 v2 (x1.trans x2) ok2 r2⟩
    cases d1 with
    | tup xs =>
      simp only [revD, Option.some.injEq, Prod.mk.injEq] at e2
      obtain ⟨rfl, rfl⟩ := e2
      refine .inl ⟨α, env, S, _, S1, ok, en, e1, fun α1 H1 v1 x1 ok1 r1 => ?_⟩
      cases r1 with
      | tup h1 l q => exact ⟨_, _, rfl, h1, fun p hp => go_tup ok1 hp (Rps.reverse ⟨l, q⟩) fun α2 H2 v2 x2 ok2 r2 => k α2 H2 v2 (x1.trans x2) ok2 r2⟩
    | ref j => exact .inr (lst rfl e2)
    | ro ns => exact .inr (lst rfl e2)
    | _ => simp [revD, seqOf] at e2
end
end Ix

namespace Ix
open PySem L2
/-! ### comprehensions -/
theorem seqOf_mono {S T : Hd} {d : D} {xs : List D} (h : seqOf S d = some xs) : seqOf (S ++ T) d = some xs := by
  cases d with
  | ref k =>
    simp only [seqOf] at h ⊢
    split at h
    · rename_i ys e
      rw [List.getElem?_append_left (List.getElem?_eq_some_iff.mp e).1, e]
      exact h
    · cases h
  | tup xs => exact h
  | ro xs => exact h
  | _ => simp [seqOf] at h
theorem items_mono {k : Ik} {S T : Hd} {ds its : List D} (h : items k ds S = some its) : items k ds (S ++ T) = some its := by
  cases k with
  | seq =>
    match ds, h with
    | [x], h => exact seqOf_mono h
    | [], h => simp [items] at h
    | _ :: _ :: _, h => simp [items] at h
  | range1 =>
    match ds, h with
    | [x], h =>
      cases x with
      | int j => exact h
      | _ => simp [items] at h
    | [], h => simp [items] at h
    | x :: _ :: _, h => cases x <;> simp [items] at h
  | range2 =>
    match ds, h with
    | [x, y], h =>
      cases x with
      | int j =>
        cases y with
        | int j => exact h
        | _ => simp [items] at h
      | _ => cases y <;> simp [items] at h
    | [], h => simp [items] at h
    | [x], h => cases x <;> simp [items] at h
    | x :: y :: _ :: _, h => cases x <;> cases y <;> simp [items] at h
  | chars =>
    match ds, h with
    | [x], h =>
      cases x with
      | str j => exact h
      | _ => simp [items] at h
    | [], h => simp [items] at h
    | x :: _ :: _, h => cases x <;> simp [items] at h
  | enum =>
    match ds, h with
    | [x], h =>
      simp only [items, Option.map_eq_some_iff] at h ⊢
      obtain ⟨xs, h1, h2⟩ := h
      exact ⟨xs, seqOf_mono h1, h2⟩
    | [], h => simp [items] at h
    | _ :: _ :: _, h => simp [items] at h
  | zip =>
    match ds, h with
    | [x, y], h =>
      simp only [items] at h ⊢
      split at h
      · rename_i ht
        rw [if_pos ht]
        simp only [Option.bind_eq_some_iff, Option.map_eq_some_iff] at h
        obtain ⟨xs, h1, ys, h2, rfl⟩ := h
        rw [seqOf_mono h1, seqOf_mono h2]
        rfl
      · cases h
    | [], h => simp [items] at h
    | [x], h => simp [items] at h
    | x :: y :: _ :: _, h => simp [items] at h
section
variable {X : Cx} {Γ : Fs} {elt tg iter : Expr} {ifs : List Expr} {scope : Scope} {own : List (Str × Nat)} {pos : Pos} {k : Ik} {cs ci ce : E} {g : G}
theorem w_lc {σ : L2.St} {H : Hp} {Q : VK} {vs : List Nat} (h : tr X.K Γ (.lc k cs g ci ce vs) σ H Q) : tLc (trI X.K Γ k cs) (trG X.K g) (trT X.K Γ ci) (tr X.K Γ ce) vs σ H Q := by
  obtain ⟨α, env, S, d, S', ok, en, e, kn⟩ := h
  simp only [ev] at e
  split at e
  · rename_i hgo
    simp only [Option.bind_eq_some_iff, Option.map_eq_some_iff, Prod.mk.injEq] at e
    obtain ⟨⟨d1, S1⟩, e1, ds, e2, its, e3, S2, e4, rfl, rfl⟩ := e
    cases argsOf_some e2
    refine ⟨α, env, S, ds, S1, its, ok, en, e1, e3, fun α1 H1 J G Y x1 ok1 w hG hY Dl hD => ?_⟩
    have okD : Ok X.K (α1 ++ [Dl]) (S1 ++ [.lst []]) (upd H1 Dl (.lst [])) := ok1.snoc hD (o := .lst []) (u := .lst []) Rps.nil
    have xD : Xt X.K α1 H1 (α1 ++ [Dl]) (upd H1 Dl (.lst [])) := Xt.snoc hD
    have kD : (α1 ++ [Dl])[S1.length]? = some Dl := by rw [← ok1.len]; simp
    refine lc_it w (fun i H2 => ∃ α2 S3, Ok X.K α2 S3 H2 ∧ Xt X.K (α1 ++ [Dl]) (upd H1 Dl (.lst [])) α2 H2 ∧ items k ds S3 = some its ∧
      loopH (fun d S1' => (asgG g d (wipeD env vs)).bind fun env1 => (tst (ev Γ ci env1 S1')).bind fun t => if t.1 = true then (ev Γ ce env1 t.2).bind fun y => pushD S1.length y.1 y.2 else some t.2)
        (fun S1' => items k ds S1' = some its) (its.drop i) S3 = some S2) ⟨_, _, okD, Xt.refl, items_mono e3, e4⟩ ?_ ?_ ?_
    · rintro i H2 hi ⟨α2, S3, ok2, x2, it2, _⟩
      exact hG α2 S3 H2 (xD.trans x2) ok2 it2
    · rintro i x H2 H3 hi ⟨α2, S3, ok2, x2, it2, lp⟩ y
      obtain ⟨dx, q1, x3, ok3, r3⟩ := hY i α2 S3 H2 x H3 (xD.trans x2) ok2 it2 hi y
      have hdrop : its.drop i = dx :: its.drop (i + 1) := by
        rw [List.drop_eq_getElem_cons hi]
        rw [List.getElem?_eq_getElem hi] at q1
        rw [Option.some.inj q1]
      rw [hdrop] at lp
      simp only [loopH, Option.bind_eq_some_iff] at lp
      obtain ⟨S4, ⟨env1, a1, ⟨b, S5⟩, t1, f1⟩, lp⟩ := lp
      split at lp
      · rename_i st4
        have en3 : En X.K α2 H3 (wipeD env vs) (wipe σ vs) := wipeD_En (en.mono (x1.trans (xD.trans (x2.trans x3)))) vs
        refine ⟨α2, _, dx, env1, r3, en3, a1, fun σ2 en4 w4 => ⟨by rw [w4 vs hgo]; exact wipe_wipe fun _ h => h, ?_⟩⟩
        refine ⟨α2, env1, S3, b, S5, ok3, en4, t1, fun α5 H5 x5 ok5 => ?_⟩
        cases b with
        | true =>
          rw [if_pos rfl] at f1 ⊢
          simp only [Option.bind_eq_some_iff] at f1
          obtain ⟨⟨dy, S6⟩, f1, f2⟩ := f1
          refine ⟨α5, env1, S5, dy, S6, ok5, en4.mono x5, f1, fun α6 H6 vy x6 ok6 r6 => ?_⟩
          simp only [pushD] at f2
          split at f2
          · rename_i acc e7
            split at f2
            · rename_i hz
              simp only [Option.some.injEq] at f2
              subst f2
              have xx := x2.trans (x3.trans (x5.trans x6))
              have kk := xx.pre _ _ kD
              obtain ⟨a', vacc, e8, e9, e10, e11⟩ := ok6.lst e7 (.ref kk)
              cases e8
              exact ⟨vacc, e10, most_lt (by rw [e11.len]; exact hz), α6, _, ok6.write kk e10 (o := .lst (acc ++ [dy])) (u := .lst (vacc ++ [vy])) (e11.append (Rps.one r6)), xx.trans (Xt.write e10), st4, lp⟩
            · cases f2
          · cases f2
        | false =>
          rw [if_neg Bool.false_ne_true] at f1 ⊢
          simp only [Option.some.injEq] at f1
          subst f1
          exact ⟨α5, _, ok5, x2.trans (x3.trans x5), st4, lp⟩
      · cases lp
    · rintro H2 ⟨α2, S3, ok2, x2, it2, lp⟩
      rw [List.drop_length] at lp
      simp only [loopH, Option.some.injEq] at lp
      subst lp
      exact kn α2 H2 _ (x1.trans (xD.trans x2)) ok2 (.ref (x2.pre _ _ kD))
  · cases e
theorem tYes_of {K : PySem.W.Frag} {σ : L2.St} {H : Hp} {Q : Bool → Hp → Prop} (h : trT K Γ (.c (.bl true)) σ H Q) : tYes σ H Q := by
  obtain ⟨α, env, S, b, S', ok, en, e, k⟩ := h
  simp only [tst, ev, Option.bind_some, tru, Option.map_some, Option.some.injEq, Prod.mk.injEq] at e
  obtain ⟨rfl, rfl⟩ := e
  exact k α H Xt.refl ok
theorem xts_nil : PTs X [] (trT X.K Γ (.c (.bl true))) := ⟨fun pins s σ H Q I h => pts_nil.run pins s σ H Q I (tYes_of h)⟩
theorem xts_one {c : Expr} (h : PT X c (trT X.K Γ ci)) : PTs X [c] (trT X.K Γ ci) := pts_one h
theorem xe_lc (hc : X.calm = true) (hN : X.N.Nodup) (hi : PI X tg iter (trI X.K Γ k cs)) (N0 : List Str) (sc0 : Scope) (ok : blkC N0 sc0 scope own = true)
    (hg : ∀ (s : Shared) (H : Hp) (C : Addr) (cl : List (Str × Addr)) (fp : List Addr), PG (X.blk s H scope (compEnvC scope cl C X.env) fp) tg (trG X.K g)) (ht : ∀ (s : Shared) (H : Hp) (C : Addr) (cl : List (Str × Addr)) (fp : List Addr), PTs (X.blk s H scope (compEnvC scope cl C X.env) fp) ifs (trT X.K Γ ci))
    (he : ∀ (s : Shared) (H : Hp) (C : Addr) (cl : List (Str × Addr)) (fp : List Addr), PE (X.blk s H scope (compEnvC scope cl C X.env) fp) elt (tr X.K Γ ce)) (hs : ∀ x, foldedSetIterable iter X.env x = pure x := by intro _; rfl) (hN0 : X.N = N0 := by rfl) (hs0 : X.env.scope = sc0 := by rfl) :
    PE X (.ListComp elt [⟨tg, iter, ifs, 0⟩] scope pos) (tr X.K Γ (.lc k cs g ci ce (own.map (·.2)))) :=
  pe_w (pe_lc hc hN hi (blkOk_by (by rw [hN0, hs0]; exact ok)) hg ht he hs) fun σ H Q h => w_lc h
theorem xs_setlc {i : Nat} {y : Str} {py spos : Pos} (hc : X.calm = true) (hN : X.N.Nodup) (hy : X.N[i]? = some y) (hyl : X.env.scope.names.lookup y = some .local)
    (hsw : swapsWith (.ListComp elt [⟨tg, iter, ifs, 0⟩] scope pos) (some (.Name y py)) spos.line X.env = pure true) (hi : PI X tg iter (trI X.K Γ k cs)) (N0 : List Str) (sc0 : Scope) (ok : blkC N0 sc0 scope own = true)
    (hg : ∀ (s : Shared) (H : Hp) (C : Addr) (cl : List (Str × Addr)) (fp : List Addr), PG (X.blk s H scope (compEnvC scope cl C X.env) fp) tg (trG X.K g)) (ht : ∀ (s : Shared) (H : Hp) (C : Addr) (cl : List (Str × Addr)) (fp : List Addr), PTs (X.blk s H scope (compEnvC scope cl C X.env) fp) ifs (trT X.K Γ ci))
    (he : ∀ (s : Shared) (H : Hp) (C : Addr) (cl : List (Str × Addr)) (fp : List Addr), PE (X.blk s H scope (compEnvC scope cl C X.env) fp) elt (tr X.K Γ ce)) (hs : ∀ x, foldedSetIterable iter X.env x = pure x := by intro _; rfl) (hN0 : X.N = N0 := by rfl) (hs0 : X.env.scope = sc0 := by rfl) :
    PS X (.Assign [.Name y py] (.ListComp elt [⟨tg, iter, ifs, 0⟩] scope pos) spos) (trS X.K Γ (.asg (.name i) (.lc k cs g ci ce (own.map (·.2))))) :=
  ps_w (ps_setLc hc hN hy hyl hsw hi (blkOk_by (by rw [hN0, hs0]; exact ok)) hg ht he hs) fun D σ H ⟨α, env, S, o, env', S', ok, en, e, kn⟩ => by
    simp only [ex, Option.bind_eq_some_iff, Option.map_eq_some_iff, Prod.mk.injEq, asgG, Option.some.injEq] at e
    obtain ⟨⟨d, S1⟩, e1, _, rfl, rfl, rfl, rfl⟩ := e
    exact w_lc ⟨α, env, S, d, S1, ok, en, e1, fun α1 H1 v x1 ok1 r1 => kn α1 H1 x1 ok1 _ ((en.mono x1).set i r1)⟩
end

/-! ### statements -/
section
variable {X : Cx} {Γ : Fs} {st : Stmt} {rest a b : List Stmt} {e tg : Expr} {c1 c2 : Sx} {ce cs : E} {pos : Pos} {g : G}
theorem xs_nil : PSs X [] (trS X.K Γ .skip) := pss_w pss_nil fun D σ H ⟨α, env, S, o, env', S', ok, en, e, k⟩ => by
  simp only [ex, Option.some.injEq, Prod.mk.injEq] at e
  obtain ⟨rfl, rfl, rfl⟩ := e
  exact k α H Xt.refl ok σ en
theorem xs_cons (h1 : PS X st (trS X.K Γ c1)) (h2 : PSs X rest (trS X.K Γ c2)) : PSs X (st :: rest) (trS X.K Γ (.seq c1 c2)) :=
  pss_w (pss_cons h1 h2) fun D σ H ⟨α, env, S, o, env', S', ok, en, e, k⟩ => by
    simp only [ex, Option.bind_eq_some_iff] at e
    obtain ⟨⟨o1, env1, S1⟩, e1, e2⟩ := e
    refine ⟨α, env, S, o1, env1, S1, ok, en, e1, fun α1 H1 x1 ok1 => ?_⟩
    cases o1 with
    | nx => exact fun σ1 en1 => ⟨α1, env1, S1, o, env', S', ok1, en1, e2, fun α2 H2 x2 ok2 => k α2 H2 (x1.trans x2) ok2⟩
    | _ =>
      simp only [Option.some.injEq, Prod.mk.injEq] at e2
      obtain ⟨rfl, rfl, rfl⟩ := e2
      exact k α1 H1 x1 ok1
theorem xs_one (h1 : PS X st (trS X.K Γ c1)) : PSs X [st] (trS X.K Γ c1) := pss_one h1
theorem xs_pass : PS X (.Pass pos) (trS X.K Γ .skip) := ps_w ps_pass fun D σ H ⟨α, env, S, o, env', S', ok, en, e, k⟩ => by
  simp only [ex, Option.some.injEq, Prod.mk.injEq] at e
  obtain ⟨rfl, rfl, rfl⟩ := e
  exact k α H Xt.refl ok σ en
theorem xs_brk : PS X (.Break pos) (trS X.K Γ .brk) := ps_w ps_break fun D σ H ⟨α, env, S, o, env', S', ok, en, e, k⟩ => by
  simp only [ex, Option.some.injEq, Prod.mk.injEq] at e
  obtain ⟨rfl, rfl, rfl⟩ := e
  exact k α H Xt.refl ok σ en
theorem xs_cont : PS X (.Continue pos) (trS X.K Γ .cont) := ps_w ps_continue fun D σ H ⟨α, env, S, o, env', S', ok, en, e, k⟩ => by
  simp only [ex, Option.some.injEq, Prod.mk.injEq] at e
  obtain ⟨rfl, rfl, rfl⟩ := e
  exact k α H Xt.refl ok σ en
theorem xs_stuck : PS X st (trS X.K Γ .stuck) := ps_w ps_never fun D σ H ⟨α, env, S, o, env', S', ok, en, e, k⟩ => by simp [ex] at e
theorem xs_drop (he : PE X e (tr X.K Γ ce)) (hs : swapsWith e none pos.line X.env = pure false := by rfl) : PS X (.Expr e pos) (trS X.K Γ (.drop ce)) := ps_w (ps_expr he hs) fun D σ H ⟨α, env, S, o, env', S', ok, en, e, k⟩ => by
  simp only [ex, Option.map_eq_some_iff, Prod.mk.injEq] at e
  obtain ⟨⟨d, S1⟩, e1, rfl, rfl, rfl⟩ := e
  exact ⟨α, env, S, d, S1, ok, en, e1, fun α1 H1 v x1 ok1 r1 => k α1 H1 x1 ok1 σ (en.mono x1)⟩
theorem xs_ret (he : PE X e (tr X.K Γ ce)) : PS X (.Return (some e) pos) (trS X.K Γ (.ret ce)) := ps_w (ps_ret he) fun D σ H ⟨α, env, S, o, env', S', ok, en, e, k⟩ => by
  simp only [ex, Option.map_eq_some_iff, Prod.mk.injEq] at e
  obtain ⟨⟨d, S1⟩, e1, rfl, rfl, rfl⟩ := e
  exact ⟨α, env, S, d, S1, ok, en, e1, fun α1 H1 v x1 ok1 r1 => k α1 H1 x1 ok1 v r1⟩
theorem xs_retN : PS X (.Return none pos) (trS X.K Γ .retN) := ps_w ps_retN fun D σ H ⟨α, env, S, o, env', S', ok, en, e, k⟩ => by
  simp only [ex, Option.some.injEq, Prod.mk.injEq] at e
  obtain ⟨rfl, rfl, rfl⟩ := e
  exact k α H Xt.refl ok _ .non
theorem xs_if {c : Expr} (hc : PT X c (trT X.K Γ ce)) (ha : PSs X a (trS X.K Γ c1)) (hb : PSs X b (trS X.K Γ c2)) : PS X (.If c a b pos) (trS X.K Γ (.ite ce c1 c2)) :=
  ps_w (ps_if hc ha hb) fun D σ H ⟨α, env, S, o, env', S', ok, en, e, k⟩ => by
    simp only [ex, Option.bind_eq_some_iff] at e
    obtain ⟨⟨t, S1⟩, e1, e2⟩ := e
    refine ⟨α, env, S, t, S1, ok, en, e1, fun α1 H1 x1 ok1 => ?_⟩
    cases t with
    | true =>
      rw [if_pos rfl] at e2 ⊢
      exact ⟨α1, env, S1, o, env', S', ok1, en.mono x1, e2, fun α2 H2 x2 ok2 => k α2 H2 (x1.trans x2) ok2⟩
    | false =>
      rw [if_neg Bool.false_ne_true] at e2 ⊢
      exact ⟨α1, env, S1, o, env', S', ok1, en.mono x1, e2, fun α2 H2 x2 ok2 => k α2 H2 (x1.trans x2) ok2⟩
theorem xs_asg (he : PE X e (tr X.K Γ ce)) (hg : PG X tg (trG X.K g)) (hs : swapsWithSole [tg] e pos.line X.env = pure false := by rfl) (hw : swappedStores [tg] e X.env = pure none := by rfl)
    (h1 : (assignEach [tg] X.env).map (·.2) = [assign tg X.env] := by rfl) : PS X (.Assign [tg] e pos) (trS X.K Γ (.asg g ce)) :=
  ps_w (ps_asg he hg hs hw h1) fun D σ H ⟨α, env, S, o, env', S', ok, en, e, k⟩ => by
    simp only [ex, Option.bind_eq_some_iff, Option.map_eq_some_iff, Prod.mk.injEq] at e
    obtain ⟨⟨d, S1⟩, e1, env1, e2, rfl, rfl, rfl⟩ := e
    exact ⟨α, env, S, d, S1, ok, en, e1, fun α1 H1 v x1 ok1 r1 => ⟨α1, env, d, env1, r1, en.mono x1, e2, fun σ' en' _ => k α1 H1 x1 ok1 σ' en'⟩⟩
theorem xs_set (i : Nat) {x : Str} {pos' : Pos} (hN : X.N.Nodup) (he : PE X e (tr X.K Γ ce)) (hi : X.N[i]? = some x := by rfl) (hx : Loc X.env.scope x := by first | exact Or.inl rfl | exact Or.inr rfl) (hs : swapsWith e (some (.Name x pos')) pos.line X.env = pure false := by rfl) (hf : X.fn x = true ∨ X.env.scope.names.lookup x = some .local := by first | exact .inl rfl | exact .inr rfl | assumption) :
    PS X (.Assign [.Name x pos'] e pos) (trS X.K Γ (.asg (.name i) ce)) :=
  ps_w (ps_set hN hi hx he hs hf) fun D σ H ⟨α, env, S, o, env', S', ok, en, e, k⟩ => by
    simp only [ex, Option.bind_eq_some_iff, Option.map_eq_some_iff, Prod.mk.injEq, asgG, Option.some.injEq] at e
    obtain ⟨⟨d, S1⟩, e1, env1, rfl, rfl, rfl, rfl⟩ := e
    exact ⟨α, env, S, d, S1, ok, en, e1, fun α1 H1 v x1 ok1 r1 => k α1 H1 x1 ok1 _ ((en.mono x1).set i r1)⟩
def rSet (K : PySem.W.Frag) : TSet := fun o i v H Q => ∃ α S d1 d2 d3 S', Ok K α S H ∧ Rp K α H d1 o ∧ Rp K α H d2 i ∧ Rp K α H d3 v ∧ setD d1 d2 d3 S = some S' ∧ ∀ α' H', Xt K α H α' H' → Ok K α' S' H' → Q H'
theorem p_set : PSet X (rSet X.K) := by
  intro pins s σ H o i v ov iv u Q I ro ri rv ⟨α, S, d1, d2, d3, S', ok, r1, r2, r3, e, k⟩
  cases d1 with
  | ref kk =>
    cases d2 with
    | int j =>
      simp only [setD] at e
      split at e
      · rename_i xs e1
        simp only [Option.map_eq_some_iff] at e
        obtain ⟨m, e2, rfl⟩ := e
        obtain ⟨p, vs, rfl, e3, e4, e5⟩ := ok.lst e1 r1
        cases r2
        exact set_list pins s σ H _ _ v ov iv u Q I ro ri rv ⟨p, vs, j, m, rfl, rfl, e4, by rw [e5.len]; exact e2, k α _ (Xt.write e4) (ok.write e3 e4 (o := .lst (xs.set m d3)) (u := .lst (vs.set m v)) (e5.set m r3))⟩
      · cases e
    | _ => simp [setD] at e
  | _ => simp [setD] at e
theorem xs_setix {o i : Expr} {co ci : E} {p : Pos} (he : PE X e (tr X.K Γ ce)) (ho : PE X o (tr X.K Γ co)) (hi : PE X i (tr X.K Γ ci)) (hs : swapsWithSole [.Subscript o i p] e pos.line X.env = pure false := by rfl) (hw : swappedStores [.Subscript o i p] e X.env = pure none := by rfl)
    (h1 : (assignEach [.Subscript o i p] X.env).map (·.2) = [assign (.Subscript o i p) X.env] := by rfl)
    (ha : ∀ v, assign (.Subscript o i p) X.env v = (do
      let ov ← holding [v] (eval o X.env)
      let iv ← holding [v, ov] (eval i X.env)
      standAt p
      holding [v, ov, iv] (setItem ov iv v)
      release [v, ov, iv] []) := by intro _; rfl) : PS X (.Assign [.Subscript o i p] e pos) (trS X.K Γ (.setix co ci ce)) :=
  ps_w (ps_asg he (pg_sub ho hi p_set ha) hs hw h1) fun D σ H ⟨α, env, S, oo, env', S', ok, en, e, k⟩ => by
    simp only [ex, Option.bind_eq_some_iff, Option.map_eq_some_iff, Prod.mk.injEq] at e
    obtain ⟨⟨d, S1⟩, e1, ⟨d2, S2⟩, e2, ⟨d3, S3⟩, e3, S4, e4, rfl, rfl, rfl⟩ := e
    exact ⟨α, env, S, d, S1, ok, en, e1, fun α1 H1 v x1 ok1 r1 => ⟨α1, env, S1, d2, S2, ok1, en.mono x1, e2, fun α2 H2 v2 x2 ok2 r2 => ⟨α2, env, S2, d3, S3, ok2, en.mono (x1.trans x2), e3, fun α3 H3 v3 x3 ok3 r3 =>
      ⟨α3, S3, d2, d3, d, S4, ok3, r2.mono x3, r3, r1.mono (x2.trans x3), e4, fun α4 H4 x4 ok4 => k α4 H4 (x1.trans (x2.trans (x3.trans x4))) ok4 σ (en.mono (x1.trans (x2.trans (x3.trans x4))))⟩⟩⟩⟩
theorem xs_for {k : Ik} {iter : Expr} {body : List Stmt} (hp : PassesOwn (model X.prog X.w) X.A X.env X.xe) (hc : X.calm = true) (hi : PI X tg iter (trI X.K Γ k cs)) (hg : PG X tg (trG X.K g)) (hb : PSs X body (trS X.K Γ c1))
    (hs : ∀ x, foldedSetIterable iter X.env x = pure x := by intro _; rfl) : PS X (.For tg iter body [] pos) (trS X.K Γ (.for_ k cs g c1)) :=
  ps_w (ps_for hp hc hi hg hb hs) fun D σ H ⟨α, env, S, o, env', S', ok, en, e, kn⟩ => by
    simp only [ex, Option.bind_eq_some_iff] at e
    obtain ⟨⟨d1, S1⟩, e1, ds, e2, its, e3, e4⟩ := e
    cases argsOf_some e2
    refine ⟨α, env, S, ds, S1, its, ok, en, e1, e3, fun α1 H1 J G Y x1 ok1 w hG hY => ?_⟩
    refine for_it w (fun i σ2 H2 => ∃ α2 env2 S2, Ok X.K α2 S2 H2 ∧ En X.K α2 H2 env2 σ2 ∧ Xt X.K α1 H1 α2 H2 ∧ items k ds S2 = some its ∧
      loopS (fun d env1 S1' => (asgG g d env1).bind fun env2 => ex Γ c1 env2 S1') (fun S1' => items k ds S1' = some its) (its.drop i) env2 S2 = some (o, env', S')) ⟨α1, env, S1, ok1, en.mono x1, Xt.refl, e3, e4⟩ ?_ ?_ ?_
    · rintro i σ2 H2 hi ⟨α2, env2, S2, ok2, en2, x2, it2, _⟩
      exact hG α2 S2 H2 x2 ok2 it2
    · rintro i x σ2 H2 H3 hi ⟨α2, env2, S2, ok2, en2, x2, it2, lp⟩ y
      obtain ⟨dx, q1, x3, ok3, r3⟩ := hY i α2 S2 H2 x H3 x2 ok2 it2 hi y
      have hdrop : its.drop i = dx :: its.drop (i + 1) := by
        rw [List.drop_eq_getElem_cons hi]
        rw [List.getElem?_eq_getElem hi] at q1
        rw [Option.some.inj q1]
      rw [hdrop] at lp
      simp only [loopS, Option.bind_eq_some_iff] at lp
      obtain ⟨⟨o3, env3, S3⟩, ⟨env4, a1, f1⟩, lp⟩ := lp
      refine ⟨α2, env2, dx, env4, r3, en2.mono x3, a1, fun σ4 en4 _ => ⟨α2, env4, S2, o3, env3, S3, ok3, en4, f1, fun α5 H5 x5 ok5 => ?_⟩⟩
      have xx := x1.trans (x2.trans (x3.trans x5))
      cases o3 with
      | nx =>
        simp only at lp
        split at lp
        · rename_i st4
          exact fun σ5 en5 => ⟨α5, env3, S3, ok5, en5, x2.trans (x3.trans x5), st4, lp⟩
        · cases lp
      | cont =>
        simp only at lp
        split at lp
        · rename_i st4
          exact fun σ5 en5 => ⟨α5, env3, S3, ok5, en5, x2.trans (x3.trans x5), st4, lp⟩
        · cases lp
      | brk =>
        simp only [Option.some.injEq, Prod.mk.injEq] at lp
        obtain ⟨rfl, rfl, rfl⟩ := lp
        exact kn α5 H5 xx ok5
      | ret d =>
        simp only [Option.some.injEq, Prod.mk.injEq] at lp
        obtain ⟨rfl, rfl, rfl⟩ := lp
        exact kn α5 H5 xx ok5
    · rintro σ2 H2 ⟨α2, env2, S2, ok2, en2, x2, it2, lp⟩
      rw [List.drop_length] at lp
      simp only [loopS, Option.some.injEq, Prod.mk.injEq] at lp
      obtain ⟨rfl, rfl, rfl⟩ := lp
      exact kn α2 H2 (x1.trans x2) ok2 σ2 en2
end

/-! ### a def -/
section
variable {P : Program} {w : World} {K : PySem.W.Frag} {mg : Str → Option Value} {base : Heap}
theorem start_En {α : List Addr} {H : Hp} {ds : List D} {vs : List V} (r : Rps K α H ds vs) (N : List Str) (m : Nat) (hm : N.length = m) : En K α H (ds.map some ++ List.replicate (m - ds.length) none) (L2.start N vs) := by
  refine ⟨by simp [L2.start, r.len, hm], fun i d h => ?_⟩
  unfold L2.start
  by_cases hi : i < ds.length
  · rw [List.getElem?_append_left (by simpa using hi), List.getElem?_map] at h
    rw [List.getElem?_eq_getElem hi] at h
    obtain ⟨v, h1, h2⟩ := r.get (List.getElem?_eq_getElem hi)
    simp only [Option.map_some, Option.some.injEq] at h
    subst h
    exact ⟨v, by rw [List.getElem?_append_left (by rw [List.length_map, r.len]; exact hi), List.getElem?_map, h1]; rfl, h2⟩
  · rw [List.getElem?_append_right (by simpa using hi), List.getElem?_replicate] at h
    split at h <;> cases h
theorem run_succ {T : Nat → Option Fd} {n f : Nat} {ds : List D} {S : Hd} {r : D × Hd} {F : Fd} (hT : T f = some F) (h : run T (n + 1) f ds S = some r) :
    ds.length = F.np ∧ outD (ex (run T n) F.body (ds.map some ++ List.replicate (F.m - ds.length) none) S) = some r := by
  simp only [run_step, hT, Option.bind_some] at h
  split at h
  · exact ⟨by assumption, h⟩
  · cases h
theorem fn_okA {T : Nat → Option Fd} {n f : Nat} {x : Str} {ps N : List Str} {st : Stmt} {fa : Addr} {fd : FuncData} {F : Fd} (hF : FunA K x st fa fd) (S : FnScope N ps (defScope st)) (hT : T f = some F) (hnp : ps.length = F.np) (hm : N.length = F.m)
    (der : ∀ (cdv : Value) (A : Around) (outer : List Env) (s : Shared) (H : Hp) (E : XK), RoomG n (A.deeper (PyProof.Rows.envOfC x (defScope st) s.heap.objs.size fa cdv)) →
      PSs (cxOf CX0 P w K mg base N x (defScope st) fa cdv A outer s H E).nox (defBody st) (trS K (run T n) F.body)) :
    FnG P w K mg base (n + 1) fa fd ps (spF K (run T (n + 1)) f) := by
  refine fnG_of hF S (fun vs H Q E h => ?_) fun cdv A outer s H vs Q E hr h => ?_
  · obtain ⟨α, S0, ds, d, S', ok, rs, e, _⟩ := h
    rw [rs.len, (run_succ hT e).1, hnp]
  · obtain ⟨α, S0, ds, d, S', ok, rs, e, k⟩ := h
    refine ⟨_, der cdv A outer s H E hr, ?_⟩
    have h2 := (run_succ hT e).2
    unfold outD at h2
    simp only [Option.bind_eq_some_iff] at h2
    obtain ⟨⟨o, env', S1⟩, e1, e2⟩ := h2
    refine ⟨α, _, S0, o, env', S1, ok, start_En rs N F.m hm, e1, fun α1 H1 x1 ok1 => ?_⟩
    cases o with
    | nx =>
      simp only [Option.some.injEq, Prod.mk.injEq] at e2
      obtain ⟨rfl, rfl⟩ := e2
      exact fun σ' _ => k α1 H1 _ x1 ok1 .non
    | ret d' =>
      simp only [Option.some.injEq, Prod.mk.injEq] at e2
      obtain ⟨rfl, rfl⟩ := e2
      exact fun v r => k α1 H1 v x1 ok1 r
    | _ => cases e2
theorem fn_ok {T : Nat → Option Fd} {n f : Nat} {x : Str} {ps N : List Str} {st : Stmt} {fa : Addr} {fd : FuncData} {F : Fd} (hF : Fun K x x st fa fd) (S : FnScope N ps (defScope st)) (hT : T f = some F) (hnp : ps.length = F.np) (hm : N.length = F.m)
    (der : ∀ (cdv : Value) (A : Around) (outer : List Env) (s : Shared) (H : Hp) (E : XK), RoomG n (A.deeper (PyProof.Rows.envOfC x (defScope st) s.heap.objs.size fa cdv)) →
      PSs (cxOf CX0 P w K mg base N x (defScope st) fa cdv A outer s H E).nox (defBody st) (trS K (run T n) F.body)) :
    FnG P w K mg base (n + 1) fa fd ps (spF K (run T (n + 1)) f) := fn_okA (fun_A hF) S hT hnp hm der
theorem fn_ok0A {T : Nat → Option Fd} {f : Nat} {x : Str} {ps N : List Str} {st : Stmt} {fa : Addr} {fd : FuncData} (hF : FunA K x st fa fd) (S : FnScope N ps (defScope st)) : FnG P w K mg base 0 fa fd ps (spF K (run T 0) f) := by
  have no : ∀ vs H Q E, ¬ spF K (run T 0) f vs H Q E := fun vs H Q E ⟨α, S0, ds, d, S', ok, rs, e, _⟩ => by simp [run_zero] at e
  exact ⟨fun vs H Q E h => absurd h (no vs H Q E), fun _ _ _ _ h => absurd h (no _ _ _ _)⟩
theorem fn_ok0 {T : Nat → Option Fd} {f : Nat} {x : Str} {ps N : List Str} {st : Stmt} {fa : Addr} {fd : FuncData} (hF : Fun K x x st fa fd) (S : FnScope N ps (defScope st)) : FnG P w K mg base 0 fa fd ps (spF K (run T 0) f) := fn_ok0A (fun_A hF) S
end
end Ix

namespace Ix
open PySem PySem.Spec PyProof.Rows L2
/-! ### enumerate over a tuple -/
/-- the tuple at a, each item beside its number in a new pair -/
def ItnT (K : PySem.W.Frag) (a : Addr) : It where
  go := fun i H => ∃ (vs : List V) (v : V), SqT K H a vs ∧ vs[i]? = some v
  yld := fun i H u H' => ∃ p v, u = .ref p ∧ H p = none ∧ H' = upd H p (.tup [.int (i : Nat), v]) ∧ ∀ vs, SqT K H a vs → vs[i]? = some v
  stop := fun i H => ∃ vs : List V, SqT K H a vs ∧ vs.length ≤ i
def enSt (a e it : Addr) (i : Nat) (h : Heap) : Prop := (∃ last, IsEnum h e it ((i : Nat) : Int) last) ∧ h.IsTupleIter it a i ∧ e ≠ it ∧ e ≠ a ∧ a ≠ it
theorem turn_numT {prog : Program} {wd : World} {F : PySem.W.Frag} {ts : List Expr} {j : Nat} {tp : Pos} (a e it : Addr) :
    Turn prog wd F (.Tuple ts j tp) (ItnT F a) [e, it] e (enSt a e it) where
  mem := List.mem_cons_self
  obj := by
    rintro i h ⟨⟨last, en⟩, ⟨o, ho, hc, hd⟩, _⟩ b hb
    rcases List.mem_cons.mp hb with z | z
    · subst z
      exact ⟨_, en, fun v q => nomatch q⟩
    · rw [List.mem_singleton.mp z]
      exact ⟨o, ho, fun v q => by rw [hd] at q; cases q⟩
  keep := by
    rintro i h h' ⟨⟨last, en⟩, ti, r⟩ k
    exact ⟨⟨last, k e List.mem_cons_self _ en⟩, ti.at fun o q => k it (by simp) o q, r⟩
  item := by
    intro Y hP hw hK hc i pins s σ H E I hf st hg
    subst hP hw hK
    obtain ⟨⟨last, en⟩, ti, n1, n2, n3⟩ := st
    obtain ⟨vs, v, sq, hv⟩ := hg
    obtain ⟨its, rv, p, _⟩ := I.tuple sq
    obtain ⟨u, hu, ru⟩ := rv.get hv
    have le : e < s.heap.objs.size := Heap.lt_size en
    have li : it < s.heap.objs.size := by
      obtain ⟨_, q, _⟩ := ti
      exact Heap.lt_size q
    have hi : i < its.toArray.size := by
      have := (List.getElem?_eq_some_iff.mp hu).1
      simpa using this
    have none1 : Y.A.in1.handled = none := I.ok.hd hc
    refine wpAny_pyNext_enum_itemD (Draws.tuple none1 it a n3 its.toArray) en ⟨ti, p⟩ hi n1 (by simp [n1, n2]) fun x h' tk hx ho hit hT hsz hk => ?_
    have ex : x = u := by
      have : its[i]? = some x := by simpa using hx
      rw [hu] at this
      exact (Option.some.inj this).symm
    subst ex
    refine ⟨_, rfl, wpAny_letOwnedTupleGo_enum (s := { s with heap := h', toks := tk + 1 }) ho fun h2 en2 sb => ?_⟩
    have hT2 : h2.get? s.heap.objs.size = some { cls := .type "tuple", data := .seq #[.int i tk, x] } := (sb.2 _ (Nat.ne_of_gt le)).trans hT
    have new : ObjOk Y.prog Y.w (upd H s.heap.objs.size (.tup [.int (i : Nat), v])) h2 s.heap.objs.size (.tup [.int (i : Nat), v]) := by
      refine ⟨?_, [.int i tk, x], .cons ⟨_, rfl⟩ (.cons ru .nil), ⟨_, hT2, rfl, _, rfl⟩⟩
      show 2 ≤ sizeLine
      decide
    have keepAll : ∀ b o, b ∉ [e, it] → s.heap.get? b = some o → h2.get? b = some o := by
      intro b o hb q
      have b1 : b ≠ e := fun z => hb (by simp [z])
      have b2 : b ≠ it := fun z => hb (by simp [z])
      exact (sb.2 b b1).trans (hk b o b1 b2 q)
    have I1 : Inv Y pins σ (upd H s.heap.objs.size (.tup [.int (i : Nat), v])) { s with heap := h2, toks := tk + 1 } :=
      I.turnedNew (t' := tk + 1) (ch := [e, it]) (fun b o hb q => keepAll b o hb q) hf (Nat.le_refl _) new
    refine ⟨.ref s.heap.objs.size, _, I1, rfl, ⟨_, v, rfl, I.hok.fresh (Nat.le_refl _), rfl, fun ws hw2 => by rw [I.tuple_inj hw2 sq]; exact hv⟩, ⟨⟨x, ?_⟩, hit.1.at fun o q => (sb.2 it (Ne.symm n1)).trans q, n1, n2, n3⟩, ?_⟩
    · rw [show ((i + 1 : Nat) : Int) = (i : Int) + 1 by omega]
      exact en2
    · intro b hb
      have lb : b < s.heap.objs.size := by
        rcases List.mem_cons.mp hb with z | z
        · rw [z]; exact le
        · rw [List.mem_singleton.mp z]; exact li
      rw [upd_ne (Nat.ne_of_lt lb)]
      exact (hf b hb).1
  done := by
    intro Y hP hw hK hc i pins s σ H E I hf st hg
    subst hP hw hK
    obtain ⟨⟨last, en⟩, ti, n1, n2, n3⟩ := st
    obtain ⟨vs, sq, hv⟩ := hg
    obtain ⟨its, rv, p, _⟩ := I.tuple sq
    obtain ⟨f0, f1, f2, f3, f4, f5⟩ := hf it (by simp)
    have hl := rv.length
    have hT : s.TypeIs (.ref e) "enumerate" := ⟨_, en, rfl⟩
    unfold pyNext
    refine wpAny_bind (wpAny_attempt (wpAny_callSpecial?_slot (name := Str.ofString "__next__") hT F.slot_enumerate_next
      (wpAny_call_entry F.slot_enumerate_next hT F.entry_enumerate_next ?_ (F.args_enumerate_next_1 _))))
    show wpAny _ _ (field (.ref e) 2 >>= _) _ _ _
    refine wpAny_bind (wpAny_field en rfl (x := .ref it) rfl ?_)
    refine wpAny_bind (wpAny_nextOf_tuple_end (I.ok.hd hc) ti p (by simp; omega) fun h' x ex hx => ?_)
    obtain ⟨o, ho, hcl⟩ := hx
    refine wpAny_bind (wpAny_isInstance (T := "StopIteration") (b := true) ⟨o, ho, hcl⟩ isSubtype_stop ?_)
    exact wpAny_pure ⟨rfl, I.turned (t' := s.toks) (fun b o hb q => ex b o hb q) f0 f1 f3 f4 f5⟩
  self := fun A i s Q E st h => by
    obtain ⟨⟨last, en⟩, _⟩ := st
    exact wpAny_pyIter_enum en h
/-- enumerate(v) of one argument: its two new objects -/
theorem enum_new1 {v : Value} {o : Obj} {G : Heap → Prop} (B : Begins v o G) :
    Meets (Builtin.«enumerate.__new__» ⟨[.type "enumerate", v], []⟩) (fun _ R s => G s.heap ∧
      R (.ok (.ret (.ref (s.heap.push o).objs.size)))
        { s with heap := (s.heap.push o).push { cls := .type "enumerate", data := .fields #[.none, .bool false, .ref s.heap.objs.size, rawInt 0, .none, .none] } }) :=
  .of_wp fun prog w A R s h => by
    obtain ⟨hp, g, d, tk, os⟩ := s
    obtain ⟨g1, h⟩ := h
    have hsub := sub_enumerate
    have it1 : ∀ {A' : Around} {E : Value → Shared → Prop} {Q : Value → Shared → Prop}, Q (.ref hp.objs.size) ⟨hp.push o, g, d, tk, os⟩ →
        wpAny (model prog w) A' (pyIter v) Q E ⟨hp, g, d, tk, os⟩ := fun q => B.iter prog w _ _ ⟨hp, g, d, tk, os⟩ _ g1 q
    wp_walk using it1
    refine wpAny_stack_any fun st => wpAny_pure ?_
    split
    · rename_i c _ _ _ _ _
      cases (c == Value.type "enumerate") <;> (wp_walk using it1; exact ⟨_, rfl, h⟩)
    · wp_walk using it1
      exact ⟨_, rfl, h⟩
theorem call_enum1 {prog : Program} {w : World} {A : Around} {E : Value → Shared → Prop} {s : Shared} {v : Value} {o : Obj} {G : Heap → Prop} {Q : Value → Shared → Prop} (B : Begins v o G) (g1 : G s.heap)
    (h : ∀ h', IsEnum h' (s.heap.objs.size + 1) s.heap.objs.size 0 .none → h'.get? s.heap.objs.size = some o → h'.objs.size = s.heap.objs.size + 2 →
      (∀ b z, s.heap.get? b = some z → h'.get? b = some z) → Q (.ref (s.heap.objs.size + 1)) { s with heap := h' }) :
    wpAny (model prog w) A (call (.type "enumerate") [v]) Q E s := by
  refine callType_new F.called_enumerate (by decide) (F.typeCall_enumerate_1 _) (F.newCall_enumerate_1 _) (fun obj => F.args_object_init_2 obj _)
    F.entry_enumerate_new (enum_new1 B) ⟨g1, ?_⟩
  have sz : (s.heap.push o).objs.size = s.heap.objs.size + 1 := Heap.size_push ..
  show _ ∧ _
  rw [sz]
  have en : IsEnum ((s.heap.push o).push { cls := .type "enumerate", data := .fields #[.none, .bool false, .ref s.heap.objs.size, rawInt 0, .none, .none] })
      (s.heap.objs.size + 1) s.heap.objs.size 0 .none := by
    have q := Heap.get?_push_size (s.heap.push o) (o := { cls := .type "enumerate", data := .fields #[.none, .bool false, .ref s.heap.objs.size, rawInt 0, .none, .none] }) rfl
    rw [sz] at q
    exact q
  refine ⟨⟨_, en, rfl⟩, h _ en (Heap.get?_push_of_some _ (Heap.get?_push_size _ B.free)) (by rw [Heap.size_push, sz]) fun b z q => ?_⟩
  exact Heap.get?_push_of_some _ (Heap.get?_push_of_some _ q)
def iNum (K : PySem.W.Frag) (ta : TA) : TI := fun σ H R => ta σ H fun us H1 => ∃ a vs, us = [.ref a] ∧ SqT K H1 a vs ∧ R (ItnT K a) H1
theorem pi_enumT {X : Cx} {e : Expr} {ta : TA} {p pos tp : Pos} {ts : List Expr} {j : Nat} (hg : Gl X "enumerate") (hm : X.mg "enumerate" = none) (ha : PA X [e] ta) (hs : starEach [e] X.env = [(false, eval e X.env)] := by rfl) :
    PI X (.Tuple ts j tp) (.Call (.Name "enumerate" p) [e] [] pos) (iNum X.K ta) := by
  refine ⟨fun pins s σ H R I h => ?_⟩
  refine Call_ (ld_blt I hg hm boot_enumerate (PyProof.Rows.callWith_type1 (thn (ha.run pos pins s σ H _ I h) fun us s1 ⟨vs, H1, I1, r1, a, xs, q0, sq, q⟩ => ?_) hs rfl))
  subst q0
  cases r1 with
  | cons r rr =>
    cases rr
    cases r
    obtain ⟨its, rv, p', _⟩ := I1.tuple sq
    refine call_enum1 (begins_tuple a its.toArray) p' fun h' en hit hsz hk => wpAny_pyIter_enum en ?_
    have I2 : Inv X pins σ H1 { s1 with heap := h' } := I1.kept (t' := s1.toks) hk
    have la : a < s1.heap.objs.size := by
      obtain ⟨oa, ho, _⟩ := id p'
      exact Heap.lt_size ho
    refine ⟨s1.heap.objs.size + 1, [s1.heap.objs.size + 1, s1.heap.objs.size], _, _, H1, rfl, I2, turn_numT a (s1.heap.objs.size + 1) s1.heap.objs.size, ⟨⟨.none, en⟩, ⟨_, hit, rfl, rfl⟩, Nat.succ_ne_self _, Nat.ne_of_gt (Nat.lt_succ_of_lt la), Nat.ne_of_lt la⟩, fun b hb => ?_, q⟩
    have lb : s1.heap.objs.size ≤ b := by
      rcases List.mem_cons.mp hb with z | z
      · rw [z]; exact Nat.le_succ _
      · rw [List.mem_singleton.mp z]; exact Nat.le_refl _
    exact I1.fpOk lb (I1.hok.fresh lb)
end Ix

namespace Ix
open PySem L2
/-! ### x += e, enumerate -/
section
variable {X : Cx} {Γ : Fs} {e : Expr} {ce : E} {pos : Pos}
theorem w_aug {i : Nat} {o : Bo} {D : Ends} {σ : L2.St} {H : Hp} (f : Int → Int → Int) (hf : ∀ env S a b S1, env[i]? = some (some (.int a)) → ev Γ ce env S = some (.int b, S1) → ex Γ (.aug i o ce) env S = some (.nx, env.set i (some (.int (f a b))), S1))
    (ho : o = .add ∨ o = .sub) (h : trS X.K Γ (.aug i o ce) D σ H) : tAug i (tr X.K Γ ce) (ipI f) D σ H := by
  obtain ⟨α, env, S, out, env', S', ok, en, e1, k⟩ := h
  have e0 := e1
  simp only [ex] at e1
  split at e1
  · rename_i a ea
    simp only [Option.bind_eq_some_iff] at e1
    obtain ⟨⟨d, S1⟩, e2, e3⟩ := e1
    have hd : ∃ b, d = .int b := by
      rcases ho with rfl | rfl <;> (cases d <;> simp at e3; exact ⟨_, rfl⟩)
    obtain ⟨b, rfl⟩ := hd
    rw [hf env S a b S1 ea e2] at e0
    simp only [Option.some.injEq, Prod.mk.injEq] at e0
    obtain ⟨rfl, rfl, rfl⟩ := e0
    obtain ⟨v, hv, rv⟩ := en.at_ i _ ea
    cases rv
    refine ⟨_, hv, α, env, S, .int b, S1, ok, en, e2, fun α1 H1 w x1 ok1 r1 => ?_⟩
    cases r1
    exact ⟨a, b, rfl, rfl, k α1 H1 x1 ok1 _ ((en.mono x1).set i (.int _))⟩
  · cases e1
theorem xs_aug_add (i : Nat) {x : Str} {p : Pos} (hN : X.N.Nodup) (he : PE X e (tr X.K Γ ce)) (hi : X.N[i]? = some x := by rfl) (hx : Loc X.env.scope x := by first | exact Or.inl rfl | exact Or.inr rfl)
    (hf : X.fn x = true ∨ X.env.scope.names.lookup x = some .local := by first | exact .inl rfl | exact .inr rfl | assumption) : PS X (.AugAssign (.Name x p) .Add e pos) (trS X.K Γ (.aug i .add ce)) :=
  ps_w (ps_aug hN hi hx he ip_add hf) fun D σ H h => w_aug (fun a b => a + b) (fun env S a b S1 h1 h2 => by simp only [ex, h1, h2, Option.bind_some]) (.inl rfl) h
theorem xs_aug_sub (i : Nat) {x : Str} {p : Pos} (hN : X.N.Nodup) (he : PE X e (tr X.K Γ ce)) (hi : X.N[i]? = some x := by rfl) (hx : Loc X.env.scope x := by first | exact Or.inl rfl | exact Or.inr rfl)
    (hf : X.fn x = true ∨ X.env.scope.names.lookup x = some .local := by first | exact .inl rfl | exact .inr rfl | assumption) : PS X (.AugAssign (.Name x p) .Sub e pos) (trS X.K Γ (.aug i .sub ce)) :=
  ps_w (ps_aug hN hi hx he ip_sub hf) fun D σ H h => w_aug (fun a b => a - b) (fun env S a b S1 h1 h2 => by simp only [ex, h1, h2, Option.bind_some]) (.inr rfl) h
end
section
variable {X : Cx} {Γ : Fs} {a b : Expr} {cs : E} {pos : Pos}
/-- x, y = a, b -/
theorem xs_par {i j : Nat} {x y : Str} {px py pt : Pos} {kt k2 pt2} (hc : X.calm = true) (hN : X.N.Nodup) (hi : X.N[i]? = some x) (hj : X.N[j]? = some y) (hij : i ≠ j)
    (hx : X.env.scope.names.lookup x = some .local) (hy : X.env.scope.names.lookup y = some .local) (ha : PA X [a, b] (trA X.K Γ cs))
    (hw : swappedStores [.Tuple [.Name x px, .Name y py] kt pt] (.Tuple [a, b] k2 pt2) X.env = pure (some [x, y]) := by rfl)
    (hs : swapsWithSole [.Tuple [.Name x px, .Name y py] kt pt] (.Tuple [a, b] k2 pt2) pos.line X.env = pure false := by rfl) :
    PS X (.Assign [.Tuple [.Name x px, .Name y py] kt pt] (.Tuple [a, b] k2 pt2) pos) (trS X.K Γ (.asg (.tup (.cons (.name i) (.cons (.name j) .nil))) (.tup cs))) :=
  ps_w (ps_par hc hN hi hj hij hx hy ha hw hs) fun D σ H ⟨α, env, S, o, env', S', ok, en, e1, k⟩ => by
    simp only [ex, ev, Option.bind_eq_some_iff, Option.map_eq_some_iff, Prod.mk.injEq] at e1
    obtain ⟨⟨d, S1⟩, ⟨⟨d2, S2⟩, e2, ds, e3, e4⟩, env1, e5, rfl, rfl, rfl⟩ := e1
    cases argsOf_some e3
    split at e4
    · simp only [Option.some.injEq, Prod.mk.injEq] at e4
      obtain ⟨rfl, rfl⟩ := e4
      refine ⟨α, env, S, ds, S2, ok, en, e2, fun α1 H1 vs x1 ok1 r1 => ?_⟩
      match ds, e5, r1 with
      | [d1, d2], e5, r1 =>
        obtain ⟨v, u, rfl, r2, r3⟩ := r1.two'
        simp only [asgG, Option.bind_some, Option.some.injEq] at e5
        subst e5
        exact ⟨v, u, rfl, k α1 H1 x1 ok1 _ (((en.mono x1).set i r2).set j r3)⟩
      | [], e5, r1 => simp [asgG] at e5
      | [_], e5, r1 => simp [asgG] at e5
      | _ :: _ :: _ :: _, e5, r1 => simp [asgG] at e5
    · cases e4
end
section
variable {K : PySem.W.Frag} {a : Addr} {n : Nat}
theorem walk_numL : Walk (Ite K a) n (fun H => ∃ vs, SqL K H a vs ∧ vs.length = n) (fun i H v H' => ∃ T x, v = .ref T ∧ H T = none ∧ H' = upd H T (.tup [.int (i : Nat), x]) ∧ ∀ xs, SqL K H a xs → xs[i]? = some x) :=
  ⟨fun i _ hi ⟨vs, q, l⟩ => ⟨vs, vs[i]'(by omega), q, by simp⟩, fun _ ⟨vs, q, l⟩ => ⟨vs, q, by omega⟩, fun _ _ _ _ _ _ y => y⟩
theorem walk_numT : Walk (ItnT K a) n (fun H => ∃ vs, SqT K H a vs ∧ vs.length = n) (fun i H v H' => ∃ T x, v = .ref T ∧ H T = none ∧ H' = upd H T (.tup [.int (i : Nat), x]) ∧ ∀ xs, SqT K H a xs → xs[i]? = some x) :=
  ⟨fun i _ hi ⟨vs, q, l⟩ => ⟨vs, vs[i]'(by omega), q, by simp⟩, fun _ ⟨vs, q, l⟩ => ⟨vs, q, by omega⟩, fun _ _ _ _ _ _ y => y⟩
theorem num_turn {α : List Addr} {S : Hd} {H H3 : Hp} {xs : List D} {vs : List V} {v : V} {i : Nat} {T : Addr} {x : V} (ok : Ok K α S H) (r1 : Rps K α H xs vs) (e1 : v = .ref T) (hT : H T = none) (e2 : H3 = upd H T (.tup [.int (i : Nat), x]))
    (h1 : vs[i]? = some x) : ∃ d, (xs.mapIdx fun i d => D.tup [.int (i : Int), d])[i]? = some d ∧ Xt K α H α H3 ∧ Ok K α S H3 ∧ Rp K α H3 d v := by
  obtain ⟨dx, q1, q2⟩ := r1.getV h1
  subst e1 e2
  exact ⟨.tup [.int (i : Int), dx], by rw [List.getElem?_mapIdx, q1]; rfl, Xt.fresh hT, ok.fresh hT, Rp.newT hT (.cons (.int _) (.cons q2 .nil))⟩
end
section
variable {X : Cx} {Γ : Fs} {e : Expr} {cs : E} {pos p : Pos}
theorem num_items {S : Hd} {x : D} {its : List D} (h : items .enum [x] S = some its) : ∃ xs, seqOf S x = some xs ∧ its = xs.mapIdx fun i d => .tup [.int (i : Int), d] := by
  simp only [items, Option.map_eq_some_iff] at h
  obtain ⟨xs, h1, h2⟩ := h
  exact ⟨xs, h1, h2.symm⟩
theorem xi_enum {elts : List Expr} {kk : Nat} {tpos : Pos} (hg : Gl X "enumerate") (hm : X.mg "enumerate" = none) (ha : PA X [e] (trA X.K Γ cs)) (hs : starEach [e] X.env = [(false, eval e X.env)] := by rfl) :
    PI X (.Tuple elts kk tpos) (.Call (.Name "enumerate" p) [e] [] pos) (trI X.K Γ .enum cs) := by
  refine ⟨fun pins s σ H R I ⟨α, env, S, ds, S', its, ok, en, e1, e3, k⟩ => ?_⟩
  match ds, e1, e3 with
  | [x], e1, e3 =>
    obtain ⟨xs, h1, ei⟩ := num_items e3
    cases hx : isTup x with
    | true =>
      refine (pi_enumT hg hm ha hs).run pins s σ H R I ⟨α, env, S, _, S', ok, en, e1, fun α1 H1 vs x1 ok1 r1 => ?_⟩
      obtain ⟨v, rfl, r2⟩ := r1.one'
      obtain ⟨a, _, rfl, _, _⟩ := seq_of ok1 r2 h1
      obtain ⟨vs, z1, q1⟩ := seq_tup ok1 r2 h1 hx
      refine ⟨a, vs, rfl, z1, k α1 H1 _ _ _ x1 ok1 walk_numT (fun α2 S2 H2 x2 ok2 e4 => ?_) fun i α2 S2 H2 w H3 x2 ok2 e4 hi ⟨T, x', f1, f2, f3, f4⟩ => ?_⟩
      · obtain ⟨xs', g1, g3⟩ := num_items e4
        obtain ⟨vs', w1, w2⟩ := seq_tup ok2 (r2.mono x2) g1 hx
        exact ⟨vs', w1, by rw [w2.len, g3, List.length_mapIdx]⟩
      · obtain ⟨xs', g1, g3⟩ := num_items e4
        obtain ⟨vs', w1, w2⟩ := seq_tup ok2 (r2.mono x2) g1 hx
        rw [g3]
        exact num_turn ok2 w2 f1 f2 f3 (f4 _ w1)
    | false =>
      refine (pi_enum hg hm ha hs).run pins s σ H R I ⟨α, env, S, _, S', ok, en, e1, fun α1 H1 vs x1 ok1 r1 => ?_⟩
      obtain ⟨v, rfl, r2⟩ := r1.one'
      obtain ⟨a, _, rfl, _, _⟩ := seq_of ok1 r2 h1
      obtain ⟨vs, z1, q1⟩ := seq_lst ok1 r2 h1 hx
      refine ⟨a, vs, rfl, z1, k α1 H1 _ _ _ x1 ok1 walk_numL (fun α2 S2 H2 x2 ok2 e4 => ?_) fun i α2 S2 H2 w H3 x2 ok2 e4 hi ⟨T, x', f1, f2, f3, f4⟩ => ?_⟩
      · obtain ⟨xs', g1, g3⟩ := num_items e4
        obtain ⟨vs', w1, w2⟩ := seq_lst ok2 (r2.mono x2) g1 hx
        exact ⟨vs', w1, by rw [w2.len, g3, List.length_mapIdx]⟩
      · obtain ⟨xs', g1, g3⟩ := num_items e4
        obtain ⟨vs', w1, w2⟩ := seq_lst ok2 (r2.mono x2) g1 hx
        rw [g3]
        exact num_turn ok2 w2 f1 f2 f3 (f4 _ w1)
  | [], e1, e3 => simp [items] at e3
  | x :: y :: _, e1, e3 => simp [items] at e3
end

/-! ### defs with keyword-only defaults -/
section
/-- a def whose keyword-only parameters have defaults (kws) -/
structure FnID (P : Program) (w : World) (K : PySem.W.Frag) (mg : Str → Option Value) (base : Heap) (Γ : Fs) (n f : Nat) (x : Str) (ps : List Str) (st : Stmt) (kws : List (Str × V)) : Prop where
  ex : ∃ (fa : Addr) (fd : FuncData), mg x = some (.ref fa) ∧ FunD K x x (defArgs st) (defBody st) (defScope st) [] kws fa fd ∧ FnG P w K mg base n fa fd ps (spF K Γ f)
def conE : List D → E
  | [] => .nil
  | d :: ds => .cons (.c d) (conE ds)
def appE (c : E) (ds : List D) : E := match c with
  | .cons a es => .cons a (appE es ds)
  | _ => conE ds
theorem consts_ev {Γ : Fs} {env : Sl} {S : Hd} : ∀ ds : List D, ev Γ (conE ds) env S = some (.tup ds, S)
  | [] => rfl
  | d :: ds => by
    simp only [conE, ev, Option.bind_some, consts_ev ds, argsOf, Option.map_some]
theorem appE_ev {Γ : Fs} {env : Sl} : ∀ {ck : E} {m : Nat} {ds : List D} {S S' : Hd} {d : D}, narg ck = some m → ev Γ (appE ck ds) env S = some (d, S') → ∃ zs, ev Γ ck env S = some (.tup zs, S') ∧ d = .tup (zs ++ ds)
  | .nil, m, ds, S, S', d, _, e => by
    simp only [appE] at e
    rw [consts_ev] at e
    simp only [Option.some.injEq, Prod.mk.injEq] at e
    obtain ⟨rfl, rfl⟩ := e
    exact ⟨[], rfl, rfl⟩
  | .cons a es, m, ds, S, S', d, h, e => by
    simp only [narg, Option.map_eq_some_iff] at h
    obtain ⟨m1, h, _⟩ := h
    simp only [appE, ev, Option.bind_eq_some_iff, Option.map_eq_some_iff, Prod.mk.injEq] at e
    obtain ⟨⟨d1, S1⟩, e1, ⟨d2, S2⟩, e2, zs, e3, rfl, rfl⟩ := e
    obtain ⟨ws, w1, w2⟩ := appE_ev h e2
    cases argsOf_some e3
    cases w2
    exact ⟨d1 :: ws, by simp only [ev, e1, w1, Option.bind_some, argsOf, Option.map_some], rfl⟩
variable {X : Cx} {Γ : Fs} {e : Expr} {es : List Expr} {cs ck : E} {pos p : Pos} {n f : Nat} {x : Str} {ps : List Str} {st : Stmt} {kws0 : List (Str × V)}
theorem kb_of {fa : Addr} {fd : FuncData} (F : FunD X.K x x (defArgs st) (defBody st) (defScope st) [] kws0 fa fd) (ks : List Str) (ms : List (Str × V)) (perm : List Nat) (m : Nat) (hk0 : kws0 ≠ []) (hms : ∀ q ∈ ms, q ∈ kws0)
    (kb : ∀ (D : Addr) (doc pm : Value) (an : Option Addr) (cdv ct : Value) (us mv ws : List Value), us.length = m → mv.length = ms.length → ws.length = ks.length →
      KwChain D ((ms.map (·.1)).zip mv) (bindArgs (PySem.W.fnOf x x (defArgs st) (defBody st) (defScope st) .none (.ref D) doc pm an cdv ct) ⟨us, ks.zip ws⟩) (ps.zip (permV perm (us ++ (ws ++ mv))))) :
    ∃ mv : List Value, KBn X.K fd ps m ks (fun us ws => permV perm (us ++ (ws ++ mv))) (fun vs zs => permV perm (vs ++ (zs ++ ms.map (·.2)))) :=
  F.kbinds0 m ks ms (fun us mv ws => permV perm (us ++ (ws ++ mv))) hk0 hms (fun r1 r2 r3 => rel_perm (r1.append (r3.append r2)) perm) kb
/-- f(e, .., k = v, ..), the keyword-only parameters ms lack -/
theorem xe_callD {kws : List Keyword} (F : FnID X.prog X.w X.K X.mg X.base Γ n f x ps st kws0) (ks : List Str) (ms : List (Str × V)) (ds0 : List D) (perm : List Nat) (m : Nat) (hk0 : kws0 ≠ []) (hms : ∀ q ∈ ms, q ∈ kws0)
    (hds : ∀ α H, Rps X.K α H ds0 (ms.map (·.2)))
    (kb : ∀ (D : Addr) (doc pm : Value) (an : Option Addr) (cdv ct : Value) (us mv ws : List Value), us.length = m → mv.length = ms.length → ws.length = ks.length →
      KwChain D ((ms.map (·.1)).zip mv) (bindArgs (PySem.W.fnOf x x (defArgs st) (defBody st) (defScope st) .none (.ref D) doc pm an cdv ct) ⟨us, ks.zip ws⟩) (ps.zip (permV perm (us ++ (ws ++ mv)))))
    (hn : narg cs = some m) (hnk : narg ck = some ks.length) (hr : RoomG n X.A) (hg : Gl X x) (ha : PA X (e :: es) (trA X.K Γ cs)) (hk : PK X kws (trA X.K Γ ck))
    (hall : (backToKw pos (keywordEach kws X.env)).all (·.1.isSome) = true := by rfl) (hks : (backToKw pos (keywordEach kws X.env)).filterMap (·.1) = ks := by rfl)
    (hdb : (x == ("__debug__" : Str)) = false := by decide) (he : starEach (e :: es) X.env = (false, eval e X.env) :: starEach es X.env := by rfl)
    (hpl : ((backTo pos (starEach (e :: es) X.env)).any (·.1) || (backToKw pos (keywordEach kws X.env)).any (·.1.isNone)) = false := by rfl) :
    PE X (.Call (.Name x p) (e :: es) kws pos) (tr X.K Γ (.callK f cs (appE ck ds0) perm)) := by
  obtain ⟨fa, fd, h1, h2, h3⟩ := F.ex
  obtain ⟨mv, hB⟩ := kb_of h2 ks ms perm m hk0 hms kb
  refine pe_w (pe_callNG (E := E0) h3 hr hg h1 h2.kp hB pass0 ha hk hall hks hdb he hpl) fun σ H Q ⟨α, env, S, d, S', ok, en, e, k⟩ => ?_
  simp only [ev, Option.bind_eq_some_iff] at e
  obtain ⟨⟨d1, S1⟩, e1, ds, e2, ⟨d2, S2⟩, e3, zs, e4, e5⟩ := e
  cases argsOf_some e2
  obtain ⟨ws0, e6, e7⟩ := appE_ev hnk e3
  cases e7
  cases argsOf_some e4
  have l1 := narg_len hn e1
  have l2 := narg_len hnk e6
  exact ⟨α, env, S, ds, S1, ok, en, e1, fun α1 H1 vs x1 ok1 r1 => ⟨α1, env, S1, ws0, S2, ok1, en.mono x1, e6, fun α2 H2 ws x2 ok2 r2 => ⟨by rw [r1.len, l1], by rw [r2.len, l2],
      α2, S2, _, d, S', ok2, ((r1.mono x2).append (r2.append (hds _ _))).perm perm, e5, fun α3 H3 v x3 ok3 r3 => k α3 H3 v (x1.trans (x2.trans x3)) ok3 r3⟩⟩⟩
/-- f(k = v, ..), the same -/
theorem xe_callD0 {kws : List Keyword} (F : FnID X.prog X.w X.K X.mg X.base Γ n f x ps st kws0) (ks : List Str) (ms : List (Str × V)) (ds0 : List D) (perm : List Nat) (hk0 : kws0 ≠ []) (hms : ∀ q ∈ ms, q ∈ kws0)
    (hds : ∀ α H, Rps X.K α H ds0 (ms.map (·.2)))
    (kb : ∀ (D : Addr) (doc pm : Value) (an : Option Addr) (cdv ct : Value) (us mv ws : List Value), us.length = 0 → mv.length = ms.length → ws.length = ks.length →
      KwChain D ((ms.map (·.1)).zip mv) (bindArgs (PySem.W.fnOf x x (defArgs st) (defBody st) (defScope st) .none (.ref D) doc pm an cdv ct) ⟨us, ks.zip ws⟩) (ps.zip (permV perm (us ++ (ws ++ mv)))))
    (hnk : narg ck = some ks.length) (hr : RoomG n X.A) (hg : Gl X x) (hk : PK X kws (trA X.K Γ ck))
    (hall : (backToKw pos (keywordEach kws X.env)).all (·.1.isSome) = true := by rfl) (hks : (backToKw pos (keywordEach kws X.env)).filterMap (·.1) = ks := by rfl)
    (hdb : (x == ("__debug__" : Str)) = false := by decide)
    (hpl : ((backTo pos (starEach [] X.env)).any (·.1) || (backToKw pos (keywordEach kws X.env)).any (·.1.isNone)) = false := by rfl) :
    PE X (.Call (.Name x p) [] kws pos) (tr X.K Γ (.callK f .nil (appE ck ds0) perm)) := by
  obtain ⟨fa, fd, h1, h2, h3⟩ := F.ex
  obtain ⟨mv, hB⟩ := kb_of h2 ks ms perm 0 hk0 hms kb
  refine ⟨fun pins s σ H Q I h => ?_⟩
  obtain ⟨α, env, S, d, S', ok, en, e, k⟩ := h
  simp only [ev, Option.bind_eq_some_iff, Option.some.injEq] at e
  obtain ⟨_, rfl, ds, e1, ⟨d2, S2⟩, e3, zs, e4, e5⟩ := e
  cases argsOf_some e1
  obtain ⟨ws0, e6, e7⟩ := appE_ev hnk e3
  cases e7
  cases argsOf_some e4
  have l2 := narg_len hnk e6
  refine wpAny_Call_Name_kw (ld_glob I hg h1 ?_ hdb)
  refine PySem.W.callWith_KW0 (h₀ := X.base) I.ok.mod.kin h2.kp hall (thn (hk.run pos pins s σ H (fun ws H2 => ws.length = ks.length ∧ spF X.K Γ f (permV perm ([] ++ (ws ++ ms.map (·.2)))) H2 Q E0) I ?_) fun ws s2 ⟨zs, H2, I2, rz, l3, q2⟩ => ⟨I2.kIn, ?_⟩) hpl
  · exact ⟨α, env, S, ws0, S2, ok, en, e6, fun α2 H2 ws x2 ok2 r2 => ⟨by rw [r2.len, l2], α2, S2, _, d, S', ok2, Rps.perm (Rps.nil.append (r2.append (hds _ _))) perm, e5, fun α3 H3 v x3 ok3 r3 => k α3 H3 v (x2.trans x3) ok3 r3⟩⟩
  · rw [hks]
    exact run_fnG h3 hr hB pass0 I2 (.nil : Vals [] []) rz rfl l3 q2
/-- a def with defaults of parameters by position -/
structure FnIP (P : Program) (w : World) (K : PySem.W.Frag) (mg : Str → Option Value) (base : Heap) (Γ : Fs) (n f : Nat) (x : Str) (ps : List Str) (st : Stmt) (dvs : List V) : Prop where
  ex : ∃ (fa : Addr) (fd : FuncData), mg x = some (.ref fa) ∧ FunD K x x (defArgs st) (defBody st) (defScope st) dvs [] fa fd ∧ FnG P w K mg base n fa fd ps (spF K Γ f)
/-- f(e, ..): m are written, the defaults behind the first j fill up -/
theorem xe_callP {dvs : List V} (F : FnIP X.prog X.w X.K X.mg X.base Γ n f x ps st dvs) (ds0 : List D) (m j : Nat) (hd0 : dvs ≠ []) (hds : ∀ α H, Rps X.K α H ds0 (dvs.drop j)) (hl : m + (dvs.length - j) = ps.length)
    (kb : ∀ (T : Addr) (kV doc pm : Value) (an : Option Addr) (cdv ct : Value) (us its : List Value), us.length = m → its.length = dvs.length →
      ∃ k, bindArgs (PySem.W.fnOf x x (defArgs st) (defBody st) (defScope st) (.ref T) kV doc pm an cdv ct) ⟨us, []⟩ = seqItems? (.ref T) >>= k ∧ k (some its.toArray) = pure (ps.zip (us ++ its.drop j)))
    (hn : narg cs = some m) (hr : RoomG n X.A) (hg : Gl X x) (ha : PA X (e :: es) (trA X.K Γ cs))
    (hdb : (x == ("__debug__" : Str)) = false := by decide) (he : starEach (e :: es) X.env = (false, eval e X.env) :: starEach es X.env := by rfl) (hpl : (backTo pos (starEach es X.env)).any (·.1) = false := by rfl) :
    PE X (.Call (.Name x p) (e :: es) [] pos) (tr X.K Γ (.call f (appE cs ds0))) := by
  obtain ⟨fa, fd, h1, h2, h3⟩ := F.ex
  obtain ⟨ds, hv, hb⟩ := h2.binds1 m j hd0 hl kb
  refine pe_w (pe_callGP (E := E0) h3 hr hg h1 h2.kp hb hv pass0 ha hdb he hpl) fun σ H Q ⟨α, env, S, d, S', ok, en, e, k⟩ => ?_
  simp only [ev, Option.bind_eq_some_iff] at e
  obtain ⟨⟨d1, S1⟩, e1, zs, e2, e3⟩ := e
  obtain ⟨ws, e4, e5⟩ := appE_ev hn e1
  cases e5
  cases argsOf_some e2
  exact ⟨α, env, S, ws, S1, ok, en, e4, fun α1 H1 vs x1 ok1 r1 => ⟨α1, S1, _, d, S', ok1, r1.append (hds _ _), e3, fun α2 H2 v x2 ok2 r2 => k α2 H2 v (x1.trans x2) ok2 r2⟩⟩
end
end Ix

namespace Ix
open PySem PySem.Spec PyProof.Rows L2
/-! ### x or y by truth; sorted of pairs; sorted(set(..)); list(range(..)) -/
section
variable {X : Cx} {Γ : Fs} {a b e : Expr} {rest es : List Expr} {ca cb ce cs : E} {pos : Pos}
theorem xe_orv (ha : PE X a (tr X.K Γ ca)) (hb : PE X (.BoolOp .Or (b :: rest) pos) (tr X.K Γ cb)) : PE X (.BoolOp .Or (a :: b :: rest) pos) (tr X.K Γ (.orv ca cb)) :=
  pe_w (pe_orT ha hb) fun σ H Q ⟨α, env, S, d, S', ok, en, e, k⟩ => by
    simp only [ev, Option.bind_eq_some_iff] at e
    obtain ⟨⟨d1, S1⟩, e1, c, e2, e3⟩ := e
    refine ⟨α, env, S, d1, S1, ok, en, e1, fun α1 H1 v1 x1 ok1 r1 => ⟨c, tru_of ok1 r1 e2, ?_⟩⟩
    cases c with
    | true =>
      simp only [if_true, Option.some.injEq, Prod.mk.injEq] at e3 ⊢
      obtain ⟨rfl, rfl⟩ := e3
      exact k α1 H1 _ x1 ok1 r1
    | false =>
      simp only [Bool.false_eq_true, if_false] at e3 ⊢
      exact ⟨α1, env, S1, d, S', ok1, en.mono x1, e3, fun α2 H2 v2 x2 ok2 r2 => k α2 H2 v2 (x1.trans x2) ok2 r2⟩
end
/-! pairs in order -/
theorem lexLe_refl (p : Int × Int) : lexLe p p := .inr ⟨rfl, Int.le_refl _⟩
theorem lexLe_tot {p q : Int × Int} (h : ¬ lexLe p q) : lexLe q p := by
  unfold lexLe at h ⊢
  omega
theorem lexLe_trans {p q r : Int × Int} (h : lexLe p q) (k : lexLe q r) : lexLe p r := by
  unfold lexLe at h k ⊢
  omega
theorem lexLe_anti {p q : Int × Int} (h : lexLe p q) (k : lexLe q p) : p = q := by
  unfold lexLe at h k
  have h1 : p.1 = q.1 := by omega
  have h2 : p.2 = q.2 := by omega
  exact Prod.ext h1 h2
theorem insP_perm (p : Int × Int) : ∀ ps, (insP p ps).Perm (p :: ps)
  | [] => .refl _
  | q :: qs => by
    unfold insP
    split
    · exact .refl _
    · exact ((insP_perm p qs).cons q).trans (.swap p q qs)
theorem srtP_perm : ∀ ps : List (Int × Int), (srtP ps).Perm ps
  | [] => .refl _
  | p :: ps => (insP_perm p (srtP ps)).trans ((srtP_perm ps).cons p)
theorem insP_le (p : Int × Int) : ∀ {ps : List (Int × Int)}, ps.Pairwise lexLe → (insP p ps).Pairwise lexLe
  | [], _ => by simp [insP]
  | q :: qs, h => by
    unfold insP
    rw [List.pairwise_cons] at h
    split
    · rename_i c
      refine List.pairwise_cons.mpr ⟨fun r hr => ?_, List.pairwise_cons.mpr h⟩
      rcases List.mem_cons.mp hr with z | z
      · rw [z]; exact c
      · exact lexLe_trans c (h.1 r z)
    · rename_i c
      refine List.pairwise_cons.mpr ⟨fun r hr => ?_, insP_le p h.2⟩
      rcases List.mem_cons.mp ((insP_perm p qs).mem_iff.mp hr) with z | z
      · rw [z]; exact lexLe_tot c
      · exact h.1 r z
theorem srtP_le : ∀ ps : List (Int × Int), (srtP ps).Pairwise lexLe
  | [] => .nil
  | p :: ps => insP_le p (srtP_le ps)
theorem srtP_one {A B : List (Int × Int)} (p : A.Perm B) (ha : A.Pairwise lexLe) (hb : B.Pairwise lexLe) : A = B :=
  p.eq_of_pairwise (fun _ _ _ _ h k => lexLe_anti h k) ha hb
theorem pairsD_map : ∀ ps : List (Int × Int), pairsD (ps.map pairD) = some ps
  | [] => rfl
  | p :: ps => by
    have := pairsD_map ps
    simp only [List.map_cons, pairD, pairsD] at this ⊢
    rw [this]
    rfl
theorem pairsD_of : ∀ {xs : List D} {ps : List (Int × Int)}, pairsD xs = some ps → xs = ps.map pairD
  | [], ps, h => by
    simp only [pairsD, Option.some.injEq] at h
    subst h
    rfl
  | x :: xs, ps, h => by
    unfold pairsD at h
    split at h
    · rename_i heq
      cases heq
    · rename_i i j ds heq
      cases heq
      rw [Option.map_eq_some_iff] at h
      obtain ⟨qs, h1, rfl⟩ := h
      rw [pairsD_of h1]
      rfl
    · cases h
open Classical in
noncomputable def keyV (K : PySem.W.Frag) (H : Hp) (v : V) : Int × Int := if h : ∃ p : Int × Int, ∃ t : Addr, v = .ref t ∧ SqT K H t [.int p.1, .int p.2] then h.choose else (0, 0)
section
variable {X : Cx}
theorem keyV_of {pins : List (Addr × Obj)} {σ : L2.St} {H : Hp} {s : Shared} {t : Addr} {p : Int × Int} (I : Inv X pins σ H s) (h : SqT X.K H t [.int p.1, .int p.2]) : keyV X.K H (.ref t) = p := by
  have hx : ∃ p : Int × Int, ∃ t' : Addr, V.ref t = .ref t' ∧ SqT X.K H t' [.int p.1, .int p.2] := ⟨p, t, rfl, h⟩
  unfold keyV
  rw [dif_pos hx]
  obtain ⟨t', e, c2⟩ := hx.choose_spec
  cases e
  have c4 := I.tuple_inj c2 h
  simp only [List.cons.injEq, V.int.injEq, and_true] at c4
  exact Prod.ext c4.1 c4.2
/-- sorted(xs) of pairs, wherever the pairs lie -/
theorem b_sortp : CallR X (.builtin "sorted") (rA X.K (bltD .sortp_)) := by
  intro pins s σ H xs us Q I r ⟨α, S, ds, d, S', ok, rs, e, k⟩
  match ds, e with
  | [x], e =>
    simp only [bltD, Option.map_eq_some_iff, alloc, Prod.mk.injEq] at e
    obtain ⟨ps, h1, rfl, rfl⟩ := e
    obtain ⟨v, rfl, r1⟩ := rs.one'
    unfold pairsAt at h1
    split at h1
    · cases h1
    rename_i nt
    rw [Option.bind_eq_some_iff] at h1
    obtain ⟨ys, h2, h3⟩ := h1
    have h4 := pairsD_of h3
    subst h4
    obtain ⟨l, vs, rfl, rv, z⟩ := seq_of ok r1 h2
    have z : SqL X.K H l vs := by
      rcases z with z | z
      · exact absurd z.1 nt
      · exact z.2
    obtain ⟨its, rel, hl, hz⟩ := I.list z
    obtain ⟨u, rfl, ru⟩ := vals1 r
    have ru : u = Value.ref l := ru
    subst ru
    -- each item is a tuple of two ints
    have item : ∀ (i : Nat) (v : V), vs[i]? = some v → ∃ (t : Addr) (p : Int × Int), ps[i]? = some p ∧ v = V.ref t ∧ SqT X.K H t [V.int p.1, V.int p.2] := fun i v hv => by
      obtain ⟨x, hx, rx⟩ := rv.getV hv
      rw [List.getElem?_map] at hx
      cases hp : ps[i]? with
      | none => rw [hp] at hx; cases hx
      | some p =>
        rw [hp] at hx
        have hx : pairD p = x := by simpa using hx
        subst hx
        cases rx with
        | tup h l' q =>
          rename_i t ws
          refine ⟨t, p, rfl, rfl, ?_⟩
          match ws, l', h, q with
          | [w1, w2], _, h, q =>
            have q1 := q 0 _ _ rfl rfl
            have q2 := q 1 _ _ rfl rfl
            cases q1
            cases q2
            exact h
          | [], l', _, _ => simp at l'
          | [_], l', _, _ => simp at l'
          | _ :: _ :: _ :: _, l', _, _ => simp at l'
    have isref : ∀ v ∈ vs, ∃ t, v = V.ref t := fun v hv => by
      obtain ⟨i, hi⟩ := List.getElem?_of_mem hv
      obtain ⟨t, p, _, e, _⟩ := item i v hi
      exact ⟨t, e⟩
    obtain ⟨e1, e2⟩ := refs_back rel isref
    have keyp : ∀ (t : Addr) (p : Int × Int), SqT X.K H t [V.int p.1, V.int p.2] → keyV X.K H (V.ref t) = p := fun t p h => keyV_of I h
    generalize keyV X.K H = key at keyp
    refine SrtO.sorted_pairsO (k := fun u => key (backV u)) hl.isList (by rw [← rel.length]; exact hz) (fun v hv => ?_) fun h' dd out o1 o2 kp hd hn => ?_
    · obtain ⟨t, rfl⟩ := e2 v hv
      have hm : V.ref t ∈ vs := by rw [e1]; exact List.mem_map.mpr ⟨_, hv, rfl⟩
      obtain ⟨i, hi⟩ := List.getElem?_of_mem hm
      obtain ⟨t', p, _, et, sq⟩ := item i _ hi
      cases et
      have hk : key (backV (Value.ref t)) = p := keyp t p sq
      obtain ⟨its2, r2, tu, _⟩ := I.tuple sq
      obtain ⟨u1, u2, rfl, ri, rj⟩ := vals2 r2
      obtain ⟨t1, rfl⟩ := ri
      obtain ⟨t2, rfl⟩ := rj
      obtain ⟨o, ho, hcl, n, hd⟩ := tu
      simp only [hk]
      exact ⟨t, o, t1, t2, n, rfl, ho, hcl, hd⟩
    · have h3 : ∀ u ∈ out, ∃ t, u = Value.ref t := fun u hu => e2 u (o2.perm.mem_iff.mp hu)
      have srt := SrtO.srtd_map o1
      have stb : SrtO.Stb (ltP key) (out.map backV) vs := by
        rw [e1]
        exact SrtO.Stb.map (ltP_swo key) backV o2
      obtain ⟨n, hn⟩ := hn
      have hpn := I.hok.fresh hd
      refine ⟨.ref dd, upd H dd (.lst (out.map backV)), I.laid (t' := s.toks) kp hd ⟨?_, out, n, vals_back h3, hn⟩, rfl, ?_⟩
      · rw [stb.len]
        exact hz
      -- the values in order
      have mapk : vs.map key = ps := by
        apply List.ext_getElem?
        intro i
        rw [List.getElem?_map]
        cases hv : vs[i]? with
        | none =>
          have : ps[i]? = none := by
            rw [List.getElem?_eq_none_iff] at hv ⊢
            have := rv.len
            rw [List.length_map] at this
            omega
          rw [this]
          rfl
        | some v =>
          obtain ⟨t, p, hp, rfl, sq⟩ := item i v hv
          rw [hp, Option.map_some, keyp t p sq]
      have pm : ((out.map backV).map key).Perm ps := by
        rw [← mapk]
        exact stb.perm.map key
      have le : ((out.map backV).map key).Pairwise lexLe := by
        rw [List.map_map]
        refine List.Pairwise.imp ?_ srt
        intro x y h
        have := SrtO.lexB_no.mp h
        unfold lexLe
        omega
      have eo : (out.map backV).map key = srtP ps := srtP_one (pm.trans (srtP_perm ps).symm) le (srtP_le ps)
      refine go_new ok hpn ⟨?_, fun i x v h1 h2 => ?_⟩ k
      · have := congrArg List.length eo
        simp only [List.length_map] at this ⊢
        exact this
      · have hv : v ∈ vs := stb.perm.mem_iff.mp (List.mem_of_getElem? h2)
        obtain ⟨j, hj⟩ := List.getElem?_of_mem hv
        obtain ⟨t, p, hp, rfl, sq⟩ := item j v hj
        have h4 : ((out.map backV).map key)[i]? = some p := by rw [List.getElem?_map, h2, Option.map_some, keyp t p sq]
        rw [eo] at h4
        rw [List.getElem?_map, h4] at h1
        have h1 : pairD p = x := by simpa using h1
        subst h1
        exact .tup sq rfl fun i x v h1 h2 => by
          match i, h1, h2 with
          | 0, h1, h2 => cases h1; cases h2; exact .int _
          | 1, h1, h2 => cases h1; cases h2; exact .int _
          | i + 2, h1, h2 => simp at h1
  | [], e => simp [bltD] at e
  | _ :: _ :: _, e => simp [bltD] at e
end
section
variable {X : Cx} {Γ : Fs} {a b : Expr} {ca cb : E} {pos pos2 p p2 : Pos}
theorem xe_lrange (hc : X.calm = true) (hg : Gl X "list") (hm : X.mg "list" = none) (hg2 : Gl X "range") (hm2 : X.mg "range" = none) (ha : PE X a (tr X.K Γ ca)) (hb : PE X b (tr X.K Γ cb))
    (na : starEach [a, b] X.env = (false, eval a X.env) :: starEach [b] X.env := by rfl) (nb : starEach [b] X.env = (false, eval b X.env) :: starEach [] X.env := by rfl) (hp : (backTo pos2 (starEach [b] X.env)).any (·.1) = false := by rfl)
    (nr : starEach [.Call (.Name "range" p2) [a, b] [] pos2] X.env = (false, eval (.Call (.Name "range" p2) [a, b] [] pos2) X.env) :: starEach [] X.env := by rfl) :
    PE X (.Call (.Name "list" p) [.Call (.Name "range" p2) [a, b] [] pos2] [] pos) (tr X.K Γ (.blt .lrange_ (.cons ca (.cons cb .nil)))) :=
  pe_w (pe_listRg hc hg hm (prg_2 hg2 hm2 ha hb na nb hp) nr) fun σ H Q ⟨α, env, S, d, S', ok, en, e, k⟩ => by
    simp only [ev] at e
    cases h1 : ev Γ ca env S with
    | none => rw [h1] at e; cases e
    | some x =>
      obtain ⟨d1, S1⟩ := x
      rw [h1] at e
      simp only [Option.bind_some] at e
      cases h2 : ev Γ cb env S1 with
      | none => rw [h2] at e; cases e
      | some y =>
        obtain ⟨d2, S2⟩ := y
        rw [h2] at e
        simp only [Option.bind_some, argsOf, Option.map_some] at e
        refine ⟨α, env, S, d1, S1, ok, en, h1, fun α1 H1 v1 x1 ok1 r1 => ⟨α1, env, S1, d2, S2, ok1, en.mono x1, h2, fun α2 H2 v2 x2 ok2 r2 => ?_⟩⟩
        cases d1 with
        | int i =>
          cases d2 with
          | int j =>
            simp only [bltD] at e
            split at e
            · rename_i hb
              simp only [alloc, Option.some.injEq, Prod.mk.injEq] at e
              obtain ⟨rfl, rfl⟩ := e
              cases r1
              cases r2
              refine ⟨i, j, rfl, rfl, ⟨hb.1, hb.2.1, hb.2.2.1, hb.2.2.2.1, Nat.le_trans hb.2.2.2.2 (by decide)⟩, fun q hq => ?_⟩
              refine go_new ok2 hq ⟨by simp [rgV], fun m x v h1 h2 => ?_⟩ fun α3 H3 v x3 => k α3 H3 v (x1.trans (x2.trans x3))
              unfold rgV at h2
              rw [List.getElem?_map] at h1 h2
              cases hm : (List.range (j - i).toNat)[m]? with
              | none => rw [hm] at h1; cases h1
              | some z =>
                rw [hm] at h1 h2
                cases h1
                cases h2
                exact .int _
            · cases e
          | _ => simp [bltD] at e
        | _ => simp [bltD] at e
end
end Ix

namespace Ix
open PySem PySem.Spec PyProof.Rows L2
/-! ### == and in of data of any depth; a, b = a list -/
theorem un_of {k : Nat} {A : Around} (r : RoomG k A) : A.units + 65 < cLine := by
  have := r.room.un
  omega
section
variable {K : PySem.W.Frag} {α : List Addr} {S : Hd} {H : Hp}
theorem pyL_of {f : D → Option PyData} (hf : ∀ d v y, Rp K α H d v → f d = some y → Dp K H v y) : ∀ {ds : List D} {vs : List V} {ys : List PyData}, Rps K α H ds vs → pyL f ds = some ys → DpAll K H vs ys
  | [], vs, ys, r, e => by
    rw [r.unnil]
    simp only [pyL, Option.some.injEq] at e
    subst e
    exact .nil
  | d :: ds, vs, ys, r, e => by
    obtain ⟨w, ws, rfl, r1, r2⟩ := r.uncons
    simp only [pyL, Option.bind_eq_some_iff, Option.map_eq_some_iff] at e
    obtain ⟨x, e1, xs, e2, rfl⟩ := e
    exact .cons (hf _ _ _ r1 e1) (pyL_of hf r2 e2)
theorem py_of (ok : Ok K α S H) : ∀ (n : Nat) (d : D) (v : V) (y : PyData), Rp K α H d v → py n S d = some y → Dp K H v y
  | 0, d, v, y, r, e => by cases d <;> simp [py] at e
  | n + 1, d, v, y, r, e => by
    cases d with
    | non => cases r; simp only [py, Option.some.injEq] at e; subst e; exact .non
    | bl b => cases r; simp only [py, Option.some.injEq] at e; subst e; exact .bl b
    | int i => cases r; simp only [py, Option.some.injEq] at e; subst e; exact .int i
    | str x => cases r; simp only [py, Option.some.injEq] at e; subst e; exact .str x
    | ty x => simp [py] at e
    | ro xs => simp [py] at e
    | tup xs =>
      simp only [py, Option.map_eq_some_iff] at e
      obtain ⟨ys, e1, rfl⟩ := e
      cases r with
      | tup h l q => exact .tup h (pyL_of (py_of ok n) ⟨l, q⟩ e1)
    | ref k =>
      simp only [py] at e
      split at e
      · rename_i xs e2
        simp only [Option.map_eq_some_iff] at e
        obtain ⟨ys, e1, rfl⟩ := e
        obtain ⟨a, vs, rfl, _, h, q⟩ := ok.lst e2 r
        exact .lst (SqL.of h) (pyL_of (py_of ok n) q e1)
      · cases e
end
def cdOf : Cd → CmpOp
  | .eq => .Eq | .ne => .NotEq | .in_ => .In | .notin => .NotIn
section
variable {X : Cx} {Γ : Fs} {a b : Expr} {ca cb : E} {pos : Pos}
theorem cd_of (hu : X.A.units + 65 < cLine) : ∀ o : Cd, OpR X (compareOp (cdOf o)) (rB X.K (cmpdD o))
  | .eq => fun pins s σ H x y v u Q I rx ry ⟨α, S, d1, d2, d, S', ok, r1, r2, e, k⟩ => by
    simp only [cmpdD, Option.bind_eq_some_iff] at e
    obtain ⟨y1, e1, y2, e2, e⟩ := e
    split at e
    · rename_i h
      simp only [Option.some.injEq, Prod.mk.injEq] at e
      obtain ⟨rfl, rfl⟩ := e
      exact op_eqD (by omega) pins s σ H _ _ v u Q I rx ry ⟨y1, y2, py_of ok _ _ _ _ r1 e1, py_of ok _ _ _ _ r2 e2, h.1, h.2, k α H _ Xt.refl ok (.bl _)⟩
    · cases e
  | .ne => fun pins s σ H x y v u Q I rx ry ⟨α, S, d1, d2, d, S', ok, r1, r2, e, k⟩ => by
    simp only [cmpdD, Option.bind_eq_some_iff] at e
    obtain ⟨y1, e1, y2, e2, e⟩ := e
    split at e
    · rename_i h
      simp only [Option.some.injEq, Prod.mk.injEq] at e
      obtain ⟨rfl, rfl⟩ := e
      exact op_neD (by omega) pins s σ H _ _ v u Q I rx ry ⟨y1, y2, py_of ok _ _ _ _ r1 e1, py_of ok _ _ _ _ r2 e2, h.1, h.2, k α H _ Xt.refl ok (.bl _)⟩
    · cases e
  | .in_ => fun pins s σ H x y v u Q I rx ry ⟨α, S, d1, d2, d, S', ok, r1, r2, e, k⟩ => by
    simp only [cmpdD, Option.bind_eq_some_iff] at e
    obtain ⟨y1, e1, y2, e2, e⟩ := e
    split at e
    · split at e
      · rename_i h
        simp only [Option.some.injEq, Prod.mk.injEq] at e
        obtain ⟨rfl, rfl⟩ := e
        exact op_inD hu pins s σ H _ _ v u Q I rx ry ⟨y1, _, py_of ok _ _ _ _ r1 e1, py_of ok _ _ _ _ r2 e2, h.1, h.2, k α H _ Xt.refl ok (.bl _)⟩
      · cases e
    · cases e
  | .notin => fun pins s σ H x y v u Q I rx ry ⟨α, S, d1, d2, d, S', ok, r1, r2, e, k⟩ => by
    simp only [cmpdD, Option.bind_eq_some_iff] at e
    obtain ⟨y1, e1, y2, e2, e⟩ := e
    split at e
    · split at e
      · rename_i h
        simp only [Option.some.injEq, Prod.mk.injEq] at e
        obtain ⟨rfl, rfl⟩ := e
        exact op_notInD hu pins s σ H _ _ v u Q I rx ry ⟨y1, _, py_of ok _ _ _ _ r1 e1, py_of ok _ _ _ _ r2 e2, h.1, h.2, k α H _ Xt.refl ok (.bl _)⟩
      · cases e
    · cases e
theorem cmpd_bl {o : Cd} {x y d : D} {S S' : Hd} (h : cmpdD o x y S = some (d, S')) : ∃ b, d = .bl b := by
  cases o <;> simp only [cmpdD, Option.bind_eq_some_iff] at h <;> obtain ⟨_, _, _, _, h⟩ := h <;> (repeat' split at h) <;> first | (cases h; done) | (simp only [Option.some.injEq, Prod.mk.injEq] at h; exact ⟨_, h.1.symm⟩)
theorem xe_cmpd (o : Cd) {k : Nat} (hr : RoomG k X.A) (ha : PE X a (tr X.K Γ ca)) (hb : PE X b (tr X.K Γ cb)) (hm : behindInMarks (cdOf o) b = false) : PE X (.Compare a [cdOf o] [b] pos) (tr X.K Γ (.cmpd o ca cb)) :=
  pe_w (pe_cmpR (cd_of (un_of hr) o) ha hb hm) fun σ H Q h => w_bin (fun _ _ => rfl) h
theorem xt_cmpd (o : Cd) {k : Nat} (hr : RoomG k X.A) (ha : PE X a (tr X.K Γ ca)) (hb : PE X b (tr X.K Γ cb)) (hm : behindInMarks (cdOf o) b = false) : PT X (.Compare a [cdOf o] [b] pos) (trT X.K Γ (.cmpd o ca cb)) :=
  pt_w (pt_cmpR (cd_of (un_of hr) o) ha hb hm) fun σ H Q h => w_test (fun env S d S' e => by
    simp only [ev, Option.bind_eq_some_iff] at e
    obtain ⟨_, _, _, _, e⟩ := e
    exact cmpd_bl e) (fun σ H Q h => w_bin (fun _ _ => rfl) h) h
end
section
variable {X : Cx} {Γ : Fs} {e : Expr} {ce : E} {pos tpos : Pos}
theorem xs_asgL {es : List Expr} {g : G} {k n : Nat} (hc : X.calm = true) (he : PE X e (tr X.K Γ ce)) (h : PGs X es (trGs X.K g)) (hl : gLen g = some n := by rfl) (hn : (assignEach es X.env).length = n := by rfl) (hst : (assignEach es X.env).findIdx? (·.1) = none := by rfl)
    (hs : swapsWithSole [.Tuple es k tpos] e pos.line X.env = pure false := by rfl) (hw : swappedStores [.Tuple es k tpos] e X.env = pure none := by rfl) (h1 : (assignEach [.Tuple es k tpos] X.env).map (·.2) = [assign (.Tuple es k tpos) X.env] := by rfl) :
    PS X (.Assign [.Tuple es k tpos] e pos) (trS X.K Γ (.asgL (.tup g) ce)) :=
  ps_w (ps_asg he (pg_unl hc h hn hst) hs hw h1) fun D σ H ⟨α, env, S, o, env', S', ok, en, e, kk⟩ => by
    simp only [ex, Option.bind_eq_some_iff, Option.map_eq_some_iff, Prod.mk.injEq] at e
    obtain ⟨⟨d, S1⟩, e1, xs, e2, env1, e3, rfl, rfl, rfl⟩ := e
    refine ⟨α, env, S, d, S1, ok, en, e1, fun α1 H1 v x1 ok1 r1 => ?_⟩
    split at e2
    · cases e2
    rename_i nt
    obtain ⟨a, vs, rfl, rs, z⟩ := seq_of ok1 r1 e2
    have z : SqL X.K H1 a vs := by
      rcases z with z | z
      · exact absurd z.1 nt
      · exact z.2
    simp only [asgG] at e3
    exact ⟨a, vs, rfl, z, by rw [rs.len, asg_len ⟨_, rfl⟩ hl e3], α1, env, xs, env1, rs, en.mono x1, e3, fun σ' en' _ => kk α1 H1 x1 ok1 σ' en'⟩
end
end Ix

namespace Ix
open PySem PySem.Spec PyProof.Rows L2
/-! ### sorted(set(numbers)) -/
/-- the set that a call of its class makes first -/
abbrev so (w : World) : Obj := { cls := .type "set", dict := none, data := .set #[] 0 (.fresh 0 0 (!w.params.followText "set-order")) }
section
variable {P : Program} {w : World} {A : Around} {E : Value → Shared → Prop} {s : Shared}
set_option maxHeartbeats 3200000 in
theorem set_of_list {l : Addr} {its : Array Value} (ns : List Int) {Q : Value → Shared → Prop} (nh : A.handled = none) (isl : s.heap.IsList l its) (ai : IntsAre its.toList ns) (room : ns.length + 1 < scanBound)
    (k : ∀ (h' : Heap) (tk c : Nat), SetR w h' s.heap.objs.size (fun j => decide (j ∈ ns)) c → c ≤ ns.length → (∀ b o, s.heap.get? b = some o → h'.get? b = some o) → Q (.ref s.heap.objs.size) { s with heap := h', toks := tk }) :
    wpAny (model P w) A (call (.type "set") [.ref l]) Q E s := by
  have sz : its.size = ns.length := by simpa using IntsAre.length ai
  obtain ⟨_, _, mro⟩ := F.called_set.mro
  have made := F.called_set.made
  have sub := F.called_set.sub
  refine wpAny_call (codeAny_of_tree ?_)
  show wpAny _ _ (callAny (.type "set") _) _ _ _
  refine wpAny_pure ⟨Code.quiet_builtin _ (by decide +kernel), codeAny_builtin F.entry_type_call ?_⟩
  rw [Around.under_plain (weight_type_call_type "set" [.ref l] []) rfl]
  have nt := F.called_set.notType
  have cc := F.called_set.canCreate
  have ct := F.typeCall_set_1 (.ref l)
  repeat (any_goals (first | assumption | wp_step))
  refine codeAny_mono (code_set_led1 (.ref l) (E := E) (Q₁ := fun u s₁ => u = .ref s.heap.objs.size ∧ s₁ = { s with heap := s.heap.push (so w) }) ⟨rfl, rfl⟩) fun r s₁ hr => ?_
  match r, hr with
  | .error _, hr => exact hr
  | .ok (.ret _), hr =>
    obtain ⟨rfl, rfl⟩ := hr
    have at1 : (s.heap.push (so w)).get? s.heap.objs.size = some (so w) := Heap.get?_push_size _ rfl
    have ty : Shared.TypeIs { s with heap := s.heap.push (so w) } (.ref s.heap.objs.size) "set" := ⟨_, at1, rfl⟩
    have lk := F.called_set.init.lookup
    have bd := F.called_set.init.bind (.ref s.heap.objs.size)
    repeat (any_goals (first | assumption | wp_step))
    refine codeAny_mono (codeAny_call_builtin (R := wants (fun u s₂ => u = .none ∧ ∃ h' tk c, s₂ = { s with heap := h', toks := tk } ∧ SetR w h' s.heap.objs.size (fun j => decide (j ∈ ns)) c ∧ c ≤ ns.length ∧ ∀ b o, s.heap.get? b = some o → h'.get? b = some o) E)
      F.called_set.init.plain F.entry_set_init (check_set_init_1 ty ?_)) fun r₂ s₂ hr₂ => ?_
    · obtain ⟨⟨oc, od, odt, os⟩, ho, e1, nl, e2⟩ := isl
      simp only at e1 e2
      subst e1 e2
      have ho' : (s.heap.push (so w)).get? l = some { cls := .type "list", dict := od, data := .seq its nl, slots := os } := Heap.get?_push_of_some _ ho
      have sl1 := F.sub_list_set
      have sl2 := F.sub_list_frozenset
      have nd : (Value.type "list" == Value.type "dict") = false := by decide
      have il : (s.heap.push (so w)).IsList l its := ⟨_, ho', rfl, nl, rfl⟩
      unfold Builtin.«set.__init__» noKeywords Builtin.Frozenset.updateFrom
      generalize hg : pyIter = PI
      wp_walk
      subst hg
      refine wpAny_pyIter_list il ?_
      refine wpAny_bind (wpAny_runValue ?_)
      have lt : l < s.heap.objs.size := Heap.lt_size ho
      have nh3 : A.in1.in1.in1.handled = none := by simp [nh]
      have z1 : (s.heap.push (so w)).objs.size = s.heap.objs.size + 1 := Heap.size_push ..
      have ne1 : l ≠ (s.heap.push (so w)).objs.size := by rw [z1]; exact Nat.ne_of_lt (Nat.lt_succ_of_lt lt)
      have nin : s.heap.objs.size ∉ [(s.heap.push (so w)).objs.size, l] := by
        rw [z1]
        simp only [List.mem_cons, List.not_mem_nil, or_false, not_or]
        exact ⟨Nat.ne_of_lt (Nat.lt_succ_self _), Nat.ne_of_gt lt⟩
      have val : ∀ (i : Nat) (v : Value), its[i]? = some v → ∃ m t, ns[i]? = some m ∧ v = .int m t := fun i v hv => by
        have hi : i < ns.length := by rw [← sz]; exact (Array.getElem?_eq_some_iff.mp hv).1
        obtain ⟨t, e⟩ := PyProof.Rows.IntsAre.int_at ai i v (by rw [Array.getElem?_toList]; exact hv)
        refine ⟨ns[i], t, List.getElem?_eq_getElem hi, ?_⟩
        rw [e, List.getD_eq_getElem?_getD, List.getElem?_eq_getElem hi] <;> rfl
      refine set_update_ints ((Walks.list nh3 _ l ne1 its).toS) s.heap.objs.size nin ns sz room val (its.size - 0) 0 _ (by omega) (Nat.zero_le _) ⟨⟨_, Heap.get?_push_size _ rfl, rfl, rfl⟩, il.push _⟩ ⟨0, Nat.le_refl 0, setR_new_at (Heap.get?_push_of_some _ at1)⟩ ?_
      intro s' c' mv hc' hS'
      obtain ⟨h', g2, d', tk', os'⟩ := s'
      obtain rfl : g2 = s.gens := mv.gens
      obtain rfl : d' = s.drawn := mv.drawn
      obtain rfl : os' = s.os := mv.os
      show wpAny _ _ _ _ _ _
      refine wpAny_pure ?_
      show wpAny _ _ (ret Value.none) _ _ _
      rw [sz] at hc'
      refine wpAny_pure ⟨rfl, h', tk', c', rfl, hS', hc', fun b o e => ?_⟩
      have lb : b < s.heap.objs.size := Heap.lt_size e
      refine mv.heap b o ?_ (Heap.get?_push_of_some _ (Heap.get?_push_of_some _ e))
      rw [z1]
      simp only [List.mem_cons, List.not_mem_nil, or_false, not_or]
      exact ⟨Nat.ne_of_lt lb, Nat.ne_of_lt (Nat.lt_succ_of_lt lb)⟩
    · match r₂, hr₂ with
      | .error _, hr₂ => exact hr₂
      | .ok (.ret _), hr₂ =>
        obtain ⟨rfl, h', tk, c', rfl, hS', hc', hk'⟩ := hr₂
        repeat (any_goals (first | assumption | wp_step))
        exact k _ _ _ hS' hc' hk'
end
theorem insU_mem {i x : Int} : ∀ {js : List Int}, x ∈ insU i js ↔ x = i ∨ x ∈ js
  | [] => by simp [insU]
  | j :: js => by
    unfold insU
    split
    · simp
    · split
      · rename_i e
        subst e
        simp
      · rw [List.mem_cons, insU_mem (js := js), List.mem_cons]
        constructor
        · rintro (h | h | h)
          · exact .inr (.inl h)
          · exact .inl h
          · exact .inr (.inr h)
        · rintro (h | h | h)
          · exact .inr (.inl h)
          · exact .inl h
          · exact .inr (.inr h)
theorem insU_asc {i : Int} : ∀ {js : List Int}, js.Pairwise (· < ·) → (insU i js).Pairwise (· < ·)
  | [], _ => by simp [insU]
  | j :: js, h => by
    unfold insU
    rw [List.pairwise_cons] at h
    split
    · rename_i c
      refine List.pairwise_cons.mpr ⟨fun x hx => ?_, List.pairwise_cons.mpr h⟩
      rcases List.mem_cons.mp hx with e | e
      · omega
      · have := h.1 x e
        omega
    · split
      · exact List.pairwise_cons.mpr h
      · refine List.pairwise_cons.mpr ⟨fun x hx => ?_, insU_asc h.2⟩
        rcases insU_mem.mp hx with e | e
        · omega
        · exact h.1 x e
theorem srtU_mem {x : Int} : ∀ {is : List Int}, x ∈ srtU is ↔ x ∈ is
  | [] => by simp [srtU]
  | i :: is => by rw [srtU, insU_mem, srtU_mem (is := is), List.mem_cons]
theorem srtU_asc : ∀ is : List Int, (srtU is).Pairwise (· < ·)
  | [] => .nil
  | i :: is => insU_asc (srtU_asc is)
theorem asc_one : ∀ {A B : List Int}, A.Pairwise (· < ·) → B.Pairwise (· < ·) → (∀ x, x ∈ A ↔ x ∈ B) → A = B
  | [], [], _, _, _ => rfl
  | [], b :: B, _, _, h => absurd ((h b).mpr List.mem_cons_self) (by simp)
  | a :: A, [], _, _, h => absurd ((h a).mp List.mem_cons_self) (by simp)
  | a :: A, b :: B, ha, hb, h => by
    rw [List.pairwise_cons] at ha hb
    have e : a = b := by
      rcases List.mem_cons.mp ((h a).mp List.mem_cons_self) with q | q
      · exact q
      · rcases List.mem_cons.mp ((h b).mpr List.mem_cons_self) with r | r
        · exact r.symm
        · have := ha.1 b r
          have := hb.1 a q
          omega
    subst e
    congr 1
    refine asc_one ha.2 hb.2 fun x => ⟨fun q => ?_, fun q => ?_⟩
    · rcases List.mem_cons.mp ((h x).mp (List.mem_cons_of_mem _ q)) with r | r
      · have := ha.1 x q
        omega
      · exact r
    · rcases List.mem_cons.mp ((h x).mpr (List.mem_cons_of_mem _ q)) with r | r
      · have := hb.1 x q
        omega
      · exact r
section
variable {X : Cx} {Γ : Fs} {a : Expr} {ca : E} {pos q p p2 : Pos}
/-- a set of numbers that a call of its class on a list makes -/
def rSetL' (w : World) (K : PySem.W.Frag) : List V → Hp → VK → Prop := fun vs H Q => ∃ (l : Addr) (ns : List Int), vs = [.ref l] ∧ SqL K H l (ns.map V.int) ∧ ns.length ≤ 4000 ∧ ∀ (p : Addr) (n : Nat), H p = none → (∀ ms : List Int, ms.Pairwise (· < ·) → (∀ x, x ∈ ms ↔ x ∈ ns) → ms.length = n) → Q (.ref p) (upd H p (SetO w p (fun j => decide (j ∈ ns)) n))
theorem ints_vals : ∀ {ns : List Int} {us : List Value}, Vals (ns.map V.int) us → IntsAre us ns
  | [], _, .nil => .nil
  | n :: ns, _, .cons r t => by
    obtain ⟨k, rfl⟩ := r
    exact .cons n k (ints_vals t)
theorem setR_count {w : World} {h : Heap} {a : Addr} {S : Int → Bool} {n : Nat} (R : SetR w h a S n) {ms : List Int} (hm : ms.Pairwise (· < ·)) (hs : ∀ x, x ∈ ms ↔ S x = true) : ms.length = n := by
  obtain ⟨o, es, ep, t, _, _, _, _, nd, km, _, _, hn, _⟩ := R
  have nm : ms.Nodup := hm.imp fun h => by omega
  have e : ms.Perm (es.toList.map keyOf) := (List.perm_ext_iff_of_nodup nm nd).mpr fun x => (hs x).trans (km x)
  rw [e.length_eq, List.length_map, Array.length_toList, hn]
theorem cr_setL (hc : X.calm = true) : CallR X (.type "set") (rSetL' X.w X.K) := by
  intro pins s σ H xs us Q I r ⟨l, ns, e, sq, hl, k⟩
  subst e
  obtain ⟨u, rfl, ru⟩ := vals1 r
  obtain rfl : u = Value.ref l := ru
  obtain ⟨its, rv, pl, hz⟩ := I.list sq
  refine set_of_list ns (I.ok.hd hc) pl.isList (by simpa using ints_vals rv) (by unfold scanBound; omega) fun h' tk c hS hc' hk => ?_
  have np := I.hok.fresh (Nat.le_refl s.heap.objs.size)
  refine ⟨.ref s.heap.objs.size, upd H s.heap.objs.size (SetO X.w s.heap.objs.size (fun j => decide (j ∈ ns)) c), I.laid (t' := tk) hk (Nat.le_refl _) (setO_new hS), rfl, k _ c np fun ms h1 h2 => setR_count hS h1 fun x => by rw [h2]; simp⟩
theorem xe_ssort (hc : X.calm = true) (hg : Gl X "sorted") (hm : X.mg "sorted" = none) (hg2 : Gl X "set") (hm2 : X.mg "set" = none) (ha : PE X a (tr X.K Γ ca))
    (he : starEach [a] X.env = (false, eval a X.env) :: starEach [] X.env := by rfl) (hpl : (backTo q (starEach [] X.env)).any (·.1) = false := by rfl)
    (he2 : starEach [.Call (.Name "set" p2) [a] [] q] X.env = (false, eval (.Call (.Name "set" p2) [a] [] q) X.env) :: starEach [] X.env := by rfl) (hpl2 : (backTo pos (starEach [] X.env)).any (·.1) = false := by rfl) :
    PE X (.Call (.Name "sorted" p) [.Call (.Name "set" p2) [a] [] q] [] pos) (tr X.K Γ (.blt .ssort_ (.cons ca .nil))) :=
  pe_w (pe_callB (cr_sortedSet hc) hg hm rfl (pa_cons (pe_callTy (cr_setL hc) hg2 hm2 rfl (pa_cons ha pa_nil he) (by decide) (by decide) he hpl) pa_nil he2) (by decide) (by decide) he2 hpl2) fun σ H Q ⟨α, env, S, d, S', ok, en, e, k⟩ => by
    simp only [ev] at e
    cases h1 : ev Γ ca env S with
    | none => rw [h1] at e; cases e
    | some x =>
      obtain ⟨d1, S1⟩ := x
      rw [h1] at e
      simp only [Option.bind_some, Option.map_some, argsOf, bltD, Option.bind_eq_some_iff] at e
      obtain ⟨ns, e1, e⟩ := e
      split at e
      · rename_i hb
        simp only [alloc, Option.some.injEq, Prod.mk.injEq] at e
        obtain ⟨rfl, rfl⟩ := e
        refine ⟨α, env, S, d1, S1, ok, en, h1, fun α1 H1 v1 x1 ok1 r1 => ?_⟩
        obtain ⟨l, rfl, sq⟩ := intsAt_of ok1 r1 e1
        refine ⟨l, ns, rfl, sq, hb.1, fun p n hp hn => ?_⟩
        have len : n < 64 := by
          have := hn (srtU ns) (srtU_asc ns) fun x => srtU_mem
          omega
        refine ⟨p, fun j => decide (j ∈ ns), n, rfl, upd_same, len, fun ms p' asc mem _ hp' => ?_⟩
        have em : ms = srtU ns := asc_one asc (srtU_asc ns) fun x => by rw [mem, srtU_mem]; simp
        subst em
        have ok2 : Ok X.K α1 S1 (upd H1 p (SetO X.w p (fun j => decide (j ∈ ns)) n)) := ok1.fresh hp
        refine go_new ok2 hp' ⟨by simp, fun i x v h1 h2 => ?_⟩ fun α' H' v x' => k α' H' v (x1.trans ((Xt.fresh hp).trans x'))
        rw [List.getElem?_map] at h1 h2
        cases hx : (srtU ns)[i]? with
        | none => rw [hx] at h1; cases h1
        | some m =>
          rw [hx] at h1 h2
          cases h1
          cases h2
          exact .int m
      · cases e
end
end Ix

namespace Ix
open PySem PySem.Spec PyProof.Rows L2
/-! ### dicts: displays, d[k] -/
def argsE : List (E × E) → E
  | [] => .nil
  | (k, v) :: r => .cons k (.cons v (argsE r))
inductive PsR (K : PySem.W.Frag) (α : List Addr) (H : Hp) : List D → List (V × V) → Prop where
  | nil : PsR K α H [] []
  | cons {k v : D} {a b : V} {ds : List D} {ps : List (V × V)} : Rp K α H k a → Rp K α H v b → PsR K α H ds ps → PsR K α H (k :: v :: ds) ((a, b) :: ps)
section
variable {K : PySem.W.Frag} {Γ : Fs} {α : List Addr} {S : Hd} {H : Hp}
theorem w_pairs {σ : L2.St} : ∀ {ces : List (E × E)} {env : Sl} {α : List Addr} {S S' : Hd} {H : Hp} {ds : List D} {Q : List (V × V) → Hp → Prop}, Ok K α S H → En K α H env σ → ev Γ (argsE ces) env S = some (.tup ds, S') →
    (∀ α' H' ps, Xt K α H α' H' → Ok K α' S' H' → PsR K α' H' ds ps → Q ps H') → tPairs (ces.map fun p => (tr K Γ p.1, tr K Γ p.2)) σ H Q
  | [], env, α, S, S', H, ds, Q, ok, en, e, k => by
    simp only [argsE, ev, Option.some.injEq, Prod.mk.injEq, D.tup.injEq] at e
    obtain ⟨rfl, rfl⟩ := e
    exact k α H [] Xt.refl ok .nil
  | (ck, cv) :: r, env, α, S, S', H, ds, Q, ok, en, e, k => by
    simp only [argsE, ev, Option.bind_eq_some_iff, Option.map_eq_some_iff] at e
    obtain ⟨⟨d1, S1⟩, e1, ⟨d2, S2⟩, ⟨⟨d3, S3⟩, e3, ⟨d4, S4⟩, e4, ds4, e5, e6⟩, ds2, e7, e8⟩ := e
    cases e6
    cases e8
    simp only [argsOf, Option.some.injEq] at e7
    subst e7
    cases argsOf_some e5
    refine ⟨α, env, S, d1, S1, ok, en, e1, fun α1 H1 v1 x1 ok1 r1 => ⟨α1, env, S1, d3, S3, ok1, en.mono x1, e3, fun α2 H2 v2 x2 ok2 r2 => ?_⟩⟩
    refine w_pairs ok2 (en.mono (x1.trans x2)) e4 fun α3 H3 ps x3 ok3 rs => ?_
    exact k α3 H3 _ (x1.trans (x2.trans x3)) ok3 (.cons (r1.mono (x2.trans x3)) (r2.mono x3) rs)
theorem psr_kvs : ∀ {ds : List D} {ps : List (V × V)} {ks : List (Key × D)}, PsR K α H ds ps → pairUp ds = some ks → ∃ kvs : List (Key × V), ps = kvs.map (fun kv => (kV kv.1, kv.2)) ∧ kvs.map (·.1) = ks.map (·.1) ∧ Rps K α H (ks.map (·.2)) (kvs.map (·.2))
  | [], ps, ks, r, e => by
    cases r
    simp only [pairUp, Option.some.injEq] at e
    subst e
    exact ⟨[], rfl, rfl, .nil⟩
  | [_], ps, ks, r, e => by simp [pairUp] at e
  | k :: v :: ds, ps, ks, r, e => by
    simp only [pairUp, Option.bind_eq_some_iff, Option.map_eq_some_iff] at e
    obtain ⟨x, e1, ks', e2, rfl⟩ := e
    cases r with
    | @cons _ _ a b _ ps r1 r2 r3 =>
      obtain ⟨kvs, rfl, h1, h2⟩ := psr_kvs r3 e2
      have ea : a = kV x := by
        cases k with
        | int i =>
          simp only [keyD, Option.some.injEq] at e1
          subst e1
          cases r1
          rfl
        | str z =>
          simp only [keyD, Option.some.injEq] at e1
          subst e1
          cases r1
          rfl
        | _ => simp [keyD] at e1
      subst ea
      exact ⟨(x, b) :: kvs, rfl, by simp [h1], h2.cons r2⟩
theorem mergeK_nodup : ∀ {more acc : List (Key × V)}, ((acc ++ more).map (·.1)).Nodup → mergeK acc more = acc ++ more
  | [], acc, _ => by simp [mergeK]
  | (k, v) :: more, acc, h => by
    have hk : (acc.any fun kv => decide (kv.1 = k)) = false := by
      rw [List.any_eq_false]
      intro x hx
      simp only [decide_eq_true_eq]
      intro e
      rw [List.map_append, List.nodup_append] at h
      exact h.2.2 x.1 (List.mem_map_of_mem hx) k (by simp) e
    have e : putK acc k v = acc ++ [(k, v)] := by
      unfold putK
      rw [hk]
      rfl
    have ih := mergeK_nodup (more := more) (acc := acc ++ [(k, v)]) (by rw [List.append_assoc]; exact h)
    rw [List.append_assoc] at ih
    show mergeK (putK acc k v) more = _
    rw [e, ih]
    rfl
theorem find_of : ∀ {ks : List (Key × D)} {vs : List (Key × V)} {k : Key} {d : D}, vs.map (·.1) = ks.map (·.1) → Rps K α H (ks.map (·.2)) (vs.map (·.2)) → findK ks k = some d → ∃ v, valV vs k = some v ∧ Rp K α H d v
  | [], vs, k, d, _, _, e => by simp [findK] at e
  | (x, dx) :: ks, [], k, d, h, _, _ => by simp at h
  | (x, dx) :: ks, (y, vy) :: vs, k, d, h, r, e => by
    simp only [List.map_cons, List.cons.injEq] at h
    obtain ⟨rfl, h⟩ := h
    obtain ⟨w, ws, e1, r1, r2⟩ := r.uncons
    simp only [List.map_cons, List.cons.injEq] at e1
    obtain ⟨rfl, rfl⟩ := e1
    unfold findK at e
    unfold valV
    rw [List.find?_cons] at e ⊢
    by_cases c : y = k
    · simp only [c, decide_true, Option.map_some, Option.some.injEq] at e ⊢
      subst e
      exact ⟨_, rfl, r1⟩
    · simp only [c, decide_false] at e ⊢
      exact find_of h r2 e
end
section
variable {X : Cx} {Γ : Fs} {a b : Expr} {ca cb : E} {pos : Pos} {keys : List (Option Expr)} {values : List Expr}
theorem xe_dct (ces : List (E × E)) (h : PPs X pos keys values (ces.map fun p => (tr X.K Γ p.1, tr X.K Γ p.2))) (hall : keys.all (·.isSome) = true) (hl : keys.length = values.length) (h0 : keys ≠ []) (h15 : keys.length ≤ 15) : PE X (.Dict keys values pos) (tr X.K Γ (.dct (argsE ces))) :=
  pe_w (pe_disp h hall hl h0 h15) fun σ H Q ⟨α, env, S, d, S', ok, en, e, k⟩ => by
    intro p hp
    simp only [ev, Option.bind_eq_some_iff] at e
    obtain ⟨⟨d1, S1⟩, e1, ds, e2, ks, e3, e⟩ := e
    cases argsOf_some e2
    split at e
    · rename_i hc
      simp only [Option.some.injEq, Prod.mk.injEq] at e
      obtain ⟨rfl, rfl⟩ := e
      obtain ⟨nd, len, hm⟩ := hc
      have okD : Ok X.K (α ++ [p]) (S ++ [.dct []]) (upd H p (.dK [])) := ok.snoc hp (o := .dct []) (u := .dK []) ⟨rfl, Rps.nil⟩
      refine w_pairs okD (en.mono (Xt.snoc hp)) e1 fun α1 H1 ps x1 ok1 rs => ?_
      have cell : S1[S.length]? = some (.dct []) := by
        revert hm
        generalize S1[S.length]? = q
        unfold isE
        split
        · intro _
          rfl
        · intro h
          cases h
      have kD : (α ++ [p])[S.length]? = some p := by rw [← ok.len]; simp
      have kk := x1.pre _ _ kD
      obtain ⟨a', vs, e4, e5, e6, e7, e8⟩ := ok1.dct cell (.ref kk)
      cases e4
      have vn : vs = [] := by simpa using e7
      subst vn
      obtain ⟨kvs, rfl, q1, q2⟩ := psr_kvs rs e3
      have len2 : kvs.length ≤ 15 := by
        have := congrArg List.length q1
        simp only [List.length_map] at this
        omega
      refine ⟨e6, kvs, rfl, len2, ?_⟩
      rw [mergeK_nodup (acc := []) (by rw [List.nil_append, q1]; exact nd), List.nil_append]
      have q2' : Rps X.K α1 (upd H1 p (.dK kvs)) (ks.map (·.2)) (kvs.map (·.2)) := q2.mono (Xt.writeD e6)
      exact k α1 _ _ ((Xt.snoc hp).trans (x1.trans (Xt.writeD e6))) (ok1.writeD e5 e6 (o := .dct ks) (u := .dK kvs) ⟨q1, q2⟩) (.ref kk)
    · cases e
theorem xe_dct0 : PE X (.Dict [] [] pos) (tr X.K Γ (.dct .nil)) :=
  pe_w pe_dnewK fun σ H Q ⟨α, env, S, d, S', ok, en, e, k⟩ => by
    intro p hp
    simp only [ev, Option.bind_some, argsOf, pairUp] at e
    split at e
    · simp only [Option.some.injEq, Prod.mk.injEq] at e
      obtain ⟨rfl, rfl⟩ := e
      have okD : Ok X.K (α ++ [p]) (S ++ [.dct []]) (upd H p (.dK [])) := ok.snoc hp (o := .dct []) (u := .dK []) ⟨rfl, Rps.nil⟩
      refine k _ _ _ (Xt.snoc hp) ?_ (Rp.snoc ok.len)
      rw [show (S ++ [O.dct []]).set S.length (.dct []) = S ++ [.dct []] by simp]
      exact okD
    · cases e
theorem xe_dget {k : Nat} (hr : RoomG k X.A) (ha : PE X a (tr X.K Γ ca)) (hb : PE X b (tr X.K Γ cb)) (hs : NoSl b) : PE X (.Subscript a b pos) (tr X.K Γ (.dget ca cb)) :=
  pe_w (pe_dget (by have := un_of hr; omega) ha hb hs) fun σ H Q ⟨α, env, S, d, S', ok, en, e, k⟩ => by
    simp only [ev, Option.bind_eq_some_iff] at e
    obtain ⟨⟨d1, S1⟩, e1, ⟨d2, S2⟩, e2, e3⟩ := e
    refine ⟨α, env, S, d1, S1, ok, en, e1, fun α1 H1 v1 x1 ok1 r1 => ⟨α1, env, S1, d2, S2, ok1, en.mono x1, e2, fun α2 H2 v2 x2 ok2 r2 => ?_⟩⟩
    have r1' := r1.mono x2
    cases d1 with
    | ref m =>
      simp only [dgetD] at e3
      split at e3
      · rename_i ks e4
        simp only [Option.bind_eq_some_iff, Option.map_eq_some_iff, Prod.mk.injEq] at e3
        obtain ⟨y, e5, d', e6, rfl, rfl⟩ := e3
        obtain ⟨p, vs, rfl, e7, e8, e9, e10⟩ := ok2.dct e4 r1'
        obtain ⟨v, e11, r3⟩ := find_of e9 e10 e6
        have ey : v2 = kV y := by
          cases d2 with
          | int i => simp only [keyD, Option.some.injEq] at e5; subst e5; cases r2; rfl
          | str z => simp only [keyD, Option.some.injEq] at e5; subst e5; cases r2; rfl
          | _ => simp [keyD] at e5
        subst ey
        refine ⟨p, v, rfl, ?_, k α2 H2 v (x1.trans x2) ok2 r3⟩
        rw [← e11]
        exact DGet.k e8
      · cases e3
    | _ => simp [dgetD] at e3
end
end Ix

namespace Ix
open PySem PySem.Spec PyProof.Rows L2
/-! ### dicts of the module: d[k], d.get(k); xs.count(text) -/
section
variable {X : Cx} {Γ : Fs} {a b : Expr} {ca cb : E} {pos p : Pos}
/-- what the written dict at a holds, as the table t tells it -/
def Kd (K : PySem.W.Frag) (w : World) (a : Addr) (t : List (Str × D)) : Prop := ∀ z d, lookC t z = some d → ∃ v, KDct K w a z v ∧ ∀ α H, Rp K α H d v
theorem xe_cix {x : Str} {t : List (Str × D)} {f : Addr} (hg : Gl X x) (hm : X.mg x = some (.ref f)) (hk : Kd X.K X.w f t) (hb : PE X b (tr X.K Γ cb)) (hs : PlainIx b) (hd : (x == ("__debug__" : Str)) = false := by decide) :
    PE X (.Subscript (.Name x p) b pos) (tr X.K Γ (.cix t cb)) :=
  pe_w (pe_ix ix_kdict (pe_glob (v := .ref f) hg hm rfl hd) hb hs) fun σ H Q ⟨α, env, S, d, S', ok, en, e, k⟩ => by
    simp only [ev, Option.bind_eq_some_iff] at e
    obtain ⟨⟨d1, S1⟩, e1, e2⟩ := e
    refine ⟨α, env, S, d1, S1, ok, en, e1, fun α1 H1 v1 x1 ok1 r1 => ?_⟩
    cases d1 with
    | str z =>
      simp only [Option.map_eq_some_iff, Prod.mk.injEq] at e2
      obtain ⟨d', e3, rfl, rfl⟩ := e2
      obtain ⟨v, kd, r⟩ := hk z d' e3
      cases r1
      exact ⟨f, z, v, rfl, rfl, kd, k α1 H1 v x1 ok1 (r α1 H1)⟩
    | _ => simp at e2
/-- the dict's look-up, or nothing -/
def KGet (K : PySem.W.Frag) (w : World) (a : Addr) (z : Str) (o : Option V) : Prop :=
  ∃ es n r, K.lookup a = some ⟨.type "dict", none, .dict es n, #[]⟩ ∧ PySem.W.KeysLit w.params es.toList ∧ (a == sysModules) = false ∧ PySem.W.nsIn K a z = some r ∧
    (match r, o with | some u, some v => RelV v u | none, none => True | _, _ => False)
def Kg (K : PySem.W.Frag) (w : World) (a : Addr) (t : List (Str × D)) : Prop := ∀ z, ∃ o, KGet K w a z o ∧ ∀ α H, Rp K α H ((lookC t z).getD .non) (o.getD .non)
def tKGet (K : PySem.W.Frag) (w : World) (f : Addr) (ty : TE) : TE := fun σ H Q => ty σ H fun y H2 => ∃ z o, y = .str z ∧ KGet K w f z o ∧ Q (o.getD .non) H2
theorem pe_kget {x : Str} {f : Addr} {e : Expr} {ty : TE} {apos cpos : Pos} (hg : Gl X x) (hm : X.mg x = some (.ref f)) (hty : ∃ es n, X.K.lookup f = some ⟨.type "dict", none, .dict es n, #[]⟩ ∧ PySem.W.KeysLit X.w.params es.toList) (he : PE X e ty) (m : M1 X (.Name x p) "get" apos e cpos)
    (hd : (x == ("__debug__" : Str)) = false := by decide) : PE X (.Call (.Attribute (.Name x p) "get" apos) [e] [] cpos) (tKGet X.K X.w f ty) := by
  obtain ⟨es0, n0, hl0, hk0⟩ := hty
  refine ⟨fun pins s σ H Q I h => ?_⟩
  have tyD : ∀ {pins : List (Addr × Obj)} {s : Shared} {σ : L2.St} {H : Hp}, Inv X pins σ H s → s.TypeIs (.ref f) "dict" := fun I => (PySem.W.mapOf_K (prog := X.prog) (w := X.w) I.kIn hl0 hk0).typeIs
  refine wpAny_Call_method m.base m.few m.line PySem.F.plainAttrs_dict PySem.F.slot_dict_get PySem.F.type_dict_get (ld_glob I hg hm ?_ hd)
  refine ⟨tyD I, fun b q => ?_, ?_⟩
  · cases q
    exact ⟨_, I.kIn _ _ hl0, rfl⟩
  rw [m.trees]
  refine Calls.callWith_builtin rfl (Calls.evalArgs_plain (Calls.spliced_cons (thn (he.run pins s σ H _ I h) fun iv s2 ⟨y, H2, I2, ry, z, o, ey, ⟨es, n, r, hl, hk, low, hn, hr⟩, q2⟩ => Calls.spliced_nil ?_)))
  subst ey
  obtain ⟨t, rfl⟩ := (show ∃ t, iv = Value.str z t from ry)
  have hm' := PySem.W.mapOf_K (prog := X.prog) (w := X.w) I2.kIn hl hk
  refine call_meetsIn PySem.F.slot_dict_get hm'.typeIs PySem.F.entry_dict_get (PySem.F.args_dict_get_2 _ _) (meets_dict_get (strKind X.prog X.w) f (strKind_is X.prog X.w z t) low) ⟨_, hm', ?_⟩
  rw [PySem.W.find_K hl hn]
  refine ⟨o.getD .non, H2, I2.tok _, ?_, q2⟩
  cases r with
  | none =>
    cases o with
    | none => rfl
    | some v => exact hr.elim
  | some u =>
    cases o with
    | none => exact hr.elim
    | some v => exact hr
theorem xe_cget {x : Str} {t : List (Str × D)} {f : Addr} {apos cpos : Pos} (hg : Gl X x) (hm : X.mg x = some (.ref f)) (hk : Kg X.K X.w f t) (hb : PE X b (tr X.K Γ cb)) (m : M1 X (.Name x p) "get" apos b cpos) (hd : (x == ("__debug__" : Str)) = false := by decide) :
    PE X (.Call (.Attribute (.Name x p) "get" apos) [b] [] cpos) (tr X.K Γ (.cget t cb)) := by
  obtain ⟨o0, ⟨es0, n0, _, hl0, hk0, _⟩, _⟩ := hk ""
  refine pe_w (pe_kget hg hm ⟨es0, n0, hl0, hk0⟩ hb m hd) fun σ H Q ⟨α, env, S, d, S', ok, en, e, k⟩ => ?_
  simp only [ev, Option.bind_eq_some_iff] at e
  obtain ⟨⟨d1, S1⟩, e1, e2⟩ := e
  refine ⟨α, env, S, d1, S1, ok, en, e1, fun α1 H1 v1 x1 ok1 r1 => ?_⟩
  cases d1 with
  | str z =>
    simp only [Option.some.injEq, Prod.mk.injEq] at e2
    obtain ⟨rfl, rfl⟩ := e2
    obtain ⟨o, kg, r⟩ := hk z
    cases r1
    exact ⟨z, o, rfl, kg, k α1 H1 _ x1 ok1 (r α1 H1)⟩
  | _ => simp at e2
/-- the rows of a written dict, as a table tells them -/
inductive TabR (K : PySem.W.Frag) : List DictEntry → List (Str × D) → Prop where
  | nil : TabR K [] []
  | cons {e : DictEntry} {es : List DictEntry} {z : Str} {d : D} {t : List (Str × D)} (tk : Tok) (v : V) (hk : e.key = .str z tk) (rv : RelV v e.val) (r : ∀ α H, Rp K α H d v) : TabR K es t → TabR K (e :: es) ((z, d) :: t)
theorem tab_find {K : PySem.W.Frag} (z : Str) : ∀ {es : List DictEntry} {t : List (Str × D)}, TabR K es t →
    (∃ e d v, es.find? (·.key.isStr z) = some e ∧ lookC t z = some d ∧ RelV v e.val ∧ ∀ α H, Rp K α H d v) ∨ (es.find? (·.key.isStr z) = none ∧ lookC t z = none ∧ es.any (·.refKey) = false)
  | _, _, .nil => .inr ⟨rfl, rfl, rfl⟩
  | _, _, @TabR.cons _ e es y d t tk v hk rv r rest => by
    have hs : e.key.isStr z = decide (y = z) := by
      rw [hk]
      show (y == z) = decide (y = z)
      by_cases h : y = z
      · subst h
        simp
      · simp [h]
    have hr : e.refKey = false := by
      unfold DictEntry.refKey
      rw [hk]
    by_cases h : y = z
    · refine .inl ⟨e, d, v, ?_, ?_, rv, r⟩
      · rw [List.find?_cons, hs]
        simp [h]
      · unfold lookC
        rw [List.find?_cons]
        simp [h]
    · have l1 : (e :: es).find? (·.key.isStr z) = es.find? (·.key.isStr z) := by
        rw [List.find?_cons, hs]
        simp [h]
      have l2 : lookC ((y, d) :: t) z = lookC t z := by
        unfold lookC
        rw [List.find?_cons]
        simp [h]
      rw [l1, l2]
      rcases tab_find z rest with ⟨e', d', v', h1, h2, h3, h4⟩ | ⟨h1, h2, h3⟩
      · exact .inl ⟨e', d', v', h1, h2, h3, h4⟩
      · exact .inr ⟨h1, h2, by rw [List.any_cons, hr, h3]; rfl⟩
/-- which keys there are -/
def Kn (K : PySem.W.Frag) (w : World) (a : Addr) (t : List (Str × D)) : Prop := ∃ es n, KDict K w a es n ∧ ∀ z, ∃ r, PySem.W.nsIn K a z = some r ∧ r.isSome = (lookC t z).isSome
def Kt (K : PySem.W.Frag) (w : World) (a : Addr) (t : List (Str × D)) : Prop := Kd K w a t ∧ Kg K w a t ∧ Kn K w a t
theorem kt_of {K : PySem.W.Frag} {w : World} {a : Addr} {es : Array DictEntry} {n : Nat} {t : List (Str × D)} (hl : K.lookup a = some ⟨.type "dict", none, .dict es n, #[]⟩) (hk : PySem.W.KeysLit w.params es.toList) (low : (a == sysModules) = false) (ht : TabR K es.toList t) : Kt K w a t := by
  have ns : ∀ z, PySem.W.nsIn K a z = match es.toList.find? (·.key.isStr z) with
      | some e => some (some e.val)
      | none => if es.toList.any (·.refKey) then none else some none := fun z => by
    unfold PySem.W.nsIn
    rw [hl]
    rfl
  refine ⟨?_, ?_, es, n, ⟨hl, hk, low⟩, fun z => ?_⟩
  · intro z d hd
    rcases tab_find z ht with ⟨e, d', v, h1, h2, h3, h4⟩ | ⟨h1, h2, h3⟩
    · rw [hd] at h2
      cases h2
      exact ⟨v, ⟨es, n, e.val, hl, hk, by rw [ns, h1], h3⟩, h4⟩
    · rw [hd] at h2
      cases h2
  · intro z
    rcases tab_find z ht with ⟨e, d', v, h1, h2, h3, h4⟩ | ⟨h1, h2, h3⟩
    · exact ⟨some v, ⟨es, n, some e.val, hl, hk, low, by rw [ns, h1], h3⟩, fun α H => by rw [h2]; exact h4 α H⟩
    · exact ⟨none, ⟨es, n, none, hl, hk, low, by rw [ns, h1, h3]; rfl, trivial⟩, fun α H => by rw [h2]; exact .non⟩
  · rcases tab_find z ht with ⟨e, d', v, h1, h2, h3, h4⟩ | ⟨h1, h2, h3⟩
    · exact ⟨some e.val, by rw [ns, h1], by rw [h2]; rfl⟩
    · exact ⟨none, by rw [ns, h1, h3]; rfl, by rw [h2]; rfl⟩
theorem strs_vals : ∀ {ys : List Str} {its : List Value}, Vals (ys.map V.str) its → StrsAre its ys
  | [], _, r => by cases r; exact .nil
  | y :: ys, _, r => by
    cases r with
    | cons h r =>
      obtain ⟨t, rfl⟩ := h
      exact .cons y t (strs_vals r)
def rCntS (K : PySem.W.Frag) : V → List V → Hp → VK → Prop := fun x xs H Q => ∃ (q : Addr) (ys : List Str) (z : Str), x = .ref q ∧ xs = [.str z] ∧ SqL K H q (ys.map V.str) ∧ Q (.int (PySem.Spec.countIn (.str z) (ys.map PyData.str))) H
theorem mt_countS : MtR X "list.count" (rCntS X.K) := by
  intro pins s σ H x xs v us Q I rx rxs h
  obtain ⟨q, ys, z, rfl, rfl, hs, hq⟩ := h
  cases rx
  obtain ⟨u, rfl, ru⟩ := rxs.one
  obtain ⟨t, rfl⟩ := ru
  obtain ⟨its, rv, isl, hlen⟩ := I.list hs
  obtain ⟨o, n, ho, hc, hdn, hd⟩ := isl
  exact count_list_strs (vs := its) ⟨o, ho, hc, n, hd⟩ (strs_vals rv) ⟨.int (PySem.Spec.countIn (.str z) (ys.map PyData.str)), H, I.tok _, ⟨s.toks, rfl⟩, hq⟩
theorem strsD_map : ∀ {ds : List D} {ys : List Str} {K : PySem.W.Frag} {α : List Addr} {H : Hp} {vs : List V}, strsD ds = some ys → Rps K α H ds vs → vs = ys.map V.str
  | [], ys, K, α, H, vs, e, r => by
    simp only [strsD, Option.some.injEq] at e
    subst e
    exact r.unnil
  | d :: ds, ys, K, α, H, vs, e, r => by
    obtain ⟨w, ws, rfl, r1, r2⟩ := r.uncons
    cases d with
    | str z =>
      simp only [strsD, Option.map_eq_some_iff] at e
      obtain ⟨zs, e1, rfl⟩ := e
      cases r1
      rw [strsD_map e1 r2]
      rfl
    | _ => simp [strsD] at e
theorem xe_cnts {apos cpos : Pos} {o e : Expr} {co ce : E} (ho : PE X o (tr X.K Γ co)) (he : PE X e (tr X.K Γ ce))
    (hbase : attributeBase o "count" X.env (eval o X.env) = eval o X.env := by rfl)
    (hfew : ((backTo cpos (starEach [e] X.env)).all (fun x => !x.1) && (backToKw cpos (keywordEach [] X.env)).all (fun x => x.1.isSome)
      && decide (([e] : List Expr).length + ([] : List Keyword).length + (if ([] : List Keyword).isEmpty then 0 else 1) < 30)) = true := by rfl)
    (hline : (apos.endLine == cpos.line) = true := by rfl) (hs : starEach [e] X.env = (false, eval e X.env) :: starEach [] X.env := by rfl) (hplain : (backTo cpos (starEach ([] : List Expr) X.env)).any (·.1) = false := by rfl) :
    PE X (.Call (.Attribute o "count" apos) [e] [] cpos) (tr X.K Γ (.cnts co ce)) :=
  pe_w (pe_bm PySem.F.plainAttrs_list PySem.F.slot_list_count PySem.F.type_list_count mt_countS ho (pa_cons he pa_nil hs) hbase hfew hline hs hplain) fun σ H Q ⟨α, env, S, d, S', ok, en, e, k⟩ => by
    simp only [ev, Option.bind_eq_some_iff] at e
    obtain ⟨⟨d1, S1⟩, e1, e2⟩ := e
    split at e2
    · rename_i hl
      simp only [Option.bind_eq_some_iff] at e2
      obtain ⟨⟨d2, S2⟩, e2, e3⟩ := e2
      refine ⟨α, env, S, d1, S1, ok, en, e1, fun α1 H1 v1 x1 ok1 r1 => ⟨lst_ty ok1 r1 hl, α1, env, S1, d2, S2, ok1, en.mono x1, e2, fun α2 H2 v2 x2 ok2 r2 => ?_⟩⟩
      have r1' := r1.mono x2
      cases d1 with
      | ref m =>
        cases d2 with
        | str z =>
          simp only [cntD] at e3
          split at e3
          · rename_i xs e4
            simp only [Option.map_eq_some_iff, Prod.mk.injEq] at e3
            obtain ⟨ys, e5, rfl, rfl⟩ := e3
            obtain ⟨q, vs, rfl, _, h, rs⟩ := ok2.lst e4 r1'
            have ev := strsD_map e5 rs
            subst ev
            cases r2
            exact ⟨q, ys, z, rfl, rfl, SqL.of h, k α2 H2 _ (x1.trans x2) ok2 (.int _)⟩
          · cases e3
        | _ => simp [cntD] at e3
      | _ => simp [cntD] at e3
    · cases e2
end
section
variable {X : Cx} {Γ : Fs} {a b c : Expr} {cs : E} {pos : Pos}
/-- x, y, z = a, b, c -/
theorem xs_par3 {i j l : Nat} {x y z : Str} {px py pz pt : Pos} {kt k2 pt2} (hc : X.calm = true) (hN : X.N.Nodup) (hi : X.N[i]? = some x) (hj : X.N[j]? = some y) (hl : X.N[l]? = some z) (hij : i ≠ j) (hil : i ≠ l) (hjl : j ≠ l)
    (hx : X.env.scope.names.lookup x = some .local) (hy : X.env.scope.names.lookup y = some .local) (hz : X.env.scope.names.lookup z = some .local) (ha : PA X [a, b, c] (trA X.K Γ cs))
    (hw : swappedStores [.Tuple [.Name x px, .Name y py, .Name z pz] kt pt] (.Tuple [a, b, c] k2 pt2) X.env = pure (some [x, y, z]) := by rfl)
    (hs : swapsWithSole [.Tuple [.Name x px, .Name y py, .Name z pz] kt pt] (.Tuple [a, b, c] k2 pt2) pos.line X.env = pure false := by rfl) :
    PS X (.Assign [.Tuple [.Name x px, .Name y py, .Name z pz] kt pt] (.Tuple [a, b, c] k2 pt2) pos) (trS X.K Γ (.asg (.tup (.cons (.name i) (.cons (.name j) (.cons (.name l) .nil)))) (.tup cs))) :=
  ps_w (ps_par3 hc hN hi hj hl hij hil hjl hx hy hz ha hw hs) fun D σ H ⟨α, env, S, o, env', S', ok, en, e1, k⟩ => by
    simp only [ex, ev, Option.bind_eq_some_iff, Option.map_eq_some_iff, Prod.mk.injEq] at e1
    obtain ⟨⟨d, S1⟩, ⟨⟨d2, S2⟩, e2, ds, e3, e4⟩, env1, e5, rfl, rfl, rfl⟩ := e1
    cases argsOf_some e3
    split at e4
    · simp only [Option.some.injEq, Prod.mk.injEq] at e4
      obtain ⟨rfl, rfl⟩ := e4
      refine ⟨α, env, S, ds, S2, ok, en, e2, fun α1 H1 vs x1 ok1 r1 => ?_⟩
      match ds, e5, r1 with
      | [d1, d2, d3], e5, r1 =>
        obtain ⟨u, us, rfl, r2, r1⟩ := r1.uncons
        obtain ⟨v, vs, rfl, r3, r1⟩ := r1.uncons
        obtain ⟨w, ws, rfl, r4, r1⟩ := r1.uncons
        have e0 := r1.unnil
        subst e0
        simp only [asgG, Option.bind_some, Option.some.injEq] at e5
        subst e5
        exact ⟨u, v, w, rfl, k α1 H1 x1 ok1 _ ((((en.mono x1).set i r2).set j r3).set l r4)⟩
      | [], e5, r1 => simp [asgG] at e5
      | [_], e5, r1 => simp [asgG] at e5
      | [_, _], e5, r1 => simp [asgG] at e5
      | _ :: _ :: _ :: _ :: _, e5, r1 => simp [asgG] at e5
    · cases e4
end
end Ix

namespace Ix
open PySem PySem.Spec PyProof.Rows L2
/-! ### repr of data -/
section
variable {X : Cx} {Γ : Fs} {e : Expr} {ce : E} {pos p : Pos} {k : Nat}
def rRepr (K : PySem.W.Frag) : List V → Hp → VK → Prop := fun xs H Q => ∃ (a : Addr) (d : PyData), xs = [.ref a] ∧ Dp K H (.ref a) d ∧ d.showable = true ∧ d.hasDict = false ∧ d.depth ≤ 64 ∧ d.shown.length ≤ sizeLine ∧ Q (.str d.shown) H
theorem call_reprD (hr : RoomG k X.A) : CallR X (.builtin "repr") (rRepr X.K) := by
  intro pins s σ H xs us Q I r h
  obtain ⟨a, d, rfl, hd, h1, h2, h3, h4, q⟩ := h
  obtain ⟨u, rfl, ru⟩ := vals1 r
  obtain ⟨as, rd⟩ := Dp.reads I d _ _ hd ru
  cases ru
  have un := hr.room.un
  refine repr_of_reads' rd h1 (fun z => by rw [h2] at z; cases z) hr.none (by omega) (fun _ _ z => z) (fun h' v tk keep => ?_) h4
  exact ⟨.str d.shown, H, I.kept keep, ⟨v, rfl⟩, q⟩
theorem xe_rpr {x : Str} (hr : RoomG k X.A) (hg : Gl X x) (hm : X.mg x = none) (hv : bootBuiltins x = some (.builtin "repr")) (ha : PE X e (tr X.K Γ ce)) (hn : x ≠ "__name__" := by decide) (hdb : (x == ("__debug__" : Str)) = false := by decide)
    (he : starEach [e] X.env = (false, eval e X.env) :: starEach [] X.env := by rfl) (hpl : (backTo pos (starEach ([] : List Expr) X.env)).any (·.1) = false := by rfl) : PE X (.Call (.Name x p) [e] [] pos) (tr X.K Γ (.rpr ce)) :=
  pe_w (pe_callB (call_reprD hr) hg hm hv (pa_cons ha pa_nil he) hn hdb he hpl) fun σ H Q ⟨α, env, S, d, S', ok, en, e, k⟩ => by
    simp only [ev, Option.bind_eq_some_iff] at e
    obtain ⟨⟨d1, S1⟩, e1, e2⟩ := e
    refine ⟨α, env, S, d1, S1, ok, en, e1, fun α1 H1 v1 x1 ok1 r1 => ?_⟩
    have fin : ∀ a, v1 = .ref a → (py 9 S1 d1).bind (fun d => if PyData.showable d = true ∧ PyData.hasDict d = false ∧ PyData.depth d ≤ 64 ∧ (PyData.shown d).length ≤ sizeLine then some (D.str (PyData.shown d), S1) else none) = some (d, S') → rRepr X.K [v1] H1 Q := fun a ea e3 => by
      simp only [Option.bind_eq_some_iff] at e3
      obtain ⟨y, e4, e5⟩ := e3
      split at e5
      · rename_i c
        simp only [Option.some.injEq, Prod.mk.injEq] at e5
        obtain ⟨rfl, rfl⟩ := e5
        subst ea
        exact ⟨a, y, rfl, py_of ok1 _ _ _ _ r1 e4, c.1, c.2.1, c.2.2.1, c.2.2.2, k α1 H1 _ x1 ok1 (.str _)⟩
      · cases e5
    cases d1 with
    | tup xs =>
      cases r1 with
      | tup h l q => exact fin _ rfl e2
    | ref m =>
      cases r1 with
      | ref h => exact fin _ rfl e2
    | _ => simp [rprD] at e2
end
end Ix

namespace Ix
open PySem PySem.Spec PyProof.Rows L2
/-! ### clear, join, get with a default -/
section
variable {X : Cx} {Γ : Fs} {a b c : Expr} {ca cb cc : E} {pos p : Pos}
theorem xe_clear {apos cpos : Pos} {o : Expr} {co : E} (ho : PE X o (tr X.K Γ co)) (hbase : attributeBase o "clear" X.env (eval o X.env) = eval o X.env := by rfl) (hline : (apos.endLine == cpos.line) = true := by rfl) :
    PE X (.Call (.Attribute o "clear" apos) [] [] cpos) (tr X.K Γ (.meth .clear co .nil)) :=
  pe_w (pe_bm0 PySem.F.plainAttrs_list PySem.F.slot_list_clear PySem.F.type_list_clear m_clear ho hbase hline) fun σ H Q ⟨α, env, S, d, S', ok, en, e, k⟩ => by
    simp only [ev, Option.bind_eq_some_iff] at e
    obtain ⟨⟨d1, S1⟩, e1, e2⟩ := e
    split at e2
    · rename_i hl
      simp only [Option.bind_some, argsOf] at e2
      exact ⟨α, env, S, d1, S1, ok, en, e1, fun α1 H1 v1 x1 ok1 r1 => ⟨lst_ty ok1 r1 hl, ⟨α1, S1, d1, [], d, S', ok1, r1, Rps.nil, e2, fun α3 H3 v x3 ok3 r3 => k α3 H3 v (x1.trans x3) ok3 r3⟩⟩⟩
    · cases e2
theorem strs_of {K : PySem.W.Frag} {α : List Addr} {H : Hp} : ∀ {xs : List D} {ys : List Str} {vs : List V}, strsD xs = some ys → Rps K α H xs vs → vs = ys.map V.str
  | [], ys, vs, h, r => by
    simp only [strsD, Option.some.injEq] at h
    subst h
    exact r.unnil
  | d :: ds, ys, vs, h, r => by
    cases d with
    | str z =>
      simp only [strsD, Option.map_eq_some_iff] at h
      obtain ⟨zs, h1, rfl⟩ := h
      obtain ⟨w, ws, rfl, r1, r2⟩ := r.uncons
      cases r1
      rw [strs_of h1 r2]
      rfl
    | _ => simp [strsD] at h
theorem xe_joinS {apos : Pos} {z : Str} {j : Nat} {p2 : Pos} (ha : PE X a (tr X.K Γ ca)) (hs : starEach [a] X.env = [(false, eval a X.env)] := by rfl)
    (hbase : attributeBase (.Constant (.str z) j p2) "join" X.env (eval (.Constant (.str z) j p2) X.env) = eval (.Constant (.str z) j p2) X.env := by rfl) (hline : (apos.endLine == pos.line) = true := by rfl) :
    PE X (.Call (.Attribute (.Constant (.str z) j p2) "join" apos) [a] [] pos) (tr X.K Γ (.joinS z ca)) :=
  pe_w (pe_join (pe_str (x := z)) ha hs hbase hline) fun σ H Q ⟨α, env, S, d, S', ok, en, e, k⟩ => by
    simp only [ev, Option.bind_eq_some_iff, joinD] at e
    obtain ⟨⟨d1, S1⟩, e1, ys, ⟨xs, e2, e3⟩, e4⟩ := e
    split at e4
    · rename_i hz
      simp only [Option.some.injEq, Prod.mk.injEq] at e4
      obtain ⟨rfl, rfl⟩ := e4
      refine ⟨⟨z, rfl⟩, α, env, S, d1, S1, ok, en, e1, fun α1 H1 v1 x1 ok1 r1 => ?_⟩
      obtain ⟨q, vs, rfl, rs, t⟩ := seq_of ok1 r1 e2
      have ev := strs_of e3 rs
      subst ev
      exact ⟨z, q, ys, rfl, rfl, t.elim (fun t => .inr t.2) fun t => .inl t.2, hz, k α1 H1 _ x1 ok1 (.str _)⟩
    · cases e4
theorem find_no {K : PySem.W.Frag} {α : List Addr} {H : Hp} : ∀ {ks : List (Key × D)} {vs : List (Key × V)} {k : Key}, vs.map (·.1) = ks.map (·.1) → findK ks k = none → valV vs k = none
  | [], [], k, _, _ => rfl
  | [], _ :: _, k, h, _ => by simp at h
  | (x, dx) :: ks, [], k, h, _ => by simp at h
  | (x, dx) :: ks, (y, vy) :: vs, k, h, e => by
    simp only [List.map_cons, List.cons.injEq] at h
    obtain ⟨rfl, h⟩ := h
    unfold findK at e
    unfold valV
    rw [List.find?_cons] at e ⊢
    by_cases c : y = k
    · simp [c] at e
    · simp only [c, decide_false] at e ⊢
      exact find_no (K := K) (α := α) (H := H) h e
theorem xe_getd {k : Nat} {apos cpos : Pos} (hr : RoomG k X.A) (ha : PE X a (tr X.K Γ ca)) (hb : PE X b (tr X.K Γ cb)) (hc : PE X c (tr X.K Γ cc)) (m : M2 X a "get" apos b c cpos) :
    PE X (.Call (.Attribute a "get" apos) [b, c] [] cpos) (tr X.K Γ (.getd ca cb cc)) :=
  pe_w (pe_dget2 (by have := un_of hr; omega) ha hb hc m) fun σ H Q ⟨α, env, S, d, S', ok, en, e, k⟩ => by
    simp only [ev, Option.bind_eq_some_iff] at e
    obtain ⟨⟨d1, S1⟩, e1, e2⟩ := e
    split at e2
    · rename_i hd
      simp only [Option.bind_eq_some_iff] at e2
      obtain ⟨⟨d2, S2⟩, e2, ⟨d3, S3⟩, e3, e4⟩ := e2
      refine ⟨α, env, S, d1, S1, ok, en, e1, fun α1 H1 v1 x1 ok1 r1 => ?_⟩
      cases d1 with
      | ref m =>
        have hd2 : ∃ ks, S1[m]? = some (.dct ks) := by
          simp only [isDct] at hd
          split at hd
          · exact ⟨_, by assumption⟩
          · cases hd
        obtain ⟨ks0, hk0⟩ := hd2
        obtain ⟨p0, vs0, rfl, e7, e8, _, _⟩ := ok1.dct hk0 r1
        refine ⟨p0, rfl, .inl ⟨vs0, .inl e8⟩, α1, env, S1, d2, S2, ok1, en.mono x1, e2, fun α2 H2 v2 x2 ok2 r2 => ⟨α2, env, S2, d3, S3, ok2, en.mono (x1.trans x2), e3, fun α3 H3 v3 x3 ok3 r3 => ?_⟩⟩
        have r1' := r1.mono (x2.trans x3)
        have r2' := r2.mono x3
        simp only [getdD] at e4
        split at e4
        · rename_i ks e5
          simp only [Option.map_eq_some_iff, Prod.mk.injEq] at e4
          obtain ⟨y, e6, rfl, rfl⟩ := e4
          obtain ⟨p, vs, ep, e9, e10, e11, e12⟩ := ok3.dct e5 r1'
          cases ep
          have ey : v2 = kV y := by
            cases d2 with
            | int i => simp only [keyD, Option.some.injEq] at e6; subst e6; cases r2; rfl
            | str z => simp only [keyD, Option.some.injEq] at e6; subst e6; cases r2; rfl
            | _ => simp [keyD] at e6
          subst ey
          refine ⟨valV vs y, DGet.k e10, ?_⟩
          cases hf : findK ks y with
          | none =>
            rw [find_no (K := X.K) (α := α3) (H := H3) e11 hf]
            rw [hf] at k
            exact k α3 H3 v3 (x1.trans (x2.trans x3)) ok3 r3
          | some dd =>
            obtain ⟨v, e13, r4⟩ := find_of e11 e12 hf
            rw [e13]
            rw [hf] at k
            exact k α3 H3 v (x1.trans (x2.trans x3)) ok3 r4
        · cases e4
      | _ => simp [isDct] at hd
    · cases e2
theorem xe_din {k : Nat} (hr : RoomG k X.A) (ha : PE X a (tr X.K Γ ca)) (hb : PE X b (tr X.K Γ cb)) (hm : behindInMarks .In b = false) : PE X (.Compare a [.In] [b] pos) (tr X.K Γ (.din ca cb)) :=
  pe_w (pe_cmp (pc_din (by have := un_of hr; omega) ha hb) hm) fun σ H Q ⟨α, env, S, d, S', ok, en, e, k⟩ => by
    simp only [ev, Option.bind_eq_some_iff] at e
    obtain ⟨⟨d1, S1⟩, e1, ⟨d2, S2⟩, e2, e3⟩ := e
    refine ⟨α, env, S, d1, S1, ok, en, e1, fun α1 H1 v1 x1 ok1 r1 => ⟨α1, env, S1, d2, S2, ok1, en.mono x1, e2, fun α2 H2 v2 x2 ok2 r2 => ?_⟩⟩
    cases d2 with
    | ref m =>
      simp only [dinD] at e3
      split at e3
      · rename_i ks e5
        simp only [Option.map_eq_some_iff, Prod.mk.injEq] at e3
        obtain ⟨y, e6, rfl, rfl⟩ := e3
        obtain ⟨p, vs, ep, e9, e10, e11, e12⟩ := ok2.dct e5 r2
        cases ep
        have r1' := r1.mono x2
        have ey : v1 = kV y := by
          cases d1 with
          | int i => simp only [keyD, Option.some.injEq] at e6; subst e6; cases r1; rfl
          | str z => simp only [keyD, Option.some.injEq] at e6; subst e6; cases r1; rfl
          | _ => simp [keyD] at e6
        subst ey
        refine ⟨p, valV vs y, rfl, DGet.k e10, ?_⟩
        cases hf : findK ks y with
        | none =>
          rw [find_no (K := X.K) (α := α2) (H := H2) e11 hf]
          rw [hf] at k
          exact k α2 H2 (.bl false) (x1.trans x2) ok2 (.bl _)
        | some d0 =>
          obtain ⟨v, ev1, rv⟩ := find_of (K := X.K) (α := α2) (H := H2) e11 e12 hf
          rw [ev1]
          rw [hf] at k
          exact k α2 H2 (.bl true) (x1.trans x2) ok2 (.bl _)
      · cases e3
    | _ => simp [dinD] at e3
end
end Ix

namespace Ix
open PySem PySem.Spec PyProof.Rows L2
/-! ### while, signs of texts, keys of written dicts -/
section
variable {X : Cx} {Γ : Fs} {a b : Expr} {ca cb : E} {pos p : Pos}
theorem loopW_succ {test : Sl → Hd → Option (Bool × Hd)} {body : Sl → Hd → Option (Out × Sl × Hd)} {n : Nat} {env : Sl} {S : Hd} : loopW test body (n + 1) env S = (test env S).bind fun t => if t.1 = true then (body env t.2).bind fun r => match r.1 with
    | .brk => some (.nx, r.2)
    | .ret x => some (.ret x, r.2)
    | _ => loopW test body n r.2.1 r.2.2
    else some (.nx, env, t.2) := rfl
theorem xs_while {body : List Stmt} {cc : E} {c1 : Sx} {c : Expr} (hp : PassesOwn (model X.prog X.w) X.A X.env X.xe) (hc : PT X c (trT X.K Γ cc)) (hb : PSs X body (trS X.K Γ c1)) : PS X (.While c body [] pos) (trS X.K Γ (.while_ cc c1)) :=
  ps_w (ps_while hp hc hb) fun D σ H ⟨α, env, S, o, env', S', ok, en, e, kn⟩ => by
    simp only [ex] at e
    refine ⟨fun m σ1 H1 => ∃ α1 env1 S1, Ok X.K α1 S1 H1 ∧ En X.K α1 H1 env1 σ1 ∧ Xt X.K α H α1 H1 ∧ loopW (fun e S1 => tst (ev Γ cc e S1)) (fun e S1 => ex Γ c1 e S1) m env1 S1 = some (o, env', S'), ⟨most, α, env, S, ok, en, Xt.refl, e⟩, ?_⟩
    rintro m σ1 H1 ⟨α1, env1, S1, ok1, en1, x1, lp⟩
    cases m with
    | zero => simp [loopW] at lp
    | succ m =>
      rw [loopW_succ] at lp
      simp only [Option.bind_eq_some_iff] at lp
      obtain ⟨⟨t, S2⟩, e1, e2⟩ := lp
      refine ⟨α1, env1, S1, t, S2, ok1, en1, e1, fun α2 H2 x2 ok2 => ?_⟩
      cases t with
      | false =>
        rw [if_neg Bool.false_ne_true] at e2 ⊢
        simp only [Option.some.injEq, Prod.mk.injEq] at e2
        obtain ⟨rfl, rfl, rfl⟩ := e2
        exact kn α2 H2 (x1.trans x2) ok2 σ1 (en1.mono x2)
      | true =>
        rw [if_pos rfl] at e2 ⊢
        simp only [Option.bind_eq_some_iff] at e2
        obtain ⟨⟨o3, env3, S3⟩, e3, e4⟩ := e2
        refine ⟨fun σ4 H4 => ∃ α4 env4 S4, Ok X.K α4 S4 H4 ∧ En X.K α4 H4 env4 σ4 ∧ Xt X.K α H α4 H4 ∧ loopW (fun e S1 => tst (ev Γ cc e S1)) (fun e S1 => ex Γ c1 e S1) m env4 S4 = some (o, env', S'), fun σ4 H4 w => ⟨m, Nat.lt_succ_self m, w⟩, ?_⟩
        refine ⟨α2, env1, S2, o3, env3, S3, ok2, en1.mono x2, e3, fun α5 H5 x5 ok5 => ?_⟩
        have xx := x1.trans (x2.trans x5)
        cases o3 with
        | nx => exact fun σ5 en5 => ⟨α5, env3, S3, ok5, en5, xx, e4⟩
        | cont => exact fun σ5 en5 => ⟨α5, env3, S3, ok5, en5, xx, e4⟩
        | brk =>
          simp only [Option.some.injEq, Prod.mk.injEq] at e4
          obtain ⟨rfl, rfl, rfl⟩ := e4
          exact kn α5 H5 xx ok5
        | ret d =>
          simp only [Option.some.injEq, Prod.mk.injEq] at e4
          obtain ⟨rfl, rfl, rfl⟩ := e4
          exact kn α5 H5 xx ok5
theorem w_cin {x : Str} {t : List (Str × D)} {f : Addr} {es : Array DictEntry} {n : Nat} (hz : ∀ z, ∃ r, PySem.W.nsIn X.K f z = some r ∧ r.isSome = (lookC t z).isSome) {σ : L2.St} {H : Hp} {Q : VK} (h : tr X.K Γ (.cin false t cb) σ H Q) :
    tOp (fun x y H Q => ∃ (z : Str) (r : Option Value), x = .str z ∧ y = .ref f ∧ PySem.W.nsIn X.K f z = some r ∧ Q (.bl r.isSome) H) (tr X.K Γ cb) (tC (.ref f)) σ H Q := by
  obtain ⟨α, env, S, d, S', ok, en, e, k⟩ := h
  simp only [ev, Option.bind_eq_some_iff] at e
  obtain ⟨⟨d1, S1⟩, e1, e2⟩ := e
  refine ⟨α, env, S, d1, S1, ok, en, e1, fun α1 H1 v1 x1 ok1 r1 => ?_⟩
  cases d1 with
  | str z =>
    simp only [Option.some.injEq, Prod.mk.injEq] at e2
    obtain ⟨rfl, rfl⟩ := e2
    obtain ⟨r, h1, h2⟩ := hz z
    cases r1
    refine ⟨z, r, rfl, rfl, h1, ?_⟩
    rw [h2]
    exact k α1 H1 _ x1 ok1 (.bl _)
  | _ => simp at e2
theorem w_notcin {x : Str} {t : List (Str × D)} {f : Addr} {es : Array DictEntry} {n : Nat} (hz : ∀ z, ∃ r, PySem.W.nsIn X.K f z = some r ∧ r.isSome = (lookC t z).isSome) {σ : L2.St} {H : Hp} {Q : VK} (h : tr X.K Γ (.cin true t cb) σ H Q) :
    tOp (fun x y H Q => ∃ (z : Str) (r : Option Value), x = .str z ∧ y = .ref f ∧ PySem.W.nsIn X.K f z = some r ∧ Q (.bl (!r.isSome)) H) (tr X.K Γ cb) (tC (.ref f)) σ H Q := by
  obtain ⟨α, env, S, d, S', ok, en, e, k⟩ := h
  simp only [ev, Option.bind_eq_some_iff] at e
  obtain ⟨⟨d1, S1⟩, e1, e2⟩ := e
  refine ⟨α, env, S, d1, S1, ok, en, e1, fun α1 H1 v1 x1 ok1 r1 => ?_⟩
  cases d1 with
  | str z =>
    simp only [Option.some.injEq, Prod.mk.injEq] at e2
    obtain ⟨rfl, rfl⟩ := e2
    obtain ⟨r, h1, h2⟩ := hz z
    cases r1
    refine ⟨z, r, rfl, rfl, h1, ?_⟩
    rw [h2]
    exact k α1 H1 _ x1 ok1 (.bl _)
  | _ => simp at e2
theorem cin_bl {neg : Bool} {t : List (Str × D)} {env : Sl} {S S' : Hd} {d : D} (e : ev Γ (.cin neg t cb) env S = some (d, S')) : ∃ b, d = .bl b := by
  simp only [ev, Option.bind_eq_some_iff] at e
  obtain ⟨⟨d1, S1⟩, e1, e2⟩ := e
  cases d1 with
  | str z =>
    simp only [Option.some.injEq, Prod.mk.injEq] at e2
    exact ⟨_, e2.1.symm⟩
  | _ => simp at e2
/-- x in a written dict -/
theorem xe_cin {x : Str} {t : List (Str × D)} {f : Addr} (hg : Gl X x) (hm : X.mg x = some (.ref f)) (hk : Kn X.K X.w f t) (hb : PE X b (tr X.K Γ cb)) (hd : (x == ("__debug__" : Str)) = false := by decide) (hmk : behindInMarks .In (.Name x p) = false := by rfl) :
    PE X (.Compare b [.In] [.Name x p] pos) (tr X.K Γ (.cin false t cb)) := by
  obtain ⟨es, n, D, hz⟩ := hk
  exact pe_w (pe_cmpR (op_in_kd D) hb (pe_glob (v := .ref f) hg hm rfl hd) hmk) fun σ H Q h => w_cin (x := x) (es := es) (n := n) hz h
theorem xe_notcin {x : Str} {t : List (Str × D)} {f : Addr} (hg : Gl X x) (hm : X.mg x = some (.ref f)) (hk : Kn X.K X.w f t) (hb : PE X b (tr X.K Γ cb)) (hd : (x == ("__debug__" : Str)) = false := by decide) (hmk : behindInMarks .NotIn (.Name x p) = false := by rfl) :
    PE X (.Compare b [.NotIn] [.Name x p] pos) (tr X.K Γ (.cin true t cb)) := by
  obtain ⟨es, n, D, hz⟩ := hk
  exact pe_w (pe_cmpR (op_notIn_kd D) hb (pe_glob (v := .ref f) hg hm rfl hd) hmk) fun σ H Q h => w_notcin (x := x) (es := es) (n := n) hz h
theorem xt_cin {x : Str} {t : List (Str × D)} {f : Addr} (hg : Gl X x) (hm : X.mg x = some (.ref f)) (hk : Kn X.K X.w f t) (hb : PE X b (tr X.K Γ cb)) (hd : (x == ("__debug__" : Str)) = false := by decide) (hmk : behindInMarks .In (.Name x p) = false := by rfl) :
    PT X (.Compare b [.In] [.Name x p] pos) (trT X.K Γ (.cin false t cb)) := by
  obtain ⟨es, n, D, hz⟩ := hk
  exact pt_w (pt_cmpR (op_in_kd D) hb (pe_glob (v := .ref f) hg hm rfl hd) hmk) fun σ H Q h => w_test (fun _ _ _ _ e => cin_bl e) (fun σ H Q h => w_cin (x := x) (es := es) (n := n) hz h) h
theorem xt_notcin {x : Str} {t : List (Str × D)} {f : Addr} (hg : Gl X x) (hm : X.mg x = some (.ref f)) (hk : Kn X.K X.w f t) (hb : PE X b (tr X.K Γ cb)) (hd : (x == ("__debug__" : Str)) = false := by decide) (hmk : behindInMarks .NotIn (.Name x p) = false := by rfl) :
    PT X (.Compare b [.NotIn] [.Name x p] pos) (trT X.K Γ (.cin true t cb)) := by
  obtain ⟨es, n, D, hz⟩ := hk
  exact pt_w (pt_cmpR (op_notIn_kd D) hb (pe_glob (v := .ref f) hg hm rfl hd) hmk) fun σ H Q h => w_test (fun _ _ _ _ e => cin_bl e) (fun σ H Q h => w_notcin (x := x) (es := es) (n := n) hz h) h
/-- a sign in a text -/
theorem xe_sgn (ha : PE X a (tr X.K Γ ca)) (hb : PE X b (tr X.K Γ cb)) (hmk : behindInMarks .In b = false := by rfl) : PE X (.Compare a [.In] [b] pos) (tr X.K Γ (.sgn ca cb)) :=
  pe_w (pe_cmpR op_in_sign ha hb hmk) fun σ H Q ⟨α, env, S, d, S', ok, en, e, k⟩ => by
    simp only [ev, Option.bind_eq_some_iff] at e
    obtain ⟨⟨d1, S1⟩, e1, ⟨d2, S2⟩, e2, e3⟩ := e
    refine ⟨α, env, S, d1, S1, ok, en, e1, fun α1 H1 v1 x1 ok1 r1 => ⟨α1, env, S1, d2, S2, ok1, en.mono x1, e2, fun α2 H2 v2 x2 ok2 r2 => ?_⟩⟩
    have r1' := r1.mono x2
    cases d1 with
    | str u =>
      cases d2 with
      | str z =>
        simp only at e3
        split at e3
        · rename_i hs
          simp only [Option.some.injEq, Prod.mk.injEq] at e3
          obtain ⟨rfl, rfl⟩ := e3
          cases r1'
          cases r2
          have eu : u = ⟨#[u.cps.getD 0 0]⟩ := by
            obtain ⟨⟨l⟩⟩ := u
            match l, hs with
            | [c], _ => rfl
          exact ⟨u.cps.getD 0 0, z, by rw [← eu], rfl, k α2 H2 _ (x1.trans x2) ok2 (.bl _)⟩
        · cases e3
      | _ => simp at e3
    | _ => simp at e3
theorem xe_stw {apos : Pos} {z : Str} {j : Nat} {p2 : Pos} (ha : PE X a (tr X.K Γ ca)) (hs : starEach [(.Constant (.str z) j p2 : Expr)] X.env = [(false, eval (.Constant (.str z) j p2) X.env)] := by rfl)
    (hbase : attributeBase a "startswith" X.env (eval a X.env) = eval a X.env := by rfl) (hline : (apos.endLine == pos.line) = true := by rfl) :
    PE X (.Call (.Attribute a "startswith" apos) [.Constant (.str z) j p2] [] pos) (tr X.K Γ (.stw ca z)) :=
  pe_w (pe_m1 F.slot_str_startswith F.type_str_startswith mt_startswith ha pe_str hs hbase hline) fun σ H Q ⟨α, env, S, d, S', ok, en, e, k⟩ => by
    simp only [ev, Option.bind_eq_some_iff] at e
    obtain ⟨⟨d1, S1⟩, e1, e2⟩ := e
    refine ⟨α, env, S, d1, S1, ok, en, e1, fun α1 H1 v1 x1 ok1 r1 => ?_⟩
    cases d1 with
    | str u =>
      simp only [Option.some.injEq, Prod.mk.injEq] at e2
      obtain ⟨rfl, rfl⟩ := e2
      cases r1
      exact ⟨⟨u, rfl⟩, u, z, rfl, rfl, k α1 H1 _ x1 ok1 (.bl _)⟩
    | _ => simp at e2
theorem strs_rps {K : PySem.W.Frag} {α : List Addr} {H : Hp} : ∀ ys : List Str, Rps K α H (ys.map D.str) (ys.map V.str)
  | [] => Rps.nil
  | y :: ys => Rps.cons (.str y) (strs_rps ys)
theorem xe_split {apos : Pos} {z : Str} {j : Nat} {p2 : Pos} (ha : PE X a (tr X.K Γ ca)) (hs : starEach [(.Constant (.str z) j p2 : Expr)] X.env = [(false, eval (.Constant (.str z) j p2) X.env)] := by rfl)
    (hbase : attributeBase a "split" X.env (eval a X.env) = eval a X.env := by rfl) (hline : (apos.endLine == pos.line) = true := by rfl) :
    PE X (.Call (.Attribute a "split" apos) [.Constant (.str z) j p2] [] pos) (tr X.K Γ (.split ca z)) :=
  pe_w (pe_split ha pe_str hs hbase hline) fun σ H Q ⟨α, env, S, d, S', ok, en, e, k⟩ => by
    simp only [ev, Option.bind_eq_some_iff] at e
    obtain ⟨⟨d1, S1⟩, e1, e2⟩ := e
    refine ⟨α, env, S, d1, S1, ok, en, e1, fun α1 H1 v1 x1 ok1 r1 => ?_⟩
    cases d1 with
    | str u =>
      simp only at e2
      split at e2
      · rename_i hc
        simp only [Option.some.injEq, alloc, Prod.mk.injEq] at e2
        obtain ⟨rfl, rfl⟩ := e2
        cases r1
        refine ⟨⟨u, rfl⟩, u, z, rfl, rfl, hc.1, Nat.le_trans (Nat.add_le_add_right hc.2.1 2) (by decide), fun q hq => ?_⟩
        exact go_new ok1 hq (strs_rps _) fun α2 H2 v2 x2 ok2 r2 => k α2 H2 v2 (x1.trans x2) ok2 r2
      · cases e2
    | _ => simp at e2
theorem b_slen : CallR X (.builtin "len") (rA X.K (bltD .slen)) := by
  intro pins s σ H xs us Q I r ⟨α, S, ds, d, S', ok, rs, e, k⟩
  match ds, e with
  | [x], e =>
    obtain ⟨v, rfl, r1⟩ := rs.one'
    cases x with
    | str z =>
      simp only [bltD] at e
      split at e
      · rename_i hz
        simp only [Option.some.injEq, Prod.mk.injEq] at e
        obtain ⟨rfl, rfl⟩ := e
        cases r1
        exact call_len_str pins s σ H _ us Q I r ⟨z, rfl, most_line hz, k α H _ Xt.refl ok (.int _)⟩
      · cases e
    | _ => simp [bltD] at e
  | [], e => simp [bltD] at e
  | x :: _ :: _, e => cases x <;> simp [bltD] at e
theorem b_sint : CallR X (.type "int") (rA X.K (bltD .sint)) := by
  intro pins s σ H xs us Q I r ⟨α, S, ds, d, S', ok, rs, e, k⟩
  match ds, e with
  | [x], e =>
    obtain ⟨v, rfl, r1⟩ := rs.one'
    cases x with
    | str z =>
      simp only [bltD] at e
      split at e
      · rename_i hz
        simp only [Option.map_eq_some_iff, Prod.mk.injEq] at e
        obtain ⟨n, h1, rfl, rfl⟩ := e
        cases r1
        exact call_int_str pins s σ H _ us Q I r ⟨z, n, rfl, h1, hz, k α H _ Xt.refl ok (.int _)⟩
      · cases e
    | _ => simp [bltD] at e
  | [], e => simp [bltD] at e
  | x :: _ :: _, e => cases x <;> simp [bltD] at e
theorem xi_chars {tg e : Expr} {c : E} (h : PE X e (tr X.K Γ c)) : PI X tg e (trI X.K Γ .chars (.cons c .nil)) := by
  refine ⟨fun pins s σ H R I ⟨α, env, S, ds, S', its, ok, en, e1, e2, k⟩ => ?_⟩
  simp only [ev, Option.bind_eq_some_iff, Option.map_eq_some_iff, Option.some.injEq, Prod.mk.injEq, D.tup.injEq] at e1
  obtain ⟨⟨d, S1⟩, e1, _, rfl, dr, e3, rfl, rfl⟩ := e1
  cases argsOf_some e3
  cases d with
  | str z =>
    simp only [items, Option.some.injEq] at e2
    subst e2
    refine (pi_str h).run pins s σ H R I ⟨α, env, S, .str z, S1, ok, en, e1, fun α1 H1 v x1 ok1 r1 => ?_⟩
    cases r1
    have hw : Walk (Its z) (z.cps.toList.map fun c => D.str ⟨#[c]⟩).length (fun _ => True) (fun i H v H' => H' = H ∧ ∃ c, z.cps[i]? = some c ∧ v = .str ⟨#[c]⟩) := by
      rw [List.length_map, Array.length_toList]
      exact walk_str
    refine ⟨z, rfl, k α1 H1 _ _ _ x1 ok1 hw (fun α2 S2 H2 x2 ok2 e4 => trivial) fun i α2 S2 H2 x H3 x2 ok2 e4 hi ⟨y1, c, y2, y3⟩ => ?_⟩
    subst y1 y3
    refine ⟨.str ⟨#[c]⟩, ?_, Xt.refl, ok2, .str _⟩
    rw [List.getElem?_map, Array.getElem?_toList, y2]
    rfl
  | _ => simp [items] at e2
end
end Ix

namespace Ix
open PySem L2
/-! ### what a result is to satisfy -/
def M {β : Type} (r : Option β) (Q : β → Prop) : Prop := ∃ a, r = some a ∧ Q a
theorem M_some {β : Type} {a : β} {Q : β → Prop} : M (some a) Q = Q a := propext ⟨fun ⟨_, e, q⟩ => by cases e; exact q, fun q => ⟨a, rfl, q⟩⟩
theorem M_none {β : Type} {Q : β → Prop} : M (none : Option β) Q = False := propext ⟨fun ⟨_, e, _⟩ => (by cases e), False.elim⟩
theorem M_bind {β γ : Type} {r : Option β} {f : β → Option γ} {Q : γ → Prop} : M (r.bind f) Q = M r (fun a => M (f a) Q) := propext (by
  cases r with
  | none => exact ⟨fun ⟨_, e, _⟩ => (by cases e), fun ⟨_, e, _⟩ => (by cases e)⟩
  | some a => exact ⟨fun h => ⟨a, rfl, h⟩, fun ⟨_, e, h⟩ => by cases e; exact h⟩)
theorem M_map {β γ : Type} {r : Option β} {f : β → γ} {Q : γ → Prop} : M (r.map f) Q = M r (fun a => Q (f a)) := propext (by
  cases r with
  | none => exact ⟨fun ⟨_, e, _⟩ => (by cases e), fun ⟨_, e, _⟩ => (by cases e)⟩
  | some a => exact ⟨fun ⟨_, e, h⟩ => ⟨a, rfl, by cases e; exact h⟩, fun ⟨_, e, h⟩ => ⟨_, rfl, by cases e; exact h⟩⟩)
theorem M_ite {β : Type} {c : Prop} [Decidable c] {a b : Option β} {Q : β → Prop} : M (if c then a else b) Q = if c then M a Q else M b Q := by split <;> rfl
theorem M.imp {β : Type} {r : Option β} {P Q : β → Prop} (h : M r P) (k : ∀ a, P a → Q a) : M r Q := let ⟨a, e, p⟩ := h; ⟨a, e, k a p⟩
theorem run_M {T : Nat → Option Fd} {n f : Nat} {F : Fd} {ds : List D} {S : Hd} {Q : D × Hd → Prop} (hT : T f = some F) (hl : ds.length = F.np) (h : M (ex (run T n) F.body (ds.map some ++ List.replicate (F.m - ds.length) none) S) fun r => M (outD (some r)) Q) : M (run T (n + 1) f ds S) Q := by
  simp only [run_step, hT, Option.bind_some]
  rw [if_pos hl]
  obtain ⟨r, e, q⟩ := h
  rw [e]
  exact q
/-- S' keeps what S has, but for the cell p -/
def Le (p : Nat) (S S' : Hd) : Prop := ∀ (k : Nat) (o : O), k ≠ p → S[k]? = some o → S'[k]? = some o
def Lq (S S' : Hd) : Prop := ∀ (k : Nat) (o : O), S[k]? = some o → S'[k]? = some o
theorem Lq.refl (S : Hd) : Lq S S := fun _ _ h => h
theorem Lq.trans {S1 S2 S3 : Hd} (a : Lq S1 S2) (b : Lq S2 S3) : Lq S1 S3 := fun k o h => b k o (a k o h)
theorem Le.refl (p : Nat) (S : Hd) : Le p S S := fun _ _ _ h => h
theorem Le.trans {p : Nat} {S1 S2 S3 : Hd} (a : Le p S1 S2) (b : Le p S2 S3) : Le p S1 S3 := fun k o n h => b k o n (a k o n h)
theorem Lq.le {p : Nat} {S S' : Hd} (a : Lq S S') : Le p S S' := fun k o _ h => a k o h
theorem Lq.app (S T : Hd) : Lq S (S ++ T) := fun k o h => by rw [List.getElem?_append_left (List.getElem?_eq_some_iff.mp h).1]; exact h
theorem Le.app (p : Nat) (S T : Hd) : Le p S (S ++ T) := (Lq.app S T).le
theorem Le.set (p : Nat) (S : Hd) (o : O) : Le p S (S.set p o) := fun k u n h => by rw [List.getElem?_set_ne (fun e => n e.symm)]; exact h
/-- the pot at p -/
def Pot (p : Nat) (S : Hd) : Prop := ∃ q : Int, S[p]? = some (.lst [.int q])
theorem Pot.app {p : Nat} {S : Hd} (h : Pot p S) (T : Hd) : Pot p (S ++ T) := let ⟨q, e⟩ := h; ⟨q, Lq.app S T p _ e⟩
theorem lt_of_get {S : Hd} {k : Nat} {o : O} (h : S[k]? = some o) : k < S.length := (List.getElem?_eq_some_iff.mp h).1
end Ix

namespace Ix
open PySem L2
/-! ### the operations on known values -/
section
variable {S : Hd} {i j : Int} {x y d : D} {xs ys : List D} {k : Nat}
theorem q_add : binD .add (.int i) (.int j) S = some (.int (i + j), S) := rfl
theorem q_sub : binD .sub (.int i) (.int j) S = some (.int (i - j), S) := rfl
theorem q_mod (h : 0 < j) : binD .mod (.int i) (.int j) S = some (.int (i % j), S) := if_pos h
theorem q_addT (h : xs.length + ys.length ≤ most) : binD .add (.tup xs) (.tup ys) S = some (.tup (xs ++ ys), S) := if_pos h
theorem q_addL {a b : Nat} (h1 : S[a]? = some (.lst xs)) (h2 : S[b]? = some (.lst ys)) (h : xs.length + ys.length ≤ most) : binD .add (.ref a) (.ref b) S = some (alloc S (xs ++ ys)) := by
  simp only [binD, h1, h2]
  exact if_pos h
theorem q_addR {b : Nat} {ns : List Int} (h2 : S[b]? = some (.lst ys)) (h : ns.length + ys.length ≤ most) : binD .add (.ro ns) (.ref b) S = some (alloc S (ns.map .int ++ ys)) := by
  have e : binD .add (.ro ns) (.ref b) S = match S[b]? with
    | some (.lst ys) => if ns.length + ys.length ≤ most then some (alloc S (ns.map .int ++ ys)) else none
    | _ => none := rfl
  rw [e, h2]
  exact if_pos h
theorem q_mulW (h : i.natAbs.log2 + j.natAbs.log2 < 1000000) : binD .mul (.int i) (.int j) S = some (.int (i * j), S) := if_pos h
theorem log2_le {n : Nat} (m : Nat) (h : n < 2 ^ m) (h0 : 0 < m) : n.log2 < m := PySem.Flt.log2_lt_of h0 h
theorem q_mul (h1 : -(2 ^ 64) < i) (h2 : i < 2 ^ 64) (h3 : -(2 ^ 64) < j) (h4 : j < 2 ^ 64) : binD .mul (.int i) (.int j) S = some (.int (i * j), S) := q_mulW (by
  have a := log2_le (n := i.natAbs) 64 (by omega) (by decide)
  have b := log2_le (n := j.natAbs) 64 (by omega) (by decide)
  omega)
theorem q_fdivW (h : 0 < j) (h2 : j.natAbs.log2 < 9000) : binD .fdiv (.int i) (.int j) S = some (.int (i / j), S) := if_pos ⟨h, h2⟩
theorem q_fdiv (h : 0 < j) (h2 : j < 2 ^ 64) : binD .fdiv (.int i) (.int j) S = some (.int (i / j), S) := q_fdivW h (by
  have a := log2_le (n := j.natAbs) 64 (by omega) (by decide)
  omega)
theorem q_pow (h : 0 ≤ j) (h1 : j ≤ 1000000) (h2 : i.natAbs < 2 ^ 64) : binD .pow (.int i) (.int j) S = some (.int (i ^ j.toNat), S) := if_pos ⟨h, h1, h2⟩
theorem q_lt : cmpD .lt (.int i) (.int j) S = some (.bl (decide (i < j)), S) := rfl
theorem q_le : cmpD .le (.int i) (.int j) S = some (.bl (decide (i ≤ j)), S) := rfl
theorem q_gt : cmpD .gt (.int i) (.int j) S = some (.bl (decide (j < i)), S) := rfl
theorem q_ge : cmpD .ge (.int i) (.int j) S = some (.bl (decide (j ≤ i)), S) := rfl
theorem q_eqI : cmpD .eq (.int i) (.int j) S = some (.bl (decide (i = j)), S) := rfl
theorem q_neI : cmpD .ne (.int i) (.int j) S = some (.bl (!decide (i = j)), S) := rfl
theorem q_eqB {b c : Bool} : cmpD .eq (.bl b) (.bl c) S = some (.bl (decide (b = c)), S) := rfl
theorem q_neB {b c : Bool} : cmpD .ne (.bl b) (.bl c) S = some (.bl (!decide (b = c)), S) := rfl
theorem q_eqS {b c : Str} : cmpD .eq (.str b) (.str c) S = some (.bl (decide (b = c)), S) := rfl
theorem q_isN : cmpD .is_ x .non S = some (.bl (isNon x), S) := by cases x <;> rfl
theorem q_notN : cmpD .isnot x .non S = some (.bl (!isNon x), S) := by cases x <;> rfl
theorem q_isB {b c : Bool} : cmpD .is_ (.bl b) (.bl c) S = some (.bl (decide (b = c)), S) := rfl
theorem q_notB {b c : Bool} : cmpD .isnot (.bl b) (.bl c) S = some (.bl (!decide (b = c)), S) := rfl
theorem q_in (h1 : flat x = true) (h2 : seqOf S y = some xs) (h3 : xs.all flat = true) : cmpD .in_ x y S = some (.bl (xs.any fun z => eqF z x), S) := by
  simp only [cmpD, h1, if_true, h2, Option.bind_some, h3]
theorem q_notin (h1 : flat x = true) (h2 : seqOf S y = some xs) (h3 : xs.all flat = true) : cmpD .notin x y S = some (.bl (!xs.any fun z => eqF z x), S) := by
  simp only [cmpD, h1, if_true, h2, Option.bind_some, h3]
theorem q_seqT : seqOf S (.tup xs) = some xs := rfl
theorem q_seqR {ns : List Int} : seqOf S (.ro ns) = some (ns.map .int) := rfl
theorem q_seqL (h : S[k]? = some (.lst xs)) : seqOf S (.ref k) = some xs := by simp only [seqOf, h]
theorem q_ixT : ixD (.tup xs) (.int i) S = (atI xs i).map fun d => (d, S) := rfl
theorem q_ixR {ns : List Int} : ixD (.ro ns) (.int i) S = (atI (ns.map .int) i).map fun d => (d, S) := rfl
theorem q_ixL (h : S[k]? = some (.lst xs)) : ixD (.ref k) (.int i) S = (atI xs i).map fun d => (d, S) := by simp only [ixD, seqOf, h, Option.bind_some]
theorem atI_lt {β : Type} {xs : List β} (h0 : 0 ≤ i) (h : i < xs.length) : atI xs i = xs[i.toNat]? := by
  unfold atI ixN
  rw [if_pos h0, if_pos h]
  rfl
theorem atI_0 {β : Type} {a : β} {l : List β} : atI (a :: l) 0 = some a := by
  rw [atI_lt (by omega) (by simp)]
  rfl
theorem atI_1 {β : Type} {a b : β} {l : List β} : atI (a :: b :: l) 1 = some b := by
  rw [atI_lt (by omega) (by simp; omega)]
  rfl
theorem atI_2 {β : Type} {a b c : β} {l : List β} : atI (a :: b :: c :: l) 2 = some c := by
  rw [atI_lt (by omega) (by simp; omega)]
  rfl
theorem atI_last {β : Type} {xs : List β} (h : xs ≠ []) : atI xs (-1) = some (xs.getLast h) := by
  have hl : 0 < xs.length := List.length_pos_iff.mpr h
  unfold atI ixN
  rw [if_neg (by omega), if_pos (by omega)]
  show xs[(-1 + (xs.length : Int)).toNat]? = _
  have : (-1 + (xs.length : Int)).toNat = xs.length - 1 := by omega
  rw [this, List.getLast_eq_getElem, List.getElem?_eq_getElem (by omega)]
theorem q_slT {l h : Option Int} : slD (.tup xs) l h S = some (.tup (cutD xs l h), S) := rfl
theorem q_slL {l h : Option Int} (e : S[k]? = some (.lst xs)) : slD (.ref k) l h S = some (alloc S (cutD xs l h)) := by simp only [slD, seqOf, e, Option.map_some]
theorem q_slR {l h : Option Int} {ns : List Int} : slD (.ro ns) l h S = some (alloc S (cutD (ns.map .int) l h)) := rfl
theorem q_revT : revD (.tup xs) S = some (.tup xs.reverse, S) := rfl
theorem q_len (h : seqOf S x = some xs) : bltD .len [x] S = some (.int xs.length, S) := by simp only [bltD, h, Option.map_some]
theorem q_int : bltD .int_ [.int i] S = some (.int i, S) := rfl
theorem q_intB {b : Bool} : bltD .int_ [.bl b] S = some (.int (if b then 1 else 0), S) := rfl
theorem q_max : bltD .max_ [.int i, .int j] S = some (.int (if j > i then j else i), S) := rfl
theorem q_min : bltD .min_ [.int i, .int j] S = some (.int (if j < i then j else i), S) := rfl
theorem q_abs : bltD .abs_ [.int i] S = some (.int (if i < 0 then -i else i), S) := rfl
theorem bools_map {bs : List Bool} : bools (bs.map .bl) = some bs := by
  induction bs with
  | nil => rfl
  | cons b bs ih => simp only [List.map_cons, bools, ih, Option.map_some]
theorem q_all {bs : List Bool} (h : S[k]? = some (.lst (bs.map .bl))) : bltD .all_ [.ref k] S = some (.bl (bs.all id), S) := by
  simp only [bltD, isTup, seqOf, h, Option.bind_some, bools_map, Option.map_some, Bool.false_eq_true, if_false]
theorem q_tupT : bltD .tuple_ [.tup xs] S = some (.tup xs, S) := rfl
theorem q_tupL (h : S[k]? = some (.lst xs)) : bltD .tuple_ [.ref k] S = some (.tup xs, S) := by simp only [bltD, seqOf, h, Option.map_some]
theorem q_list (h : seqOf S x = some xs) : bltD .list_ [x] S = some (alloc S xs) := by simp only [bltD, h, Option.map_some]
theorem q_isi {c n : String} (h : plainTy c = true) (h2 : tyName S x = some n) : bltD .isi [x, .ty c] S = some (.bl (isaN n c), S) := by
  simp only [bltD, h, if_true, h2, Option.map_some]
theorem q_isiT {n : String} {cs : List D} {ts : List String} (h : tysOf cs = some ts) (h2 : tyName S x = some n) : bltD .isi [x, .tup cs] S = some (.bl (ts.any (isaN n)), S) := by
  simp only [bltD, h, Option.bind_some, h2, Option.map_some]
theorem n_tup : tyName S (.tup xs) = some "tuple" := rfl
theorem n_int : tyName S (.int i) = some "int" := rfl
theorem n_bl {b : Bool} : tyName S (.bl b) = some "bool" := rfl
theorem n_non : tyName S .non = some "NoneType" := rfl
theorem n_str {z : Str} : tyName S (.str z) = some "str" := rfl
theorem n_ref (h : S[k]? = some (.lst xs)) : tyName S (.ref k) = some "list" := by simp only [tyName, h]
theorem q_app (h : S[k]? = some (.lst xs)) (hz : xs.length < most) : methD .append (.ref k) [d] S = some (.non, S.set k (.lst (xs ++ [d]))) := by
  simp only [methD, h]
  exact if_pos hz
theorem q_isL (h : S[k]? = some (.lst xs)) : isLst S (.ref k) = true := by simp only [isLst, h]
theorem q_set {m : Nat} (h : S[k]? = some (.lst xs)) (hm : ixN xs.length i = some m) : setD (.ref k) (.int i) d S = some (S.set k (.lst (xs.set m d))) := by simp only [setD, h, hm, Option.map_some]
theorem q_push (h : S[k]? = some (.lst xs)) (hz : xs.length < most) : pushD k d S = some (S.set k (.lst (xs ++ [d]))) := by
  simp only [pushD, h]
  exact if_pos hz
theorem u_bl {b : Bool} : tru S (.bl b) = some b := rfl
theorem u_int : tru S (.int i) = some (i != 0) := rfl
theorem u_non : tru S .non = some false := rfl
theorem u_tup : tru S (.tup xs) = some (!xs.isEmpty) := rfl
theorem u_ref (h : S[k]? = some (.lst xs)) : tru S (.ref k) = some (!xs.isEmpty) := by simp only [tru, seqOf, h, Option.map_some]
theorem g_name {i : Nat} {env : Sl} : asgG (.name i) d env = some (env.set i (some d)) := rfl
theorem g_tup {g : G} {env : Sl} : asgG (.tup g) (.tup xs) env = asgG g (.tup xs) env := rfl
theorem g_nil {env : Sl} : asgG .nil (.tup []) env = some env := rfl
theorem g_cons {g h : G} {env : Sl} : asgG (.cons g h) (.tup (d :: xs)) env = (asgG g d env).bind fun e => asgG h (.tup xs) e := rfl
theorem a_tup : argsOf (.tup xs) = some xs := rfl
theorem t_eq (r : Option (D × Hd)) : tst r = r.bind fun x => (tru x.2 x.1).map fun b => (b, x.2) := rfl
theorem al_eq : alloc S xs = (.ref S.length, S ++ [.lst xs]) := rfl
theorem o_ret {env : Sl} : outD (some (.ret d, env, S)) = some (d, S) := rfl
theorem o_nx {env : Sl} : outD (some (.nx, env, S)) = some (.non, S) := rfl
theorem i_seq : items .seq [x] S = seqOf S x := rfl
theorem i_rng (h1 : -(2 ^ 62) ≤ i) (h2 : i < 2 ^ 62) : items .range1 [.int i] S = some ((List.range i.toNat).map fun (m : Nat) => .int (0 + (m : Int))) := if_pos ⟨h1, h2⟩
end
/-! ### loops -/
open Classical in
theorem M_loopS {turn : D → Sl → Hd → Option (Out × Sl × Hd)} {still : Hd → Prop} {Q : Out × Sl × Hd → Prop} (I : Nat → Sl → Hd → Prop) : ∀ {its : List D} {m : Nat} {env : Sl} {S : Hd}, I m env S →
    (∀ (i : Nat) (d : D) (env : Sl) (S : Hd), its[i]? = some d → I (m + i) env S → M (turn d env S) fun r => match r.1 with
      | .brk => Q (.nx, r.2)
      | .ret x => Q (.ret x, r.2)
      | _ => still r.2.2 ∧ I (m + i + 1) r.2.1 r.2.2) →
    (∀ env S, I (m + its.length) env S → Q (.nx, env, S)) → M (loopS turn still its env S) Q
  | [], m, env, S, h0, hs, hd => by
    simp only [loopS, M_some]
    exact hd env S h0
  | d :: ds, m, env, S, h0, hs, hd => by
    simp only [loopS, M_bind]
    refine (hs 0 d env S rfl h0).imp fun r h => ?_
    obtain ⟨o, env1, S1⟩ := r
    have go : still S1 ∧ I (m + 0 + 1) env1 S1 → M (if still S1 then loopS turn still ds env1 S1 else none) Q := fun ⟨a, b⟩ => by
      rw [if_pos a]
      refine M_loopS I (m := m + 1) b (fun i d env S h1 h2 => ?_) fun env S h => hd env S ?_
      · have := hs (i + 1) d env S (by simpa using h1) (by rw [show m + (i + 1) = m + 1 + i by omega]; exact h2)
        refine this.imp fun r h => ?_
        rw [show m + 1 + i + 1 = m + (i + 1) + 1 by omega]
        exact h
      · rw [List.length_cons, show m + (ds.length + 1) = m + 1 + ds.length by omega]
        exact h
    cases o with
    | nx => exact go h
    | cont => exact go h
    | brk => simp only [M_some]; exact h
    | ret x => simp only [M_some]; exact h
open Classical in
theorem M_loopH {turn : D → Hd → Option Hd} {still : Hd → Prop} {Q : Hd → Prop} (I : Nat → Hd → Prop) : ∀ {its : List D} {m : Nat} {S : Hd}, I m S →
    (∀ (i : Nat) (d : D) (S : Hd), its[i]? = some d → I (m + i) S → M (turn d S) fun S1 => still S1 ∧ I (m + i + 1) S1) →
    (∀ S, I (m + its.length) S → Q S) → M (loopH turn still its S) Q
  | [], m, S, h0, hs, hd => by
    simp only [loopH, M_some]
    exact hd S h0
  | d :: ds, m, S, h0, hs, hd => by
    simp only [loopH, M_bind]
    refine (hs 0 d S rfl h0).imp fun S1 ⟨a, b⟩ => ?_
    rw [if_pos a]
    refine M_loopH I (m := m + 1) b (fun i d S h1 h2 => ?_) fun S h => hd S ?_
    · have := hs (i + 1) d S (by simpa using h1) (by rw [show m + (i + 1) = m + 1 + i by omega]; exact h2)
      refine this.imp fun r h => ?_
      rw [show m + 1 + i + 1 = m + (i + 1) + 1 by omega]
      exact h
    · rw [List.length_cons, show m + (ds.length + 1) = m + 1 + ds.length by omega]
      exact h
/-- a comprehension whose elements change nothing that stands: v tells each item's value -/
theorem M_lc {Γ : Fs} {k : Ik} {cs ce : E} {g : G} {own : List Nat} {env : Sl} {S S1 : Hd} {ds its : List D} {Q : D × Hd → Prop} (v : Nat → D) (ho : gOk own g = true) (h1 : ev Γ cs env S = some (.tup ds, S1)) (h2 : items k ds S1 = some its) (hz : its.length < most)
    (he : ∀ (i : Nat) (d : D) (S2 : Hd), its[i]? = some d → Lq S1 S2 → ∃ env1, asgG g d (wipeD env own) = some env1 ∧ M (ev Γ ce env1 S2) fun r => r.1 = v i ∧ Lq S2 r.2)
    (hit : ∀ S2, Lq S1 S2 → items k ds S2 = some its)
    (hq : ∀ (j : Nat) (S2 : Hd), S1.length ≤ j → S2[j]? = some (.lst ((List.range its.length).map v)) → Lq S1 S2 → Q (.ref j, S2)) : M (ev Γ (.lc k cs g (.c (.bl true)) ce own) env S) Q := by
  simp only [ev, ho, if_true, h1, Option.bind_some, argsOf, h2, M_map]
  refine M_loopH (fun i S2 => S2[S1.length]? = some (.lst ((List.range i).map v)) ∧ Lq S1 S2) (m := 0) ⟨by simp, Lq.app _ _⟩ (fun i d S2 hi ⟨a, b⟩ => ?_) fun S2 ⟨a, b⟩ => ?_
  · obtain ⟨env1, e1, m1⟩ := he i d S2 hi b
    simp only [e1, Option.bind_some, tst, tru, Option.map_some, if_true, M_bind]
    refine m1.imp fun r ⟨e2, l2⟩ => ?_
    have hlt : i < its.length := (List.getElem?_eq_some_iff.mp hi).1
    rw [q_push (l2 _ _ a) (by simp; omega), M_some]
    have l3 : Lq S1 (r.2.set S1.length (.lst (((List.range (0 + i)).map v) ++ [r.1]))) := fun k' o h => by
      rw [List.getElem?_set_ne (by have := lt_of_get h; omega)]
      exact l2 _ _ (b _ _ h)
    refine ⟨hit _ l3, ?_, l3⟩
    rw [List.getElem?_set_self (lt_of_get (l2 _ _ a)), e2, Nat.zero_add, List.range_succ, List.map_append]
    rfl
  · rw [Nat.zero_add] at a
    exact hq _ S2 (Nat.le_refl _) a b
end Ix

namespace Ix
open PySem L2
theorem seq_M {Γ : Fs} {s t : Sx} {env : Sl} {S : Hd} {Q : Out × Sl × Hd → Prop} (P : Sl → Hd → Prop) (h : M (ex Γ s env S) fun r => r.1 = .nx ∧ P r.2.1 r.2.2) (k : ∀ env S, P env S → M (ex Γ t env S) Q) : M (ex Γ (.seq s t) env S) Q := by
  simp only [ex, M_bind]
  refine h.imp fun r ⟨e, p⟩ => ?_
  rw [e]
  exact k _ _ p
theorem seq_Mx {Γ : Fs} {s t : Sx} {env : Sl} {S : Hd} {Q : Out × Sl × Hd → Prop} (h : M (ex Γ s env S) fun r => match r.1 with
    | .nx => M (ex Γ t r.2.1 r.2.2) Q
    | _ => Q r) : M (ex Γ (.seq s t) env S) Q := by
  simp only [ex, M_bind]
  refine h.imp fun r q => ?_
  obtain ⟨o, e, S1⟩ := r
  cases o with
  | nx => exact q
  | _ => simp only [M_some]; exact q
theorem atI_ints {ns : List Int} {i : Int} (h0 : 0 ≤ i) (h : i < ns.length) : ∃ z, ns[i.toNat]? = some z ∧ z ∈ ns ∧ atI (ns.map D.int) i = some (.int z) := by
  have hi : i.toNat < ns.length := by omega
  refine ⟨ns[i.toNat], List.getElem?_eq_getElem hi, List.getElem_mem hi, ?_⟩
  rw [atI_lt h0 (by simpa using h), List.getElem?_map, List.getElem?_eq_getElem hi]
  rfl
theorem Lq.at {S S' : Hd} (a : Lq S S') {k : Nat} {o : O} (h : S[k]? = some o) : S'[k]? = some o := a k o h
theorem Le.at {p : Nat} {S S' : Hd} (a : Le p S S') {k : Nat} {o : O} (n : k ≠ p) (h : S[k]? = some o) : S'[k]? = some o := a k o n h
theorem get_new {S : Hd} {o : O} : (S ++ [o])[S.length]? = some o := by simp
theorem Pot.lt {p : Nat} {S : Hd} (h : Pot p S) : p < S.length := let ⟨_, e⟩ := h; lt_of_get e
theorem Pot.ne {p : Nat} {S : Hd} (h : Pot p S) : S.length ≠ p := Nat.ne_of_gt h.lt
theorem Pot.lq {p : Nat} {S S' : Hd} (h : Pot p S) (l : Lq S S') : Pot p S' := let ⟨q, e⟩ := h; ⟨q, l p _ e⟩
theorem Lq.set {S S' : Hd} (l : Lq S S') {k : Nat} {o : O} (h : S.length ≤ k) : Lq S (S'.set k o) := fun j u e => by
  rw [List.getElem?_set_ne (by have := lt_of_get e; omega)]
  exact l j u e
end Ix
namespace Ix
open PySem L2
theorem q_pow10 {j : Int} {S : Hd} (h : 0 ≤ j) (h1 : j ≤ 1000000) : binD .pow (.int 10) (.int j) S = some (.int (10 ^ j.toNat), S) := q_pow h h1 (by decide)
end Ix
namespace Ix
theorem rng_get {β : Type} {n i : Nat} {d : β} {f : Nat → β} (h : ((List.range n).map f)[i]? = some d) : i < n ∧ d = f i := by
  rw [List.getElem?_map] at h
  by_cases hi : i < n
  · rw [List.getElem?_range hi] at h
    exact ⟨hi, (Option.some.inj h).symm⟩
  · rw [List.getElem?_eq_none (by simpa using hi)] at h
    cases h
end Ix
namespace Ix
open PySem L2
theorem atI_k {β : Type} {xs : List β} {a : β} (k : Nat) (h : xs[k]? = some a) : atI xs (k : Int) = some a := atI_nat h
theorem atI_3 {β : Type} {a b c d : β} {l : List β} : atI (a :: b :: c :: d :: l) 3 = some d := atI_k 3 rfl
theorem atI_4 {β : Type} {a b c d e : β} {l : List β} : atI (a :: b :: c :: d :: e :: l) 4 = some e := atI_k 4 rfl
theorem atI_5 {β : Type} {a b c d e f : β} {l : List β} : atI (a :: b :: c :: d :: e :: f :: l) 5 = some f := atI_k 5 rfl
theorem atI_6 {β : Type} {a b c d e f g : β} {l : List β} : atI (a :: b :: c :: d :: e :: f :: g :: l) 6 = some g := atI_k 6 rfl
theorem atI_7 {β : Type} {a b c d e f g h : β} {l : List β} : atI (a :: b :: c :: d :: e :: f :: g :: h :: l) 7 = some h := atI_k 7 rfl
theorem M_blt1 {Γ : Fs} {B : Bl} {e : E} {env : Sl} {S : Hd} {Q : D × Hd → Prop} (h : M (ev Γ e env S) fun x => M (bltD B [x.1] x.2) Q) : M (ev Γ (.blt B (.cons e .nil)) env S) Q := by
  simp only [ev, M_bind, M_map, M_some, argsOf, Option.map_some, Option.bind_some]
  exact h
end Ix
namespace Ix
open PySem L2
theorem for_M {Γ : Fs} {k : Ik} {es : E} {g : G} {b : Sx} {env : Sl} {S : Hd} {Q : Out × Sl × Hd → Prop}
    (h : M (ev Γ es env S) fun x => ∃ ds its, x.1 = .tup ds ∧ items k ds x.2 = some its ∧ M (loopS (fun d e S1 => (asgG g d e).bind fun e2 => ex Γ b e2 S1) (fun S1 => items k ds S1 = some its) its env x.2) Q) : M (ex Γ (.for_ k es g b) env S) Q := by
  simp only [ex, M_bind]
  refine h.imp fun x ⟨ds, its, e1, e2, m⟩ => ?_
  rw [e1]
  simp only [argsOf, M_some, e2]
  exact m
theorem ite_M {Γ : Fs} {c : E} {s t : Sx} {env : Sl} {S : Hd} {Q : Out × Sl × Hd → Prop} (h : M (tst (ev Γ c env S)) fun r => if r.1 = true then M (ex Γ s env r.2) Q else M (ex Γ t env r.2) Q) : M (ex Γ (.ite c s t) env S) Q := by
  simp only [ex, M_bind, M_ite]
  exact h
end Ix
namespace Ix
open PySem L2
/-- a result that changes nothing that stands -/
def Pu (r : Option (D × Hd)) (v : D) (S : Hd) : Prop := M r fun x => x.1 = v ∧ Lq S x.2
theorem Pu.use {r : Option (D × Hd)} {v : D} {S : Hd} {Q : D × Hd → Prop} (h : Pu r v S) (k : ∀ S', Lq S S' → Q (v, S')) : M r Q := h.imp fun ⟨d, S'⟩ ⟨e, l⟩ => by
  have e : d = v := e
  subst e
  exact k S' l
theorem Pu.run {T : Nat → Option Fd} {n f : Nat} {F : Fd} {ds : List D} {S : Hd} {v : D} (hT : T f = some F) (hl : ds.length = F.np) (h : M (ex (run T n) F.body (ds.map some ++ List.replicate (F.m - ds.length) none) S) fun r => M (outD (some r)) fun x => x.1 = v ∧ Lq S x.2) : Pu (Ix.run T (n + 1) f ds S) v S := run_M hT hl h
theorem cut_1 {xs : List D} : cutD xs (some 1) none = xs.drop 1 := by
  unfold cutD
  have e1 : HT.sIx xs.length 0 (some 1) = min 1 xs.length := rfl
  have e2 : HT.sIx xs.length xs.length none = xs.length := rfl
  rw [e1, e2]
  cases xs with
  | nil => rfl
  | cons x xs =>
    have : min 1 (x :: xs).length = 1 := by simp
    rw [this, List.take_of_length_le (by simp)]
theorem zip_get {L : List Int} {i : Nat} {d : D} (h : (List.zipWith (fun a b => D.tup [a, b]) (L.map .int) ((L.map .int).drop 1))[i]? = some d) : ∃ x y, L[i]? = some x ∧ L[i + 1]? = some y ∧ d = .tup [.int x, .int y] := by
  rw [List.getElem?_zipWith, List.getElem?_drop, List.getElem?_map, List.getElem?_map, show 1 + i = i + 1 by omega] at h
  cases h1 : L[i]? with
  | none => rw [h1] at h; simp at h
  | some x =>
    cases h2 : L[i + 1]? with
    | none => rw [h1, h2] at h; simp at h
    | some y =>
      rw [h1, h2] at h
      simp at h
      exact ⟨x, y, rfl, rfl, h.symm⟩
theorem M_all {Γ : Fs} {k : Ik} {cs ce : E} {g : G} {own : List Nat} {env : Sl} {S S1 : Hd} {ds its : List D} {Q : D × Hd → Prop} (b : Nat → Bool) (ho : gOk own g = true) (h1 : ev Γ cs env S = some (.tup ds, S1)) (l1 : Lq S S1) (h2 : items k ds S1 = some its) (hz : its.length < most)
    (he : ∀ (i : Nat) (d : D) (S2 : Hd), its[i]? = some d → Lq S1 S2 → ∃ env1, asgG g d (wipeD env own) = some env1 ∧ M (ev Γ ce env1 S2) fun r => r.1 = .bl (b i) ∧ Lq S2 r.2)
    (hit : ∀ S2, Lq S1 S2 → items k ds S2 = some its) (hq : ∀ S2, Lq S S2 → Q (.bl ((List.range its.length).all b), S2)) :
    M (ev Γ (.blt .all_ (.cons (.lc k cs g (.c (.bl true)) ce own) .nil)) env S) Q := by
  refine M_blt1 (M_lc (fun i => .bl (b i)) ho h1 h2 hz he hit fun j S2 hj hg l => ?_)
  have e : (List.range its.length).map (fun i => D.bl (b i)) = ((List.range its.length).map b).map .bl := by
    rw [List.map_map]
    rfl
  rw [e] at hg
  simp only [q_all hg, M_some]
  rw [List.all_map]
  exact hq S2 (l1.trans l)
theorem M_allT {Γ : Fs} {k : Ik} {cs ce : E} {g : G} {own : List Nat} {env : Sl} {S S1 : Hd} {ds its : List D} {Q : D × Hd → Prop} (ho : gOk own g = true) (h1 : ev Γ cs env S = some (.tup ds, S1)) (l1 : Lq S S1) (h2 : items k ds S1 = some its) (hz : its.length < most)
    (he : ∀ (i : Nat) (d : D) (S2 : Hd), its[i]? = some d → Lq S1 S2 → ∃ env1, asgG g d (wipeD env own) = some env1 ∧ M (ev Γ ce env1 S2) fun r => r.1 = .bl true ∧ Lq S2 r.2)
    (hit : ∀ S2, Lq S1 S2 → items k ds S2 = some its) (hq : ∀ S2, Lq S S2 → Q (.bl true, S2)) :
    M (ev Γ (.blt .all_ (.cons (.lc k cs g (.c (.bl true)) ce own) .nil)) env S) Q :=
  M_all (fun _ => true) ho h1 l1 h2 hz he hit fun S2 l => by
    rw [show ((List.range its.length).all fun _ => true) = true by simp]
    exact hq S2 l
theorem isi_ii {i : Int} {S : Hd} : bltD .isi [.int i, .ty "int"] S = some (.bl true, S) := by
  rw [q_isi (c := "int") (n := "int") (by decide) rfl]
  rfl
theorem isi_ib {i : Int} {S : Hd} : bltD .isi [.int i, .ty "bool"] S = some (.bl false, S) := by
  rw [q_isi (c := "bool") (n := "int") (by decide) rfl]
  rfl
theorem isi_tt {xs : List D} {S : Hd} : bltD .isi [.tup xs, .ty "tuple"] S = some (.bl true, S) := by
  rw [q_isi (c := "tuple") (n := "tuple") (by decide) rfl]
  rfl
theorem isi_itl {i : Int} {S : Hd} : bltD .isi [.int i, .tup [.ty "tuple", .ty "list"]] S = some (.bl false, S) := by
  rw [q_isiT (cs := [.ty "tuple", .ty "list"]) (ts := ["tuple", "list"]) (n := "int") (by simp only [tysOf, show plainTy "tuple" = true by decide, show plainTy "list" = true by decide, if_true, Option.map_some]) rfl]
  rfl
theorem isi_btl {i : Bool} {S : Hd} : bltD .isi [.bl i, .tup [.ty "tuple", .ty "list"]] S = some (.bl false, S) := by
  rw [q_isiT (cs := [.ty "tuple", .ty "list"]) (ts := ["tuple", "list"]) (n := "bool") (by simp only [tysOf, show plainTy "tuple" = true by decide, show plainTy "list" = true by decide, if_true, Option.map_some]) rfl]
  rfl
theorem isi_ttl {xs : List D} {S : Hd} : bltD .isi [.tup xs, .tup [.ty "tuple", .ty "list"]] S = some (.bl true, S) := by
  rw [q_isiT (cs := [.ty "tuple", .ty "list"]) (ts := ["tuple", "list"]) (n := "tuple") (by simp only [tysOf, show plainTy "tuple" = true by decide, show plainTy "list" = true by decide, if_true, Option.map_some]) rfl]
  rfl
theorem isi_tl {xs : List D} {S : Hd} : bltD .isi [.tup xs, .ty "list"] S = some (.bl false, S) := by
  rw [q_isi (c := "list") (n := "tuple") (by decide) rfl]
  rfl
theorem isi_bb {i : Bool} {S : Hd} : bltD .isi [.bl i, .ty "bool"] S = some (.bl true, S) := by
  rw [q_isi (c := "bool") (n := "bool") (by decide) rfl]
  rfl
theorem isi_ltl {xs : List D} {k : Nat} {S : Hd} (h : S[k]? = some (.lst xs)) : bltD .isi [.ref k, .tup [.ty "tuple", .ty "list"]] S = some (.bl true, S) := by
  rw [q_isiT (cs := [.ty "tuple", .ty "list"]) (ts := ["tuple", "list"]) (n := "list") (by simp only [tysOf, show plainTy "tuple" = true by decide, show plainTy "list" = true by decide, if_true, Option.map_some]) (n_ref h)]
  rfl
theorem isi_ll {xs : List D} {k : Nat} {S : Hd} (h : S[k]? = some (.lst xs)) : bltD .isi [.ref k, .ty "list"] S = some (.bl true, S) := by
  rw [q_isi (c := "list") (n := "list") (by decide) (n_ref h)]
  rfl
theorem M_and {Γ : Fs} {a b : E} {env : Sl} {S : Hd} {Q : D × Hd → Prop} (h : M (ev Γ a env S) fun x => x.1 = .bl true ∧ M (ev Γ b env x.2) Q) : M (ev Γ (.and_ a b) env S) Q := by
  simp only [ev, M_bind]
  refine h.imp fun x ⟨e, m⟩ => ?_
  rw [e]
  exact m
end Ix
namespace Ix
open PySem L2
theorem Lq.ple {S0 S S' : Hd} {p : Nat} (a : Lq S0 S) (b : Le p S S') (h : S0.length ≤ p) : Lq S0 S' := fun k o e => b k o (by have := lt_of_get e; omega) (a k o e)
theorem cut_mem {xs : List D} {l h : Option Int} {i : Nat} {d : D} (e : (cutD xs l h)[i]? = some d) : d ∈ xs := by
  unfold cutD at e
  exact List.mem_of_mem_drop (List.mem_of_mem_take (List.mem_of_getElem? e))
theorem cut_len {xs : List D} {l h : Option Int} : (cutD xs l h).length ≤ xs.length := by
  unfold cutD
  rw [List.length_take, List.length_drop]
  omega
theorem cell_get {ns : List Int} {c : Int} {l h : Option Int} {i : Nat} {d : D} (e : ([D.int c] ++ cutD (ns.map .int) l h)[i]? = some d) : ∃ z, d = .int z := by
  have := List.mem_of_getElem? e
  rcases List.mem_append.mp this with q | q
  · exact ⟨c, List.mem_singleton.mp q⟩
  · obtain ⟨j, hj⟩ := List.getElem?_of_mem q
    obtain ⟨z, _, rfl⟩ := List.mem_map.mp (cut_mem hj)
    exact ⟨z, rfl⟩
end Ix

namespace Ix
open PySem L2
theorem Lq.len {S S' : Hd} (a : Lq S S') : S.length ≤ S'.length := by
  rcases Nat.lt_or_ge S'.length S.length with h | h
  · have e := a S'.length _ (List.getElem?_eq_getElem h)
    have := lt_of_get e
    omega
  · exact h
/-- a comprehension over known items: c tells which of them are kept, v what each becomes -/
theorem M_lcx {β : Type} {Γ : Fs} {k : Ik} {cs cc ce : E} {g : G} {own : List Nat} {env : Sl} {S : Hd} {Q : D × Hd → Prop} (xs : List β) (f : β → D) (c : β → Bool) (v : β → D) (ho : gOk own g = true)
    (h1 : M (ev Γ cs env S) fun x => ∃ ds S1, x = (.tup ds, S1) ∧ Lq S S1 ∧ ∀ S2, Lq S1 S2 → items k ds S2 = some (xs.map f)) (hz : xs.length < most)
    (he : ∀ (x : β) (S2 : Hd), x ∈ xs → Lq S S2 → ∃ env1, asgG g (f x) (wipeD env own) = some env1 ∧ M (tst (ev Γ cc env1 S2)) fun r => r.1 = c x ∧ Lq S2 r.2 ∧ (c x = true → M (ev Γ ce env1 r.2) fun y => y.1 = v x ∧ Lq r.2 y.2))
    (hq : ∀ (j : Nat) (S2 : Hd), S.length ≤ j → S2[j]? = some (.lst ((xs.filter c).map v)) → Lq S S2 → Q (.ref j, S2)) : M (ev Γ (.lc k cs g cc ce own) env S) Q := by
  simp only [ev, ho, if_true, M_bind]
  refine h1.imp ?_
  rintro _ ⟨ds, S1, rfl, l1, hit⟩
  simp only [M_bind, argsOf, M_some, hit S1 (Lq.refl _), M_map]
  refine M_loopH (fun i S2 => S2[S1.length]? = some (.lst (((xs.take i).filter c).map v)) ∧ Lq S1 S2) (m := 0) ⟨by simp, Lq.app _ _⟩ (fun i d S2 hi ⟨a, b⟩ => ?_) fun S2 ⟨a, b⟩ => ?_
  · rw [List.getElem?_map] at hi
    cases hx : xs[i]? with
    | none => rw [hx] at hi; cases hi
    | some x =>
      rw [hx] at hi
      simp only [Option.map_some, Option.some.injEq] at hi
      subst hi
      obtain ⟨env1, e1, m1⟩ := he x S2 (List.mem_of_getElem? hx) (l1.trans b)
      have et : xs.take (0 + i + 1) = xs.take (0 + i) ++ [x] := by
        rw [Nat.zero_add, List.take_add_one, hx]
        rfl
      simp only [e1, Option.bind_some, M_bind]
      refine m1.imp fun r ⟨e2, l2, m2⟩ => ?_
      have hlt : i < xs.length := (List.getElem?_eq_some_iff.mp hx).1
      cases hc : c x with
      | false =>
        rw [e2, hc]
        simp only [Bool.false_eq_true, if_false, M_some]
        refine ⟨hit _ (b.trans l2), ?_, b.trans l2⟩
        rw [et, List.filter_append]
        simp only [List.filter_cons, hc, Bool.false_eq_true, if_false, List.filter_nil, List.append_nil]
        exact l2 _ _ a
      | true =>
        rw [e2, hc]
        simp only [if_true, M_bind]
        refine (m2 hc).imp fun y ⟨e3, l3⟩ => ?_
        have hl : ((xs.take (0 + i)).filter c).length ≤ xs.length := Nat.le_trans (List.length_filter_le _ _) (by rw [List.length_take]; omega)
        have hl2 : ((xs.take (0 + i)).filter c).length ≤ i := Nat.le_trans (List.length_filter_le _ _) (by rw [List.length_take]; omega)
        rw [q_push (l3 _ _ (l2 _ _ a)) (by rw [List.length_map]; omega), M_some]
        have l4 : Lq S1 (y.2.set S1.length (.lst ((((xs.take (0 + i)).filter c).map v) ++ [y.1]))) := Lq.set (b.trans (l2.trans l3)) (Nat.le_refl _)
        refine ⟨hit _ l4, ?_, l4⟩
        rw [List.getElem?_set_self (lt_of_get (l3 _ _ (l2 _ _ a))), e3, et, List.filter_append, List.map_append]
        simp only [List.filter_cons, hc, if_true, List.filter_nil, List.map_cons, List.map_nil]
  · rw [Nat.zero_add, List.length_map, List.take_length] at a
    exact hq _ S2 l1.len a (l1.trans b)
theorem filt_true {β : Type} {xs : List β} : xs.filter (fun _ => true) = xs := List.filter_eq_self.mpr (by simp)
theorem map_get {β : Type} {xs : List β} {f : β → D} {i : Nat} {d : D} (h : (xs.map f)[i]? = some d) : ∃ x, xs[i]? = some x ∧ x ∈ xs ∧ d = f x := by
  rw [List.getElem?_map] at h
  cases hx : xs[i]? with
  | none => rw [hx] at h; cases h
  | some j =>
    rw [hx] at h
    simp only [Option.map_some, Option.some.injEq] at h
    exact ⟨j, rfl, List.mem_of_getElem? hx, h.symm⟩
/-- ascending lists of the same numbers are the same -/
theorem asc_ext : ∀ {A B : List Int}, A.Pairwise (· < ·) → B.Pairwise (· < ·) → (∀ x, x ∈ A ↔ x ∈ B) → A = B
  | [], [], _, _, _ => rfl
  | [], b :: B, _, _, h => absurd ((h b).mpr List.mem_cons_self) (by simp)
  | a :: A, [], _, _, h => absurd ((h a).mp List.mem_cons_self) (by simp)
  | a :: A, b :: B, ha, hb, h => by
    rw [List.pairwise_cons] at ha hb
    have e : a = b := by
      have h1 := (h a).mp List.mem_cons_self
      have h2 := (h b).mpr List.mem_cons_self
      rcases List.mem_cons.mp h1 with q | q
      · exact q
      · rcases List.mem_cons.mp h2 with r | r
        · exact r.symm
        · have := ha.1 b r
          have := hb.1 a q
          omega
    subst e
    congr 1
    refine asc_ext ha.2 hb.2 fun x => ⟨fun q => ?_, fun q => ?_⟩
    · rcases List.mem_cons.mp ((h x).mp (List.mem_cons_of_mem _ q)) with r | r
      · have := ha.1 x q
        omega
      · exact r
    · rcases List.mem_cons.mp ((h x).mpr (List.mem_cons_of_mem _ q)) with r | r
      · have := hb.1 x q
        omega
      · exact r
theorem M_tup2 {Γ : Fs} {a b : E} {env : Sl} {S : Hd} {Q : D × Hd → Prop} (h : M (ev Γ a env S) fun x => M (ev Γ b env x.2) fun y => Q (.tup [x.1, y.1], y.2)) : M (ev Γ (.tup (.cons a (.cons b .nil))) env S) Q := by
  simp only [ev, M_bind, M_map, M_some, argsOf, Option.map_some, Option.bind_some, List.length_cons, List.length_nil, show (0 + 1 + 1 : Nat) ≤ most by decide, if_true]
  exact h
theorem i_rng2 {i j : Int} {S : Hd} (h1 : -(2 ^ 62) ≤ i) (h2 : i < 2 ^ 62) (h3 : -(2 ^ 62) ≤ j) (h4 : j < 2 ^ 62) : items .range2 [.int i, .int j] S = some ((List.range (j - i).toNat).map fun (m : Nat) => .int (i + (m : Int))) := if_pos ⟨h1, h2, h3, h4⟩
end Ix

namespace Ix
open PySem L2
/-- a comprehension without a test whose elements may change what stands: I i ys S after i turns, ys what the new list (at j) holds -/
theorem M_lcI {β : Type} {Γ : Fs} {k : Ik} {cs ce : E} {g : G} {own : List Nat} {env : Sl} {S : Hd} {Q : D × Hd → Prop} (xs : List β) (f : β → D) (I : Nat → Nat → List D → Hd → Prop) (ho : gOk own g = true)
    (h1 : M (ev Γ cs env S) fun x => ∃ ds S1, x = (.tup ds, S1) ∧ items k ds S1 = some (xs.map f) ∧ I S1.length 0 [] (S1 ++ [.lst []]) ∧
      ∀ (i : Nat) (x : β) (ys : List D) (S2 : Hd), xs[i]? = some x → ys.length = i → S2[S1.length]? = some (.lst ys) → I S1.length i ys S2 → ∃ env1, asgG g (f x) (wipeD env own) = some env1 ∧
        M (ev Γ ce env1 S2) fun y => y.2[S1.length]? = some (.lst ys) ∧ items k ds (y.2.set S1.length (.lst (ys ++ [y.1]))) = some (xs.map f) ∧ I S1.length (i + 1) (ys ++ [y.1]) (y.2.set S1.length (.lst (ys ++ [y.1]))))
    (hz : xs.length < most) (hq : ∀ (j : Nat) (ys : List D) (S2 : Hd), ys.length = xs.length → S2[j]? = some (.lst ys) → I j xs.length ys S2 → Q (.ref j, S2)) :
    M (ev Γ (.lc k cs g (.c (.bl true)) ce own) env S) Q := by
  simp only [ev, ho, if_true, M_bind]
  refine h1.imp ?_
  rintro _ ⟨ds, S1, rfl, hit, i0, he⟩
  simp only [M_bind, argsOf, M_some, hit, M_map]
  refine M_loopH (fun i S2 => ∃ ys, ys.length = i ∧ S2[S1.length]? = some (.lst ys) ∧ I S1.length i ys S2) (m := 0) ⟨[], rfl, by simp, i0⟩ (fun i d S2 hi ⟨ys, yl, a, b⟩ => ?_) fun S2 ⟨ys, yl, a, b⟩ => ?_
  · rw [List.getElem?_map] at hi
    cases hx : xs[i]? with
    | none => rw [hx] at hi; cases hi
    | some x =>
      rw [hx] at hi
      simp only [Option.map_some, Option.some.injEq] at hi
      subst hi
      rw [Nat.zero_add] at yl b ⊢
      obtain ⟨env1, e1, m1⟩ := he i x ys S2 hx yl a b
      have hlt : i < xs.length := (List.getElem?_eq_some_iff.mp hx).1
      simp only [e1, Option.bind_some, tst, tru, Option.map_some, if_true, M_bind]
      refine m1.imp fun y ⟨q1, q2, q3⟩ => ?_
      rw [q_push q1 (by omega), M_some]
      exact ⟨q2, ys ++ [y.1], by simp [yl], List.getElem?_set_self (lt_of_get q1), q3⟩
  · rw [Nat.zero_add, List.length_map] at b yl
    exact hq _ ys S2 yl a b
theorem M_call3 {Γ : Fs} {f : Nat} {a b c : E} {env : Sl} {S : Hd} {Q : D × Hd → Prop} (h : M (ev Γ a env S) fun x => M (ev Γ b env x.2) fun y => M (ev Γ c env y.2) fun z => M (Γ f [x.1, y.1, z.1] z.2) Q) : M (ev Γ (.call f (.cons a (.cons b (.cons c .nil)))) env S) Q := by
  simp only [ev, M_bind, M_map, M_some, argsOf, Option.map_some, Option.bind_some]
  exact h
theorem cut_to {xs : List D} {m : Nat} : cutD xs none (some (m : Int)) = xs.take m := by
  unfold cutD
  have e1 : HT.sIx xs.length 0 none = 0 := rfl
  have e2 : HT.sIx xs.length xs.length (some (m : Int)) = min m xs.length := rfl
  rw [e1, e2, List.drop_zero, Nat.sub_zero]
  apply List.ext_getElem?
  intro i
  rw [List.getElem?_take, List.getElem?_take]
  by_cases h : i < xs.length
  · by_cases h2 : i < m
    · rw [if_pos h2, if_pos (by omega)]
    · rw [if_neg h2, if_neg (by omega)]
  · rw [List.getElem?_eq_none (by omega)]
    split <;> split <;> rfl
end Ix

namespace Ix
open PySem L2
open Classical in
/-- a while loop by what stands and a bound of its turns -/
theorem M_loopW {test : Sl → Hd → Option (Bool × Hd)} {body : Sl → Hd → Option (Out × Sl × Hd)} {Q : Out × Sl × Hd → Prop} (I : Nat → Sl → Hd → Prop)
    (hs : ∀ n env S, I n env S → M (test env S) fun t => if t.1 = true then ∃ m, n = m + 1 ∧ M (body env t.2) fun r => match r.1 with
      | .brk => Q (.nx, r.2)
      | .ret x => Q (.ret x, r.2)
      | _ => I m r.2.1 r.2.2
      else Q (.nx, env, t.2)) : ∀ {f n : Nat} {env : Sl} {S : Hd}, n < f → I n env S → M (loopW test body f env S) Q
  | 0, n, env, S, h, _ => absurd h (Nat.not_lt_zero n)
  | f + 1, n, env, S, h, i => by
    rw [loopW_succ, M_bind]
    refine (hs n env S i).imp fun t q => ?_
    split at q
    · rename_i ht
      obtain ⟨m, rfl, q⟩ := q
      rw [if_pos ht, M_bind]
      refine q.imp fun r q => ?_
      obtain ⟨o, env1, S1⟩ := r
      cases o with
      | nx => exact M_loopW I hs (by omega) q
      | cont => exact M_loopW I hs (by omega) q
      | brk => simp only [M_some]; exact q
      | ret x => simp only [M_some]; exact q
    · rename_i ht
      rw [if_neg ht, M_some]
      exact q
end Ix

open PySem L2 Ix in
local macro_rules
  | `(tactic| simp? only [$as,*] $[$loc]?) => `(tactic| simp only [ex, ev, M_bind, M_map, M_some, M_ite, t_eq, a_tup, al_eq, List.getElem?_cons_zero, List.getElem?_cons_succ, Option.bind_some, Option.map_some, q_add, q_sub, q_lt, q_le, q_gt, q_ge, q_eqI, q_neI, q_eqB, q_neB, q_isN, q_notN, Ix.isNon, q_ixT, q_ixR, atI_0, atI_1, atI_2, atI_3, atI_4, atI_5, atI_6, atI_7, q_slT, q_slR, q_revT, q_seqT, q_int, q_intB, q_max, q_min, q_abs, q_tupT, n_tup, n_int, n_bl, n_non, n_str, isi_ii, isi_ib, isi_tt, isi_itl, isi_btl, isi_ttl, isi_tl, isi_bb, u_bl, u_int, u_non, u_tup, g_name, g_tup, g_nil, g_cons, o_ret, o_nx, i_seq, List.set_cons_zero, List.set_cons_succ, decide_eq_true_eq, Bool.not_eq_true', decide_eq_false_iff_not, evP, Bool.false_eq_true, if_true, if_false, ite_true, ite_false, reduceIte, Bool.not_true, Bool.not_false, Option.some.injEq, q_pow10, Int.reduceToNat, Int.reducePow, Int.reduceAdd, Int.reduceSub, Int.reduceMul, Int.reduceNeg, Int.reduceLT, Int.reduceLE, Nat.reducePow, Nat.reduceLT, Nat.reduceLeDiff, Nat.reduceAdd, List.length_cons, List.length_nil, Int.neg_neg, $as,*] $[$loc]?)
open PySem L2 Ix in
local macro_rules
  | `(tactic| simp_all? only [$as,*]) => `(tactic| simp only [ev, M_bind, M_map, M_some, M_ite, t_eq, a_tup, al_eq, List.getElem?_cons_zero, List.getElem?_cons_succ, Option.bind_some, Option.map_some, q_add, q_sub, q_lt, q_le, q_gt, q_ge, q_eqI, q_neI, q_eqB, q_neB, q_isN, q_notN, Ix.isNon, q_ixT, q_ixR, atI_0, atI_1, atI_2, atI_3, atI_4, atI_5, atI_6, atI_7, q_slT, q_slR, q_revT, q_seqT, q_int, q_intB, q_max, q_min, q_abs, q_tupT, n_tup, n_int, n_bl, n_non, n_str, isi_ii, isi_ib, isi_tt, isi_itl, isi_btl, isi_ttl, isi_tl, isi_bb, u_bl, u_int, u_non, u_tup, g_name, g_tup, g_nil, g_cons, o_ret, o_nx, i_seq, List.set_cons_zero, List.set_cons_succ, decide_eq_true_eq, Bool.not_eq_true', decide_eq_false_iff_not, evP, Bool.false_eq_true, if_true, if_false, ite_true, ite_false, reduceIte, Bool.not_true, Bool.not_false, Option.some.injEq, q_pow10, Int.reduceToNat, Int.reducePow, Int.reduceAdd, Int.reduceSub, Int.reduceMul, Int.reduceNeg, Int.reduceLT, Int.reduceLE, Nat.reducePow, Nat.reduceLT, Nat.reduceLeDiff, Nat.reduceAdd, List.length_cons, List.length_nil, Int.neg_neg, $as,*])

namespace Lw
open PySem L2 Ix
/-- 0: is_number (value) -/
def b_is_number : Sx := (.ret (.and_ (.blt .isi (.cons (.var 0) (.cons (.c (.ty "int")) (.nil)))) (.not_ (.blt .isi (.cons (.var 0) (.cons (.c (.ty "bool")) (.nil)))))))
/-- 1: is_pair (value) -/
def b_is_pair : Sx := (.ret (.and_ (.blt .isi (.cons (.var 0) (.cons (.c (.ty "tuple")) (.nil)))) (.cmp .eq (.blt .len (.cons (.var 0) (.nil))) (.c (.int 2)))))
/-- 2: check_number (value) -/
def b_check_number : Sx := (.ite (.not_ (.call 0 (.cons (.var 0) (.nil))))
    .stuck .skip)
/-- 3: is_ascending (numbers, one, other) -/
def b_is_ascending : Sx := (.ret (.blt .all_ (.cons (.lc .zip (.cons (.var 0) (.cons (.sl true false (.var 0) (.c (.int 1)) .nop) (.nil))) (.tup (.cons (.name 1) (.cons (.name 2) .nil))) (.c (.bl true)) (.cmp .lt (.var 1) (.var 2)) [1, 2]) (.nil))))
/-- 4: _is_near (value) -/
def b_is_near : Sx := (.ret (.and_ (.call 0 (.cons (.var 0) (.nil))) (.chain .le .le (.neg (.c (.int 900))) (.var 0) (.c (.int 900)))))
/-- 5: _are_offsets (value, item) -/
def b_are_offsets : Sx := (.seq (.ite (.or_ (.not_ (.blt .isi (.cons (.var 0) (.cons (.c (.ty "tuple")) (.nil))))) (.not_ (.chain .le .le (.c (.int 1)) (.blt .len (.cons (.var 0) (.nil))) (.c (.int 3)))))
    (.ret (.c (.bl false))) .skip)
    (.ret (.and_ (.blt .all_ (.cons (.lc .seq (.cons (.var 0) .nil) (.name 1) (.c (.bl true)) (.call 4 (.cons (.var 1) (.nil))) [1]) (.nil))) (.call 3 (.cons (.var 0) (.nil))))))
/-- 6: is_zone (value, offsets, spacing) -/
def b_is_zone : Sx := (.seq (.ite (.not_ (.call 1 (.cons (.var 0) (.nil))))
    (.ret (.c (.bl false))) .skip)
    (.seq (.asg (.tup (.cons (.name 1) (.cons (.name 2) .nil))) (.var 0))
    (.seq (.ite (.or_ (.not_ (.call 5 (.cons (.var 1) (.nil)))) (.not_ (.call 0 (.cons (.var 2) (.nil)))))
    (.ret (.c (.bl false))) .skip)
    (.ret (.chain .lt .le (.bin .sub (.ix (.var 1) (.neg (.c (.int 1)))) (.ix (.var 1) (.c (.int 0)))) (.var 2) (.c (.int 1000000)))))))
/-- 8: _are_jumps (zone, offset, marks, moments, mark, offsets, spaced, moment, later, ahead, behind) -/
def b_are_jumps : Sx := (.seq (.asg (.name 3) (.lc .seq (.cons (.var 2) .nil) (.name 4) (.c (.bl true)) (.ix (.var 4) (.c (.int 0))) [4]))
    (.seq (.asg (.name 5) (.bin .add (.lst (.cons (.var 1) (.nil))) (.lc .seq (.cons (.var 2) .nil) (.name 4) (.c (.bl true)) (.ix (.var 4) (.c (.int 1))) [4])))
    (.seq (.asg (.name 6) (.blt .all_ (.cons (.lc .zip (.cons (.var 3) (.cons (.sl true false (.var 3) (.c (.int 1)) .nop) (.nil))) (.tup (.cons (.name 7) (.cons (.name 8) .nil))) (.c (.bl true)) (.cmp .ge (.bin .sub (.var 8) (.var 7)) (.ix (.var 0) (.c (.int 1)))) [7, 8]) (.nil))))
    (.ret (.and_ (.var 6) (.blt .all_ (.cons (.lc .zip (.cons (.var 5) (.cons (.sl true false (.var 5) (.c (.int 1)) .nop) (.nil))) (.tup (.cons (.name 9) (.cons (.name 10) .nil))) (.c (.bl true)) (.cmp .ne (.var 9) (.var 10)) [9, 10]) (.nil))))))))
/-- 9: is_offset (zone, value) -/
def b_is_offset : Sx := (.ret (.and_ (.call 0 (.cons (.var 1) (.nil))) (.cmp .in_ (.var 1) (.ix (.var 0) (.c (.int 0))))))
/-- 10: _is_mark (zone, value) -/
def b_is_mark : Sx := (.ret (.and_ (.call 1 (.cons (.var 1) (.nil))) (.and_ (.call 0 (.cons (.ix (.var 1) (.c (.int 0))) (.nil))) (.call 9 (.cons (.var 0) (.cons (.ix (.var 1) (.c (.int 1))) (.nil)))))))
/-- 11: are_marks (zone, value, item) -/
def b_are_marks : Sx := (.ret (.and_ (.blt .isi (.cons (.var 1) (.cons (.c (.ty "tuple")) (.nil)))) (.blt .all_ (.cons (.lc .seq (.cons (.var 1) .nil) (.name 2) (.c (.bl true)) (.call 10 (.cons (.var 0) (.cons (.var 2) (.nil)))) [2]) (.nil)))))
/-- 12: fits_as_table (zone, value, offset, jumps) -/
def b_fits_as_table : Sx := (.seq (.ite (.not_ (.call 1 (.cons (.var 1) (.nil))))
    (.ret (.c (.bl false))) .skip)
    (.seq (.asg (.tup (.cons (.name 2) (.cons (.name 3) .nil))) (.var 1))
    (.seq (.ite (.or_ (.not_ (.call 9 (.cons (.var 0) (.cons (.var 2) (.nil))))) (.not_ (.call 11 (.cons (.var 0) (.cons (.var 3) (.nil))))))
    (.ret (.c (.bl false))) .skip)
    (.ret (.call 8 (.cons (.var 0) (.cons (.var 2) (.cons (.var 3) (.nil)))))))))
/-- 14: held_offset (table, moment, offset, jumps, start, later) -/
def b_held_offset : Sx := (.seq (.asg (.tup (.cons (.name 2) (.cons (.name 3) .nil))) (.var 0))
    (.seq (.for_ .seq (.cons (.var 3) .nil) (.tup (.cons (.name 4) (.cons (.name 5) .nil)))
    (.seq (.ite (.cmp .gt (.var 4) (.var 1))
    (.brk) .skip)
    (.asg (.name 2) (.var 5))))
    (.ret (.var 2))))
/-- 27: matching_moments (reading, looks, moment, offset) -/
def b_matching_moments : Sx := (.ret (.lc .seq (.cons (.var 1) .nil) (.tup (.cons (.name 2) (.cons (.name 3) .nil))) (.cmp .eq (.bin .add (.var 2) (.var 3)) (.var 0)) (.var 2) [2, 3]))
/-- 28: moments_to_look_at (zone, reading, offset) -/
def b_moments_to_look_at : Sx := (.ret (.lc .seq (.cons (.rev (.ix (.var 0) (.c (.int 0)))) .nil) (.name 2) (.c (.bl true)) (.bin .sub (.var 1) (.var 2)) [2]))
/-- 65: is_rule (value, rules) -/
def b_is_rule : Sx := (.ret (.and_ (.blt .isi (.cons (.var 0) (.cons (.c (.ty "str")) (.nil)))) (.cmp .in_ (.var 0) (.var 1))))
/-- 67: _chosen (rule, rules, first, second) -/
def b_chosen : Sx := (.seq (.ite (.cmp .eq (.var 0) (.ix (.var 1) (.c (.int 0))))
    (.ret (.var 2)) .skip)
    (.seq (.ite (.cmp .eq (.var 0) (.ix (.var 1) (.c (.int 1))))
    (.ret (.var 3)) .skip)
    (.ret (.c .non))))
/-- 68: found_moment (reading, looks, fold, gap, moments) -/
def b_found_moment : Sx := (.seq (.asg (.name 4) (.call 27 (.cons (.var 0) (.cons (.var 1) (.nil)))))
    (.seq (.ite (.cmp .eq (.blt .len (.cons (.var 4) (.nil))) (.c (.int 1)))
    (.ret (.ix (.var 4) (.c (.int 0)))) .skip)
    (.seq (.ite (.var 4)
    (.ret (.call 67 (.cons (.var 2) (.cons (.c (.tup [.str "early", .str "late", .str "refuse"])) (.cons (.ix (.var 4) (.c (.int 0))) (.cons (.ix (.var 4) (.c (.int 1))) (.nil))))))) .skip)
    (.ret (.call 67 (.cons (.var 3) (.cons (.c (.tup [.str "ahead", .str "behind", .str "refuse"])) (.cons (.bin .sub (.var 0) (.ix (.ix (.var 1) (.c (.int 0))) (.c (.int 1)))) (.cons (.bin .sub (.var 0) (.ix (.ix (.var 1) (.neg (.c (.int 1)))) (.c (.int 1)))) (.nil))))))))))
/-- 84: first_word (value) -/
def b_first_word : Sx := (.seq (.ite (.and_ (.blt .isi (.cons (.var 0) (.cons (.c (.ty "tuple")) (.nil)))) (.and_ (.cmp .gt (.blt .len (.cons (.var 0) (.nil))) (.c (.int 0))) (.blt .isi (.cons (.ix (.var 0) (.c (.int 0))) (.cons (.c (.ty "str")) (.nil))))))
    (.ret (.ix (.var 0) (.c (.int 0)))) .skip)
    (.ret (.c .non)))
/-- 85: is_zones (value, item) -/
def b_is_zones : Sx := (.seq (.ite (.or_ (.not_ (.blt .isi (.cons (.var 0) (.cons (.c (.ty "tuple")) (.nil))))) (.not_ (.chain .le .le (.c (.int 1)) (.blt .len (.cons (.var 0) (.nil))) (.c (.int 2)))))
    (.ret (.c (.bl false))) .skip)
    (.ret (.blt .all_ (.cons (.lc .seq (.cons (.var 0) .nil) (.name 1) (.c (.bl true)) (.call 6 (.cons (.var 1) (.nil))) [1]) (.nil)))))
/-- 86: check_zones (value) -/
def b_check_zones : Sx := (.ite (.not_ (.call 85 (.cons (.var 0) (.nil))))
    .stuck .skip)
/-- 87: is_place (zones, value) -/
def b_is_place : Sx := (.ret (.and_ (.call 0 (.cons (.var 1) (.nil))) (.chain .le .lt (.c (.int 0)) (.var 1) (.blt .len (.cons (.var 0) (.nil))))))
/-- 88: _is_index (known, value) -/
def b_is_index : Sx := (.ret (.and_ (.call 0 (.cons (.var 1) (.nil))) (.chain .le .lt (.c (.int 0)) (.var 1) (.blt .len (.cons (.var 0) (.nil))))))
/-- 89: is_time (known, value) -/
def b_is_time : Sx := (.ret (.and_ (.call 88 (.cons (.var 0) (.cons (.var 1) (.nil)))) (.cmp .ne (.ix (.var 0) (.var 1)) (.c (.str "span")))))
/-- 90: fits_step_role (zones, known, role, value) -/
def b_fits_role : Sx := (.seq (.ite (.cmp .eq (.var 2) (.c (.str "place")))
    (.ret (.call 87 (.cons (.var 0) (.cons (.var 3) (.nil))))) .skip)
    (.seq (.ite (.cmp .eq (.var 2) (.c (.str "fold")))
    (.ret (.call 65 (.cons (.var 3) (.cons (.c (.tup [.str "early", .str "late", .str "refuse"])) (.nil))))) .skip)
    (.seq (.ite (.cmp .eq (.var 2) (.c (.str "gap")))
    (.ret (.call 65 (.cons (.var 3) (.cons (.c (.tup [.str "ahead", .str "behind", .str "refuse"])) (.nil))))) .skip)
    (.seq (.ite (.cmp .eq (.var 2) (.c (.str "minutes")))
    (.ret (.and_ (.call 0 (.cons (.var 3) (.nil))) (.chain .le .le (.neg (.c (.int 100000))) (.var 3) (.c (.int 100000))))) .skip)
    (.seq (.ite (.cmp .eq (.var 2) (.c (.str "time")))
    (.ret (.call 89 (.cons (.var 1) (.cons (.var 3) (.nil))))) .skip)
    (.ret (.and_ (.call 88 (.cons (.var 1) (.cons (.var 3) (.nil)))) (.cmp .eq (.ix (.var 1) (.var 3)) (.var 2)))))))))
/-- 91: _is_step (zones, known, value, roles, role, item) -/
def b_is_step : Sx := (.seq (.asg (.name 3) (.cget [("read", .tup [.str "moment", .str "place"]), ("find", .tup [.str "reading", .str "place", .str "fold", .str "gap"]), ("offset", .tup [.str "moment", .str "place"]), ("edition", .tup [.str "moment", .str "place"]), ("plus", .tup [.str "moment", .str "span"]), ("less", .tup [.str "reading", .str "span"]), ("add", .tup [.str "time", .str "minutes"])] (.call 84 (.cons (.var 2) (.nil)))))
    (.seq (.ite (.or_ (.cmp .is_ (.var 3) (.c .non)) (.cmp .ne (.blt .len (.cons (.var 2) (.nil))) (.bin .add (.c (.int 1)) (.blt .len (.cons (.var 3) (.nil))))))
    (.ret (.c (.bl false))) .skip)
    (.ret (.blt .all_ (.cons (.lc .zip (.cons (.var 3) (.cons (.sl true false (.var 2) (.c (.int 1)) .nop) (.nil))) (.tup (.cons (.name 4) (.cons (.name 5) .nil))) (.c (.bl true)) (.call 90 (.cons (.var 0) (.cons (.var 1) (.cons (.var 4) (.cons (.var 5) (.nil)))))) [4, 5]) (.nil))))))
/-- 92: _made_kind (known, step) -/
def b_made_kind : Sx := (.seq (.ite (.cmp .eq (.ix (.var 1) (.c (.int 0))) (.c (.str "add")))
    (.ret (.ix (.var 0) (.ix (.var 1) (.c (.int 1))))) .skip)
    (.ret (.cix [("read", .str "reading"), ("find", .str "moment"), ("offset", .str "span"), ("edition", .str "moment"), ("plus", .str "reading"), ("less", .str "moment")] (.ix (.var 1) (.c (.int 0))))))
/-- 93: fits_as_program (zones, value, known, step) -/
def b_fits_as_program : Sx := (.seq (.ite (.or_ (.not_ (.blt .isi (.cons (.var 1) (.cons (.c (.ty "tuple")) (.nil))))) (.cmp .gt (.blt .len (.cons (.var 1) (.nil))) (.c (.int 8))))
    (.ret (.c (.bl false))) .skip)
    (.seq (.asg (.name 2) (.lst (.cons (.c (.str "moment")) (.nil))))
    (.seq (.for_ .seq (.cons (.var 1) .nil) (.name 3)
    (.seq (.ite (.not_ (.call 91 (.cons (.var 0) (.cons (.var 2) (.cons (.var 3) (.nil))))))
    (.ret (.c (.bl false))) .skip)
    (.drop (.meth .append (.var 2) (.cons (.call 92 (.cons (.var 2) (.cons (.var 3) (.nil)))) (.nil))))))
    (.ret (.cmp .le (.cnts (.lc .seq (.cons (.var 1) .nil) (.name 3) (.c (.bl true)) (.ix (.var 3) (.c (.int 0))) [3]) (.c (.str "edition"))) (.c (.int 1)))))))
/-- 95: check_program (zones, value) -/
def b_check_program : Sx := (.ite (.not_ (.call 93 (.cons (.var 0) (.cons (.var 1) (.nil)))))
    .stuck .skip)
/-- 98: _law_bag_of (_law_cell) -/
def b_bag_of : Sx := (.ret (.lst (.cons (.blt .max_ (.cons (.c (.int 0)) (.cons (.bin .sub (.var 0) (.bin .pow (.c (.int 10)) (.c (.int 18)))) (.nil)))) (.cons (.bin .mod (.blt .int_ (.cons (.var 0) (.nil))) (.c (.int 2305843009213693951))) (.cons (.c (.int 0)) (.nil))))))
/-- 99: _law_pick (_law_bag, _law_many, _law_here) -/
def b_pick : Sx := (.seq (.ite (.cmp .gt (.ix (.var 0) (.c (.int 0))) (.c (.int 0)))
    (.seq (.asg (.name 2) (.bin .mod (.blt .int_ (.cons (.ix (.var 0) (.c (.int 0))) (.nil))) (.var 1)))
    (.seq (.setix (.var 0) (.c (.int 0)) (.bin .fdiv (.ix (.var 0) (.c (.int 0))) (.var 1)))
    (.ret (.var 2)))) .skip)
    (.seq (.setix (.var 0) (.c (.int 2)) (.bin .add (.ix (.var 0) (.c (.int 2))) (.c (.int 1))))
    (.seq (.asg (.name 2) (.bin .mul (.bin .add (.ix (.var 0) (.c (.int 1))) (.bin .mul (.c (.int 104729)) (.ix (.var 0) (.c (.int 2))))) (.bin .add (.bin .add (.ix (.var 0) (.c (.int 1))) (.bin .mul (.c (.int 15485863)) (.ix (.var 0) (.c (.int 2))))) (.c (.int 11)))))
    (.seq (.asg (.name 2) (.bin .mod (.blt .int_ (.cons (.var 2) (.nil))) (.c (.int 2305843009213693951))))
    (.seq (.asg (.name 2) (.bin .add (.bin .mul (.var 2) (.var 2)) (.bin .mul (.c (.int 7)) (.ix (.var 0) (.c (.int 2))))))
    (.ret (.bin .mod (.blt .int_ (.cons (.bin .fdiv (.bin .mod (.blt .int_ (.cons (.var 2) (.nil))) (.c (.int 2305843009213693951))) (.c (.int 4099))) (.nil))) (.var 1))))))))
/-- 100: _law_any_belt (_law_bag, _law_upto, _law_many, _law_wide, _law_gaps, _law_k, _law_shifts, _law_gap_here, _law_least, _law_more) -/
def b_any_belt : Sx := (.seq (.asg (.name 2) (.blt .min_ (.cons (.var 1) (.cons (.ix (.lst (.cons (.c (.int 2)) (.cons (.c (.int 3)) (.cons (.c (.int 2)) (.cons (.c (.int 1)) (.cons (.c (.int 3)) (.cons (.c (.int 2)) (.nil)))))))) (.call 99 (.cons (.var 0) (.cons (.c (.int 6)) (.nil))))) (.nil)))))
    (.seq (.asg (.name 3) (.ix (.lst (.cons (.c (.int 1)) (.cons (.c (.int 60)) (.cons (.c (.int 3)) (.cons (.c (.int 600)) (.cons (.c (.int 20)) (.cons (.c (.int 1800)) (.nil)))))))) (.call 99 (.cons (.var 0) (.cons (.c (.int 6)) (.nil))))))
    (.seq (.asg (.name 3) (.blt .max_ (.cons (.c (.int 1)) (.cons (.bin .fdiv (.var 3) (.blt .max_ (.cons (.c (.int 1)) (.cons (.bin .sub (.var 2) (.c (.int 1))) (.nil))))) (.nil)))))
    (.seq (.asg (.name 4) (.lc .range1 (.cons (.bin .sub (.var 2) (.c (.int 1))) (.nil)) (.name 5) (.c (.bl true)) (.bin .sub (.var 3) (.bin .mul (.call 99 (.cons (.var 0) (.cons (.var 3) (.nil)))) (.call 99 (.cons (.var 0) (.cons (.c (.int 2)) (.nil)))))) [5]))
    (.seq (.asg (.name 6) (.lst (.cons (.bin .sub (.call 99 (.cons (.var 0) (.cons (.bin .sub (.c (.int 1801)) (.blt .sum_ (.cons (.var 4) (.nil)))) (.nil)))) (.c (.int 900))) (.nil))))
    (.seq (.for_ .seq (.cons (.var 4) .nil) (.name 7)
    (.drop (.meth .append (.var 6) (.cons (.bin .add (.ix (.var 6) (.neg (.c (.int 1)))) (.var 7)) (.nil)))))
    (.seq (.asg (.name 8) (.bin .add (.blt .sum_ (.cons (.var 4) (.nil))) (.c (.int 1))))
    (.seq (.asg (.name 9) (.lst (.cons (.c (.int 0)) (.cons (.c (.int 1)) (.cons (.c (.int 40)) (.cons (.bin .sub (.c (.int 1000000)) (.var 8)) (.cons (.call 99 (.cons (.var 0) (.cons (.c (.int 2000)) (.nil)))) (.cons (.c (.int 100)) (.cons (.call 99 (.cons (.var 0) (.cons (.bin .sub (.c (.int 1000001)) (.var 8)) (.nil)))) (.nil))))))))))
    (.ret (.tup (.cons (.blt .tuple_ (.cons (.var 6) (.nil))) (.cons (.bin .add (.var 8) (.ix (.var 9) (.call 99 (.cons (.var 0) (.cons (.c (.int 7)) (.nil)))))) (.nil)))))))))))))
/-- 101: _law_any_belts (_law_bag, _law_upto, _law_k) -/
def b_any_belts : Sx := (.ret (.blt .tuple_ (.cons (.lc .range1 (.cons (.bin .add (.c (.int 1)) (.call 99 (.cons (.var 0) (.cons (.c (.int 2)) (.nil))))) (.nil)) (.name 2) (.c (.bl true)) (.call 100 (.cons (.var 0) (.cons (.var 1) (.nil)))) [2]) (.nil))))
/-- 102: _law_same (_law_told, _law_due) -/
def b_same_2 : Sx := (.ret (.cmp .eq (.rpr (.var 0)) (.rpr (.var 1))))
/-- 103: _law_spot (_law_bag, _law_made, _law_kind, _law_some, _law_k) -/
def b_spot : Sx := (.seq (.asg (.name 3) (.lc .range1 (.cons (.blt .len (.cons (.var 1) (.nil))) (.nil)) (.name 4) (.or_ (.cmp .eq (.ix (.var 1) (.var 4)) (.var 2)) (.and_ (.cmp .eq (.var 2) (.c (.str "point"))) (.cmp .ne (.ix (.var 1) (.var 4)) (.c (.str "span"))))) (.var 4) [4]))
    (.seq (.ite (.cmp .eq (.call 99 (.cons (.var 0) (.cons (.c (.int 2)) (.nil)))) (.c (.int 0)))
    (.ret (.ix (.var 3) (.neg (.c (.int 1))))) .skip)
    (.ret (.ix (.var 3) (.call 99 (.cons (.var 0) (.cons (.blt .len (.cons (.var 3) (.nil))) (.nil))))))))
/-- 104: _law_minutes (_law_bag, _law_belts, _law_tiny, _law_shifts, _law_apart, _law_wide, _law_near, _law_amount) -/
def b_minutes : Sx := (.seq (.ite (.cmp .eq (.var 2) (.c (.int 1)))
    (.ret (.bin .sub (.call 99 (.cons (.var 0) (.cons (.c (.int 5)) (.nil)))) (.c (.int 2)))) .skip)
    (.seq (.asg (.tup (.cons (.name 3) (.cons (.name 4) .nil))) (.ix (.var 1) (.call 99 (.cons (.var 0) (.cons (.blt .len (.cons (.var 1) (.nil))) (.nil))))))
    (.seq (.asg (.name 5) (.bin .sub (.ix (.var 3) (.neg (.c (.int 1)))) (.ix (.var 3) (.c (.int 0)))))
    (.seq (.asg (.name 6) (.lst (.cons (.c (.int 1)) (.cons (.var 4) (.cons (.var 5) (.cons (.c (.int 60)) (.cons (.c (.int 100000)) (.cons (.call 99 (.cons (.var 0) (.cons (.c (.int 100000)) (.nil)))) (.cons (.c (.int 300)) (.cons (.bin .sub (.var 4) (.var 5)) (.cons (.bin .add (.var 4) (.var 5)) (.nil))))))))))))
    (.seq (.asg (.name 7) (.blt .min_ (.cons (.c (.int 100000)) (.cons (.bin .sub (.bin .add (.ix (.var 6) (.call 99 (.cons (.var 0) (.cons (.c (.int 9)) (.nil))))) (.call 99 (.cons (.var 0) (.cons (.c (.int 3)) (.nil))))) (.c (.int 1))) (.nil)))))
    (.ret (.bin .mul (.var 7) (.bin .sub (.c (.int 1)) (.bin .mul (.c (.int 2)) (.call 99 (.cons (.var 0) (.cons (.c (.int 2)) (.nil)))))))))))))
/-- 105: _law_any_rules (_law_bag) -/
def b_any_rules : Sx := (.ret (.tup (.cons (.ix (.lst (.cons (.c (.str "early")) (.cons (.c (.str "late")) (.cons (.c (.str "refuse")) (.nil))))) (.call 99 (.cons (.var 0) (.cons (.c (.int 3)) (.nil))))) (.cons (.ix (.lst (.cons (.c (.str "ahead")) (.cons (.c (.str "behind")) (.cons (.c (.str "refuse")) (.nil))))) (.call 99 (.cons (.var 0) (.cons (.c (.int 3)) (.nil))))) (.nil)))))
/-- 106: _law_less_room (_law_room, _law_deed, _law_turned) -/
def b_less_room : Sx := (.seq (.asg (.name 2) (.blt .int_ (.cons (.cmp .in_ (.ix (.var 1) (.c (.int 0))) (.lst (.cons (.c (.str "read")) (.cons (.c (.str "find")) (.cons (.c (.str "offset")) (.cons (.c (.str "edition")) (.nil))))))) (.nil))))
    (.ret (.lst (.cons (.bin .sub (.ix (.var 0) (.c (.int 0))) (.var 2)) (.cons (.bin .sub (.ix (.var 0) (.c (.int 1))) (.blt .int_ (.cons (.cmp .eq (.ix (.var 1) (.c (.int 0))) (.c (.str "find"))) (.nil)))) (.cons (.bin .sub (.ix (.var 0) (.c (.int 2))) (.blt .int_ (.cons (.cmp .eq (.ix (.var 1) (.c (.int 0))) (.c (.str "edition"))) (.nil)))) (.cons (.ix (.var 0) (.c (.int 3))) (.nil))))))))
/-- 146: _are_tables (zones, value, zone, table) -/
def b_are_tables : Sx := (.seq (.ite (.or_ (.not_ (.blt .isi (.cons (.var 1) (.cons (.c (.ty "tuple")) (.nil))))) (.cmp .ne (.blt .len (.cons (.var 1) (.nil))) (.blt .len (.cons (.var 0) (.nil)))))
    (.ret (.c (.bl false))) .skip)
    (.ret (.blt .all_ (.cons (.lc .zip (.cons (.var 0) (.cons (.var 1) (.nil))) (.tup (.cons (.name 2) (.cons (.name 3) .nil))) (.c (.bl true)) (.call 12 (.cons (.var 2) (.cons (.var 3) (.nil)))) [2, 3]) (.nil)))))
/-- 147: fits_as_world (zones, value, item) -/
def b_fits_as_world : Sx := (.ret (.and_ (.call 1 (.cons (.var 1) (.nil))) (.blt .all_ (.cons (.lc .seq (.cons (.var 1) .nil) (.name 2) (.c (.bl true)) (.call 146 (.cons (.var 0) (.cons (.var 2) (.nil)))) [2]) (.nil)))))
/-- 148: check_world (zones, value) -/
def b_check_world : Sx := (.ite (.not_ (.call 147 (.cons (.var 0) (.cons (.var 1) (.nil)))))
    .stuck .skip)
/-- 149: made_value (step, values, looks, word, value) -/
def b_made_value : Sx := (.seq (.asg (.name 3) (.ix (.var 0) (.c (.int 0))))
    (.seq (.asg (.name 4) (.ix (.var 1) (.ix (.var 0) (.c (.int 1)))))
    (.seq (.ite (.cmp .eq (.var 3) (.c (.str "read")))
    (.ret (.bin .add (.var 4) (.ix (.ix (.var 2) (.c (.int 0))) (.c (.int 1))))) .skip)
    (.seq (.ite (.cmp .eq (.var 3) (.c (.str "offset")))
    (.ret (.ix (.ix (.var 2) (.c (.int 0))) (.c (.int 1)))) .skip)
    (.seq (.ite (.cmp .eq (.var 3) (.c (.str "edition")))
    (.ret (.var 4)) .skip)
    (.seq (.ite (.cmp .eq (.var 3) (.c (.str "find")))
    (.ret (.call 68 (.cons (.var 4) (.cons (.var 2) (.cons (.ix (.var 0) (.c (.int 3))) (.cons (.ix (.var 0) (.c (.int 4))) (.nil))))))) .skip)
    (.seq (.ite (.cmp .eq (.var 3) (.c (.str "plus")))
    (.ret (.bin .add (.var 4) (.ix (.var 1) (.ix (.var 0) (.c (.int 2)))))) .skip)
    (.seq (.ite (.cmp .eq (.var 3) (.c (.str "less")))
    (.ret (.bin .sub (.var 4) (.ix (.var 1) (.ix (.var 0) (.c (.int 2)))))) .skip)
    (.ret (.bin .add (.var 4) (.ix (.var 0) (.c (.int 2)))))))))))))
/-- 150: _looks_in (world, spots, place, edition, moment) -/
def b_looks_in : Sx := (.ret (.lc .seq (.cons (.var 1) .nil) (.tup (.cons (.name 2) (.cons (.name 3) (.cons (.name 4) .nil)))) (.c (.bl true)) (.tup (.cons (.var 4) (.cons (.call 14 (.cons (.ix (.ix (.var 0) (.var 3)) (.var 2)) (.cons (.var 4) (.nil)))) (.nil)))) [2, 3, 4]))
/-- 151: _ahead_of (table, moment, offset, jumps, jump) -/
def b_ahead_of : Sx := (.seq (.asg (.tup (.cons (.name 2) (.cons (.name 3) .nil))) (.var 0))
    (.ret (.tup (.cons (.var 2) (.cons (.lc .seq (.cons (.var 3) .nil) (.name 4) (.cmp .lt (.ix (.var 4) (.c (.int 0))) (.var 1)) (.var 4) [4]) (.nil))))))
/-- 152: _suits (world, place, moment, tables, later) -/
def b_suits : Sx := (.seq (.asg (.tup (.cons (.name 3) (.cons (.name 4) .nil))) (.var 0))
    (.ret (.cmpd .eq (.call 151 (.cons (.ix (.var 3) (.var 1)) (.cons (.var 2) (.nil)))) (.call 151 (.cons (.ix (.var 4) (.var 1)) (.cons (.var 2) (.nil)))))))
/-- 153: edition_moment (program, values, place, step, value) -/
def b_edition_moment : Sx := (.seq (.for_ .zip (.cons (.var 0) (.cons (.sl true false (.var 1) (.c (.int 1)) .nop) (.nil))) (.tup (.cons (.name 3) (.cons (.name 4) .nil)))
    (.ite (.and_ (.cmp .eq (.ix (.var 3) (.c (.int 0))) (.c (.str "edition"))) (.cmp .eq (.ix (.var 3) (.c (.int 2))) (.var 2)))
    (.ret (.var 4)) .skip))
    (.ret (.c .non)))
/-- 154: _moments_of_step (zones, step, values, value) -/
def b_moments_of_step : Sx := (.seq (.asg (.name 3) (.ix (.var 2) (.ix (.var 1) (.c (.int 1)))))
    (.seq (.ite (.cmp .eq (.ix (.var 1) (.c (.int 0))) (.c (.str "find")))
    (.ret (.call 28 (.cons (.ix (.var 0) (.ix (.var 1) (.c (.int 2)))) (.cons (.var 3) (.nil))))) .skip)
    (.seq (.ite (.cmp .eq (.ix (.var 1) (.c (.int 0))) (.c (.str "edition")))
    (.ret (.lst (.cons (.bin .sub (.var 3) (.c (.int 1))) (.nil)))) .skip)
    (.ret (.lst (.cons (.var 3) (.nil)))))))
/-- 155: looked_at (zones, program, values, step, place, later_from, spots, moment, is_later) -/
def b_looked_at : Sx := (.seq (.asg (.name 3) (.ix (.var 1) (.bin .sub (.blt .len (.cons (.var 2) (.nil))) (.c (.int 1)))))
    (.seq (.ite (.cmp .notin (.c (.str "place")) (.cix [("read", .tup [.str "moment", .str "place"]), ("find", .tup [.str "reading", .str "place", .str "fold", .str "gap"]), ("offset", .tup [.str "moment", .str "place"]), ("edition", .tup [.str "moment", .str "place"]), ("plus", .tup [.str "moment", .str "span"]), ("less", .tup [.str "reading", .str "span"]), ("add", .tup [.str "time", .str "minutes"])] (.ix (.var 3) (.c (.int 0)))))
    (.ret (.lst (.nil))) .skip)
    (.seq (.asg (.name 4) (.ix (.var 3) (.c (.int 2))))
    (.seq (.asg (.name 5) (.call 153 (.cons (.var 1) (.cons (.var 2) (.cons (.var 4) (.nil))))))
    (.seq (.asg (.name 6) (.lst (.nil)))
    (.seq (.for_ .seq (.cons (.call 154 (.cons (.var 0) (.cons (.var 3) (.cons (.var 2) (.nil))))) .nil) (.name 7)
    (.seq (.asg (.name 8) (.and_ (.cmp .isnot (.var 5) (.c .non)) (.cmp .ge (.var 7) (.var 5))))
    (.drop (.meth .append (.var 6) (.cons (.tup (.cons (.var 4) (.cons (.ite (.var 8) (.c (.int 1)) (.c (.int 0))) (.cons (.var 7) (.nil))))) (.nil))))))
    (.ret (.var 6))))))))
/-- 156: run (zones, program, world, start, values, index, step, value) -/
def b_run : Sx := (.seq (.drop (.call 86 (.cons (.var 0) (.nil))))
    (.seq (.drop (.call 95 (.cons (.var 0) (.cons (.var 1) (.nil)))))
    (.seq (.drop (.call 148 (.cons (.var 0) (.cons (.var 2) (.nil)))))
    (.seq (.drop (.call 2 (.cons (.var 3) (.nil))))
    (.seq (.asg (.name 4) (.lst (.cons (.var 3) (.nil))))
    (.seq (.for_ .enum (.cons (.var 1) (.nil)) (.tup (.cons (.name 5) (.cons (.name 6) .nil)))
    (.seq (.ite (.and_ (.cmp .eq (.ix (.var 6) (.c (.int 0))) (.c (.str "edition"))) (.not_ (.call 152 (.cons (.var 2) (.cons (.ix (.var 6) (.c (.int 2))) (.cons (.ix (.var 4) (.ix (.var 6) (.c (.int 1)))) (.nil)))))))
    .stuck .skip)
    (.seq (.asg (.name 7) (.call 149 (.cons (.var 6) (.cons (.var 4) (.cons (.call 150 (.cons (.var 2) (.cons (.call 155 (.cons (.var 0) (.cons (.var 1) (.cons (.var 4) (.nil))))) (.nil)))) (.nil))))))
    (.seq (.ite (.cmp .is_ (.var 7) (.c .non))
    .stuck .skip)
    (.drop (.meth .append (.var 4) (.cons (.var 7) (.nil))))))))
    (.ret (.var 4))))))))
/-- 157: _law_next_words (_law_made, _law_room, _law_some) -/
def b_next_words : Sx := (.seq (.asg (.name 2) (.bin .add (.bin .add (.lst (.cons (.c (.str "add")) (.nil))) (.bin .mul (.lst (.cons (.c (.str "plus")) (.nil))) (.blt .int_ (.cons (.cmp .in_ (.c (.str "span")) (.var 0)) (.nil))))) (.bin .mul (.lst (.cons (.c (.str "less")) (.nil))) (.blt .int_ (.cons (.and_ (.cmp .in_ (.c (.str "span")) (.var 0)) (.cmp .in_ (.c (.str "reading")) (.var 0))) (.nil))))))
    (.seq (.ite (.cmp .gt (.ix (.var 1) (.c (.int 0))) (.c (.int 0)))
    (.seq (.asg (.name 2) (.bin .add (.bin .add (.var 2) (.lst (.cons (.c (.str "add")) (.cons (.c (.str "add")) (.cons (.c (.str "read")) (.cons (.c (.str "read")) (.cons (.c (.str "read")) (.cons (.c (.str "offset")) (.nil))))))))) (.bin .mul (.lst (.cons (.c (.str "edition")) (.nil))) (.blt .min_ (.cons (.c (.int 2)) (.cons (.ix (.var 1) (.c (.int 2))) (.nil)))))))
    (.asg (.name 2) (.bin .add (.var 2) (.bin .mul (.lst (.cons (.c (.str "find")) (.nil))) (.blt .int_ (.cons (.bin .mul (.c (.int 9)) (.blt .int_ (.cons (.and_ (.cmp .gt (.ix (.var 1) (.c (.int 1))) (.c (.int 0))) (.cmp .in_ (.c (.str "reading")) (.var 0))) (.nil)))) (.nil))))))) .skip)
    (.ret (.var 2))))
/-- 158: _law_any_deed (_law_bag, _law_belts, _law_made, _law_room, _law_some, _law_word, _law_site) -/
def b_any_deed : Sx := (.seq (.asg (.name 4) (.call 157 (.cons (.var 2) (.cons (.var 3) (.nil)))))
    (.seq (.asg (.name 5) (.ix (.var 4) (.call 99 (.cons (.var 0) (.cons (.blt .len (.cons (.var 4) (.nil))) (.nil))))))
    (.seq (.ite (.cmp .eq (.var 5) (.c (.str "add")))
    (.ret (.tup (.cons (.c (.str "add")) (.cons (.call 103 (.cons (.var 0) (.cons (.var 2) (.cons (.c (.str "point")) (.nil))))) (.cons (.call 104 (.cons (.var 0) (.cons (.var 1) (.cons (.ix (.var 3) (.c (.int 3))) (.nil))))) (.nil)))))) .skip)
    (.seq (.ite (.cmp .eq (.var 5) (.c (.str "plus")))
    (.ret (.tup (.cons (.c (.str "plus")) (.cons (.call 103 (.cons (.var 0) (.cons (.var 2) (.cons (.c (.str "moment")) (.nil))))) (.cons (.call 103 (.cons (.var 0) (.cons (.var 2) (.cons (.c (.str "span")) (.nil))))) (.nil)))))) .skip)
    (.seq (.ite (.cmp .eq (.var 5) (.c (.str "less")))
    (.ret (.tup (.cons (.c (.str "less")) (.cons (.call 103 (.cons (.var 0) (.cons (.var 2) (.cons (.c (.str "reading")) (.nil))))) (.cons (.call 103 (.cons (.var 0) (.cons (.var 2) (.cons (.c (.str "span")) (.nil))))) (.nil)))))) .skip)
    (.seq (.asg (.name 6) (.call 99 (.cons (.var 0) (.cons (.blt .len (.cons (.var 1) (.nil))) (.nil)))))
    (.seq (.ite (.cmp .eq (.var 5) (.c (.str "find")))
    (.ret (.bin .add (.tup (.cons (.c (.str "find")) (.cons (.call 103 (.cons (.var 0) (.cons (.var 2) (.cons (.c (.str "reading")) (.nil))))) (.cons (.var 6) (.nil))))) (.call 105 (.cons (.var 0) (.nil))))) .skip)
    (.ret (.tup (.cons (.var 5) (.cons (.call 103 (.cons (.var 0) (.cons (.var 2) (.cons (.c (.str "moment")) (.nil))))) (.cons (.var 6) (.nil)))))))))))))
/-- 159: _law_kind_made (_law_made, _law_deed) -/
def b_kind_made : Sx := (.seq (.ite (.cmp .eq (.ix (.var 1) (.c (.int 0))) (.c (.str "add")))
    (.ret (.ix (.var 0) (.ix (.var 1) (.c (.int 1))))) .skip)
    (.seq (.ite (.cmp .eq (.ix (.var 1) (.c (.int 0))) (.c (.str "offset")))
    (.ret (.c (.str "span"))) .skip)
    (.seq (.ite (.or_ (.cmp .eq (.ix (.var 1) (.c (.int 0))) (.c (.str "read"))) (.cmp .eq (.ix (.var 1) (.c (.int 0))) (.c (.str "plus"))))
    (.ret (.c (.str "reading"))) .skip)
    (.ret (.c (.str "moment"))))))
/-- 160: _law_kind_row (_law_plan, _law_made, _law_deed) -/
def b_kind_row : Sx := (.seq (.asg (.name 1) (.lst (.cons (.c (.str "moment")) (.nil))))
    (.seq (.for_ .seq (.cons (.var 0) .nil) (.name 2)
    (.drop (.meth .append (.var 1) (.cons (.call 159 (.cons (.var 1) (.cons (.var 2) (.nil)))) (.nil)))))
    (.ret (.var 1))))
/-- 161: _law_longer_plan (_law_bag, _law_belts, _law_plan, _law_steps, _law_room, _law_k, _law_deed) -/
def b_longer_plan : Sx := (.seq (.for_ .range1 (.cons (.var 3) (.nil)) (.name 5)
    (.seq (.asg (.name 6) (.call 158 (.cons (.var 0) (.cons (.var 1) (.cons (.call 160 (.cons (.var 2) (.nil))) (.cons (.var 4) (.nil)))))))
    (.seq (.asg (.name 4) (.call 106 (.cons (.var 4) (.cons (.var 6) (.nil)))))
    (.asg (.name 2) (.bin .add (.var 2) (.tup (.cons (.var 6) (.nil))))))))
    (.ret (.var 2)))
/-- 162: _law_any_plan (_law_bag, _law_belts, _law_upto, _law_room, _law_steps) -/
def b_any_plan : Sx := (.seq (.asg (.name 4) (.bin .sub (.var 2) (.ix (.lst (.cons (.c (.int 0)) (.cons (.c (.int 0)) (.cons (.c (.int 1)) (.cons (.c (.int 2)) (.cons (.c (.int 3)) (.cons (.call 99 (.cons (.var 0) (.cons (.bin .add (.var 2) (.c (.int 1))) (.nil)))) (.nil)))))))) (.call 99 (.cons (.var 0) (.cons (.c (.int 6)) (.nil)))))))
    (.ret (.call 161 (.cons (.var 0) (.cons (.var 1) (.cons (.tup (.nil)) (.cons (.var 4) (.cons (.var 3) (.nil)))))))))
/-- 163: _law_holds (_law_chart, _law_when, _law_held, _law_at, _law_shift) -/
def b_holds : Sx := (.seq (.asg (.name 2) (.ix (.var 0) (.c (.int 0))))
    (.seq (.for_ .seq (.cons (.ix (.var 0) (.c (.int 1))) .nil) (.tup (.cons (.name 3) (.cons (.name 4) .nil)))
    (.ite (.cmp .le (.var 3) (.var 1))
    (.asg (.name 2) (.var 4)) .skip))
    (.ret (.var 2))))
/-- 164: _law_searched (_law_belt, _law_chart, _law_hour, _law_double, _law_none, _law_fits, _law_shift, _law_ahead, _law_at) -/
def b_searched : Sx := (.seq (.asg (.name 5) (.lc .seq (.cons (.rev (.ix (.var 0) (.c (.int 0)))) .nil) (.name 6) (.cmp .eq (.call 163 (.cons (.var 1) (.cons (.bin .sub (.var 2) (.var 6)) (.nil)))) (.var 6)) (.bin .sub (.var 2) (.var 6)) [6]))
    (.seq (.ite (.cmp .eq (.blt .len (.cons (.var 5) (.nil))) (.c (.int 1)))
    (.ret (.ix (.var 5) (.c (.int 0)))) .skip)
    (.seq (.ite (.cmp .eq (.blt .len (.cons (.var 5) (.nil))) (.c (.int 2)))
    (.ret (.dget (.dct (.cons (.c (.str "early")) (.cons (.ix (.var 5) (.c (.int 0))) (.cons (.c (.str "late")) (.cons (.ix (.var 5) (.c (.int 1))) (.cons (.c (.str "refuse")) (.cons (.c .non) .nil))))))) (.var 3))) .skip)
    (.seq (.asg (.name 7) (.ix (.var 1) (.c (.int 0))))
    (.seq (.for_ .seq (.cons (.ix (.var 1) (.c (.int 1))) .nil) (.tup (.cons (.name 8) (.cons (.name 6) .nil)))
    (.seq (.ite (.and_ (.cmp .ge (.bin .sub (.var 2) (.var 7)) (.var 8)) (.cmp .lt (.bin .sub (.var 2) (.var 6)) (.var 8)))
    (.ret (.dget (.dct (.cons (.c (.str "ahead")) (.cons (.bin .sub (.var 2) (.var 7)) (.cons (.c (.str "behind")) (.cons (.bin .sub (.var 2) (.var 6)) (.cons (.c (.str "refuse")) (.cons (.c .non) .nil))))))) (.var 4))) .skip)
    (.asg (.name 7) (.var 6))))
    (.ret (.c .non)))))))
/-- 165: _law_asked_at (_law_belts, _law_deed, _law_made, _law_base, _law_shift) -/
def b_asked_at : Sx := (.seq (.asg (.name 3) (.ix (.var 2) (.ix (.var 1) (.c (.int 1)))))
    (.seq (.ite (.cmp .eq (.ix (.var 1) (.c (.int 0))) (.c (.str "find")))
    (.ret (.lc .seq (.cons (.rev (.ix (.ix (.var 0) (.ix (.var 1) (.c (.int 2)))) (.c (.int 0)))) .nil) (.name 4) (.c (.bl true)) (.bin .sub (.var 3) (.var 4)) [4])) .skip)
    (.seq (.ite (.or_ (.cmp .eq (.ix (.var 1) (.c (.int 0))) (.c (.str "read"))) (.cmp .eq (.ix (.var 1) (.c (.int 0))) (.c (.str "offset"))))
    (.ret (.lst (.cons (.var 3) (.nil)))) .skip)
    (.seq (.ite (.cmp .eq (.ix (.var 1) (.c (.int 0))) (.c (.str "edition")))
    (.ret (.lst (.cons (.bin .sub (.var 3) (.c (.int 1))) (.nil)))) .skip)
    (.ret (.lst (.nil)))))))
/-- 166: _law_worth_made (_law_belts, _law_charts, _law_deed, _law_made, _law_base) -/
def b_worth_made : Sx := (.seq (.asg (.name 4) (.ix (.var 3) (.ix (.var 2) (.c (.int 1)))))
    (.seq (.ite (.cmp .eq (.ix (.var 2) (.c (.int 0))) (.c (.str "find")))
    (.ret (.call 164 (.cons (.ix (.var 0) (.ix (.var 2) (.c (.int 2)))) (.cons (.ix (.var 1) (.ix (.var 2) (.c (.int 2)))) (.cons (.var 4) (.cons (.ix (.var 2) (.c (.int 3))) (.cons (.ix (.var 2) (.c (.int 4))) (.nil)))))))) .skip)
    (.seq (.ite (.cmp .eq (.ix (.var 2) (.c (.int 0))) (.c (.str "read")))
    (.ret (.bin .add (.var 4) (.call 163 (.cons (.ix (.var 1) (.ix (.var 2) (.c (.int 2)))) (.cons (.var 4) (.nil)))))) .skip)
    (.seq (.ite (.cmp .eq (.ix (.var 2) (.c (.int 0))) (.c (.str "offset")))
    (.ret (.call 163 (.cons (.ix (.var 1) (.ix (.var 2) (.c (.int 2)))) (.cons (.var 4) (.nil))))) .skip)
    (.seq (.ite (.cmp .eq (.ix (.var 2) (.c (.int 0))) (.c (.str "plus")))
    (.ret (.bin .add (.var 4) (.ix (.var 3) (.ix (.var 2) (.c (.int 2)))))) .skip)
    (.seq (.ite (.cmp .eq (.ix (.var 2) (.c (.int 0))) (.c (.str "less")))
    (.ret (.bin .sub (.var 4) (.ix (.var 3) (.ix (.var 2) (.c (.int 2)))))) .skip)
    (.seq (.ite (.cmp .eq (.ix (.var 2) (.c (.int 0))) (.c (.str "add")))
    (.ret (.bin .add (.var 4) (.ix (.var 2) (.c (.int 2))))) .skip)
    (.ret (.var 4)))))))))
/-- 167: _law_agree (_law_chart, _law_newer, _law_now, _law_edges, _law_at, _law_shift) -/
def b_agree : Sx := (.seq (.asg (.name 3) (.lc .seq (.cons (.bin .add (.ix (.var 0) (.c (.int 1))) (.ix (.var 1) (.c (.int 1)))) .nil) (.tup (.cons (.name 4) (.cons (.name 5) .nil))) (.cmp .lt (.var 4) (.var 2)) (.var 4) [4, 5]))
    (.seq (.drop (.meth .append (.var 3) (.cons (.bin .sub (.blt .min_ (.cons (.bin .add (.var 3) (.lst (.cons (.var 2) (.nil)))) (.nil))) (.c (.int 1))) (.nil))))
    (.ret (.cmpd .eq (.lc .seq (.cons (.var 3) .nil) (.name 4) (.cmp .ne (.call 163 (.cons (.var 0) (.cons (.var 4) (.nil)))) (.call 163 (.cons (.var 1) (.cons (.var 4) (.nil))))) (.var 4) [4]) (.lst (.nil))))))
/-- 168: _law_follow (_law_belts, _law_plan, _law_earth, _law_origin, _law_charts, _law_edged, _law_made, _law_looked, _law_k, _law_deed, _law_when, _law_worth, _law_side, _law_mark) -/
def b_follow : Sx := (.seq (.asg (.tup (.cons (.name 4) (.cons (.name 5) (.cons (.name 6) (.cons (.name 7) .nil))))) (.tup (.cons (.blt .list_ (.cons (.ix (.var 2) (.c (.int 0))) (.nil))) (.cons (.dct .nil) (.cons (.lst (.cons (.var 3) (.nil))) (.cons (.lst (.nil)) (.nil)))))))
    (.seq (.for_ .range1 (.cons (.blt .len (.cons (.var 1) (.nil))) (.nil)) (.name 8)
    (.seq (.asg (.name 9) (.ix (.var 1) (.var 8)))
    (.seq (.for_ .seq (.cons (.call 165 (.cons (.var 0) (.cons (.var 9) (.cons (.var 6) (.nil))))) .nil) (.name 10)
    (.seq (.asg (.name 12) (.blt .int_ (.cons (.and_ (.din (.ix (.var 9) (.c (.int 2))) (.var 5)) (.cmp .ge (.var 10) (.dget (.var 5) (.ix (.var 9) (.c (.int 2)))))) (.nil))))
    (.seq (.asg (.name 13) (.tup (.cons (.ix (.var 9) (.c (.int 2))) (.cons (.var 12) (.cons (.bin .sub (.var 10) (.var 3)) (.cons (.call 163 (.cons (.ix (.var 4) (.ix (.var 9) (.c (.int 2)))) (.cons (.var 10) (.nil)))) (.nil)))))))
    (.ite (.cmpd .notin (.var 13) (.var 7))
    (.drop (.meth .append (.var 7) (.cons (.var 13) (.nil)))) .skip))))
    (.seq (.ite (.cmp .eq (.ix (.var 9) (.c (.int 0))) (.c (.str "edition")))
    (.seq (.ite (.not_ (.call 167 (.cons (.ix (.var 4) (.ix (.var 9) (.c (.int 2)))) (.cons (.ix (.ix (.var 2) (.c (.int 1))) (.ix (.var 9) (.c (.int 2)))) (.cons (.ix (.var 6) (.ix (.var 9) (.c (.int 1)))) (.nil))))))
    (.ret (.c .non)) .skip)
    (.seq (.setix (.var 5) (.ix (.var 9) (.c (.int 2))) (.ix (.var 6) (.ix (.var 9) (.c (.int 1)))))
    (.setix (.var 4) (.ix (.var 9) (.c (.int 2))) (.ix (.ix (.var 2) (.c (.int 1))) (.ix (.var 9) (.c (.int 2))))))) .skip)
    (.seq (.asg (.name 11) (.call 166 (.cons (.var 0) (.cons (.var 4) (.cons (.var 9) (.cons (.var 6) (.nil)))))))
    (.seq (.ite (.cmp .is_ (.var 11) (.c .non))
    (.ret (.tup (.cons (.var 7) (.cons (.var 6) (.cons (.var 8) (.nil)))))) .skip)
    (.drop (.meth .append (.var 6) (.cons (.var 11) (.nil))))))))))
    (.ret (.tup (.cons (.var 7) (.cons (.var 6) (.cons (.c .non) (.nil))))))))
/-- 169: _law_any_chart (_law_bag, _law_belt, _law_around, _law_shifts, _law_apart, _law_held, _law_begun, _law_wide, _law_when, _law_jumps, _law_k, _law_rest, _law_shift) -/
def b_any_chart : Sx := (.seq (.asg (.tup (.cons (.name 3) (.cons (.name 4) .nil))) (.var 1))
    (.seq (.asg (.name 5) (.ix (.var 3) (.call 99 (.cons (.var 0) (.cons (.blt .len (.cons (.var 3) (.nil))) (.nil))))))
    (.seq (.asg (.name 6) (.var 5))
    (.seq (.asg (.name 7) (.ix (.lst (.cons (.c (.int 2)) (.cons (.c (.int 60)) (.cons (.bin .sub (.bin .add (.c (.int 1)) (.ix (.var 3) (.neg (.c (.int 1))))) (.ix (.var 3) (.c (.int 0)))) (.cons (.c (.int 700)) (.cons (.bin .mul (.c (.int 2)) (.var 4)) (.cons (.c (.int 3)) (.nil)))))))) (.call 99 (.cons (.var 0) (.cons (.c (.int 6)) (.nil))))))
    (.seq (.asg (.name 8) (.bin .sub (.bin .sub (.bin .add (.var 2) (.call 99 (.cons (.var 0) (.cons (.bin .add (.bin .mul (.c (.int 2)) (.var 7)) (.c (.int 1))) (.nil))))) (.var 7)) (.bin .mul (.var 4) (.call 99 (.cons (.var 0) (.cons (.c (.int 4)) (.nil)))))))
    (.seq (.asg (.name 9) (.lst (.nil)))
    (.seq (.for_ .range1 (.cons (.bin .mul (.ix (.lst (.cons (.c (.int 1)) (.cons (.c (.int 0)) (.cons (.c (.int 2)) (.cons (.c (.int 3)) (.cons (.c (.int 4)) (.cons (.c (.int 5)) (.cons (.c (.int 7)) (.cons (.c (.int 50)) (.nil)))))))))) (.call 99 (.cons (.var 0) (.cons (.c (.int 8)) (.nil))))) (.blt .int_ (.cons (.cmp .gt (.blt .len (.cons (.var 3) (.nil))) (.c (.int 1))) (.nil)))) (.nil)) (.name 10)
    (.seq (.asg (.name 11) (.lc .seq (.cons (.var 3) .nil) (.name 12) (.cmp .ne (.var 12) (.var 5)) (.var 12) [12]))
    (.seq (.asg (.name 5) (.ix (.var 11) (.call 99 (.cons (.var 0) (.cons (.blt .len (.cons (.var 11) (.nil))) (.nil))))))
    (.seq (.drop (.meth .append (.var 9) (.cons (.tup (.cons (.var 8) (.cons (.var 5) (.nil)))) (.nil))))
    (.asg (.name 8) (.bin .add (.bin .add (.var 8) (.var 4)) (.ix (.lst (.cons (.c (.int 0)) (.cons (.c (.int 0)) (.cons (.c (.int 1)) (.cons (.call 99 (.cons (.var 0) (.cons (.c (.int 200)) (.nil)))) (.nil)))))) (.call 99 (.cons (.var 0) (.cons (.c (.int 4)) (.nil)))))))))))
    (.ret (.tup (.cons (.var 6) (.cons (.blt .tuple_ (.cons (.var 9) (.nil))) (.nil))))))))))))
/-- 170: _law_any_later (_law_bag, _law_belt, _law_chart, _law_now, _law_kept, _law_jump, _law_held, _law_when, _law_k, _law_rest, _law_shift) -/
def b_any_later : Sx := (.seq (.asg (.name 4) (.lc .seq (.cons (.ix (.var 2) (.c (.int 1))) .nil) (.name 5) (.cmp .lt (.ix (.var 5) (.c (.int 0))) (.var 3)) (.var 5) [5]))
    (.seq (.asg (.tup (.cons (.name 6) (.cons (.name 7) .nil))) (.tup (.cons (.ix (.var 2) (.c (.int 0))) (.cons (.var 3) (.nil)))))
    (.seq (.ite (.cmpd .ne (.var 4) (.lst (.nil)))
    (.asg (.tup (.cons (.name 6) (.cons (.name 7) .nil))) (.tup (.cons (.ix (.ix (.var 4) (.neg (.c (.int 1)))) (.c (.int 1))) (.cons (.blt .max_ (.cons (.var 3) (.cons (.bin .add (.ix (.ix (.var 4) (.neg (.c (.int 1)))) (.c (.int 0))) (.ix (.var 1) (.c (.int 1)))) (.nil)))) (.nil))))) .skip)
    (.seq (.asg (.name 7) (.bin .add (.var 7) (.ix (.lst (.cons (.c (.int 0)) (.cons (.c (.int 0)) (.cons (.c (.int 1)) (.cons (.c (.int 60)) (.cons (.call 99 (.cons (.var 0) (.cons (.c (.int 900)) (.nil)))) (.nil))))))) (.call 99 (.cons (.var 0) (.cons (.c (.int 5)) (.nil)))))))
    (.seq (.for_ .range1 (.cons (.bin .mul (.call 99 (.cons (.var 0) (.cons (.c (.int 5)) (.nil)))) (.blt .int_ (.cons (.cmp .gt (.blt .len (.cons (.ix (.var 1) (.c (.int 0))) (.nil))) (.c (.int 1))) (.nil)))) (.nil)) (.name 8)
    (.seq (.asg (.name 9) (.lc .seq (.cons (.ix (.var 1) (.c (.int 0))) .nil) (.name 10) (.cmp .ne (.var 10) (.var 6)) (.var 10) [10]))
    (.seq (.asg (.name 6) (.ix (.var 9) (.call 99 (.cons (.var 0) (.cons (.blt .len (.cons (.var 9) (.nil))) (.nil))))))
    (.seq (.drop (.meth .append (.var 4) (.cons (.tup (.cons (.var 7) (.cons (.var 6) (.nil)))) (.nil))))
    (.asg (.name 7) (.bin .add (.bin .add (.var 7) (.ix (.var 1) (.c (.int 1)))) (.ix (.lst (.cons (.c (.int 0)) (.cons (.c (.int 0)) (.cons (.c (.int 1)) (.cons (.call 99 (.cons (.var 0) (.cons (.c (.int 200)) (.nil)))) (.nil)))))) (.call 99 (.cons (.var 0) (.cons (.c (.int 4)) (.nil)))))))))))
    (.ret (.tup (.cons (.ix (.var 2) (.c (.int 0))) (.cons (.blt .tuple_ (.cons (.var 4) (.nil))) (.nil))))))))))
/-- 171: _law_any_origin (_law_bag, _law_far) -/
def b_any_origin : Sx := (.seq (.asg (.name 1) (.bin .sub (.call 99 (.cons (.var 0) (.cons (.c (.int 1999800000001)) (.nil)))) (.c (.int 999900000000))))
    (.ret (.ix (.lst (.cons (.c (.int 0)) (.cons (.var 1) (.cons (.bin .sub (.call 99 (.cons (.var 0) (.cons (.c (.int 2001)) (.nil)))) (.c (.int 1000))) (.cons (.var 1) (.nil)))))) (.call 99 (.cons (.var 0) (.cons (.c (.int 4)) (.nil)))))))
/-- 172: _law_any_earth (_law_bag, _law_belts, _law_plan, _law_origin, _law_near, _law_charts, _law_belt, _law_newer, _law_at, _law_k, _law_deed, _law_made) -/
def b_any_earth : Sx := (.seq (.asg (.name 5) (.lc .seq (.cons (.var 1) .nil) (.name 6) (.c (.bl true)) (.call 169 (.cons (.var 0) (.cons (.var 6) (.cons (.var 3) (.nil))))) [6]))
    (.seq (.asg (.name 7) (.lc .seq (.cons (.var 1) .nil) (.name 6) (.c (.bl true)) (.call 169 (.cons (.var 0) (.cons (.var 6) (.cons (.var 3) (.nil))))) [6]))
    (.seq (.asg (.name 8) (.lc .range1 (.cons (.blt .len (.cons (.var 2) (.nil))) (.nil)) (.name 9) (.cmp .eq (.ix (.ix (.var 2) (.var 9)) (.c (.int 0))) (.c (.str "edition"))) (.var 9) [9]))
    (.seq (.ite (.cmpd .ne (.var 8) (.lst (.nil)))
    (.seq (.asg (.name 10) (.ix (.var 2) (.ix (.var 8) (.c (.int 0)))))
    (.seq (.asg (.name 11) (.ix (.call 168 (.cons (.var 1) (.cons (.sl false true (.var 2) .nop (.ix (.var 8) (.c (.int 0)))) (.cons (.tup (.cons (.var 5) (.cons (.var 5) (.nil)))) (.cons (.var 3) (.nil)))))) (.c (.int 1))))
    (.ite (.cmp .lt (.ix (.var 10) (.c (.int 1))) (.blt .len (.cons (.var 11) (.nil))))
    (.setix (.var 7) (.ix (.var 10) (.c (.int 2))) (.call 170 (.cons (.var 0) (.cons (.ix (.var 1) (.ix (.var 10) (.c (.int 2)))) (.cons (.ix (.var 5) (.ix (.var 10) (.c (.int 2)))) (.cons (.bin .add (.ix (.var 11) (.ix (.var 10) (.c (.int 1)))) (.var 4)) (.nil))))))) .skip))) .skip)
    (.ret (.tup (.cons (.blt .tuple_ (.cons (.var 5) (.nil))) (.cons (.blt .tuple_ (.cons (.var 7) (.nil))) (.nil)))))))))
/-- 173: law (_law_script, _law_cell, _law_bag, _law_belts, _law_plan, _law_origin, _law_earth, _law_due, _law_told) -/
def b_law_k22 : Sx := (.seq (.for_ .seq (.cons (.bin .add (.lst (.cons (.c (.int 640271983355078114290663745182097713395860124477519382)) (.nil))) (.sl false true (.var 0) .nop (.c (.int 30)))) .nil) (.name 1)
    (.seq (.asg (.name 2) (.call 98 (.cons (.var 1) (.nil))))
    (.seq (.asg (.name 3) (.call 101 (.cons (.var 2) (.cons (.c (.int 3)) (.nil)))))
    (.seq (.asg (.name 4) (.call 162 (.cons (.var 2) (.cons (.var 3) (.cons (.c (.int 8)) (.cons (.lst (.cons (.c (.int 8)) (.cons (.c (.int 0)) (.cons (.c (.int 0)) (.cons (.c (.int 0)) (.nil)))))) (.nil)))))))
    (.seq (.asg (.name 5) (.call 171 (.cons (.var 2) (.nil))))
    (.seq (.asg (.name 6) (.call 172 (.cons (.var 2) (.cons (.var 3) (.cons (.var 4) (.cons (.var 5) (.cons (.c (.int 0)) (.nil))))))))
    (.seq (.asg (.name 7) (.ix (.call 168 (.cons (.var 3) (.cons (.var 4) (.cons (.var 6) (.cons (.var 5) (.nil)))))) (.c (.int 1))))
    (.seq (.asg (.name 8) (.call 156 (.cons (.var 3) (.cons (.var 4) (.cons (.var 6) (.cons (.var 5) .nil))))))
    (.seq (.ite (.not_ (.call 102 (.cons (.var 8) (.cons (.var 7) (.nil)))))
    (.ret (.c (.bl false))) .skip)
    (.seq (.drop (.meth .clear (.var 8) .nil))
    (.seq (.ite (.not_ (.call 102 (.cons (.call 156 (.cons (.var 3) (.cons (.var 4) (.cons (.var 6) (.cons (.bin .add (.var 5) (.c (.int 1))) .nil))))) (.cons (.ix (.call 168 (.cons (.var 3) (.cons (.var 4) (.cons (.var 6) (.cons (.bin .add (.var 5) (.c (.int 1))) (.nil)))))) (.c (.int 1))) (.nil)))))
    (.ret (.c (.bl false))) .skip)
    (.seq (.ite (.not_ (.call 102 (.cons (.call 156 (.cons (.var 3) (.cons (.var 4) (.cons (.var 6) (.cons (.c (.int 0)) .nil))))) (.cons (.ix (.call 168 (.cons (.var 3) (.cons (.var 4) (.cons (.var 6) (.cons (.c (.int 0)) (.nil)))))) (.c (.int 1))) (.nil)))))
    (.ret (.c (.bl false))) .skip)
    (.ite (.not_ (.call 102 (.cons (.call 156 (.cons (.var 3) (.cons (.var 4) (.cons (.var 6) (.cons (.var 5) .nil))))) (.cons (.var 7) (.nil)))))
    (.ret (.c (.bl false))) .skip)))))))))))))
    (.ret (.c (.bl true))))
def T : Nat → Option Fd
  | 0 => some ⟨1, 1, b_is_number⟩
  | 1 => some ⟨1, 1, b_is_pair⟩
  | 2 => some ⟨1, 1, b_check_number⟩
  | 3 => some ⟨1, 3, b_is_ascending⟩
  | 4 => some ⟨1, 1, b_is_near⟩
  | 5 => some ⟨1, 2, b_are_offsets⟩
  | 6 => some ⟨1, 3, b_is_zone⟩
  | 8 => some ⟨3, 11, b_are_jumps⟩
  | 9 => some ⟨2, 2, b_is_offset⟩
  | 10 => some ⟨2, 2, b_is_mark⟩
  | 11 => some ⟨2, 3, b_are_marks⟩
  | 12 => some ⟨2, 4, b_fits_as_table⟩
  | 14 => some ⟨2, 6, b_held_offset⟩
  | 27 => some ⟨2, 4, b_matching_moments⟩
  | 28 => some ⟨2, 3, b_moments_to_look_at⟩
  | 65 => some ⟨2, 2, b_is_rule⟩
  | 67 => some ⟨4, 4, b_chosen⟩
  | 68 => some ⟨4, 5, b_found_moment⟩
  | 84 => some ⟨1, 1, b_first_word⟩
  | 85 => some ⟨1, 2, b_is_zones⟩
  | 86 => some ⟨1, 1, b_check_zones⟩
  | 87 => some ⟨2, 2, b_is_place⟩
  | 88 => some ⟨2, 2, b_is_index⟩
  | 89 => some ⟨2, 2, b_is_time⟩
  | 90 => some ⟨4, 4, b_fits_role⟩
  | 91 => some ⟨3, 6, b_is_step⟩
  | 92 => some ⟨2, 2, b_made_kind⟩
  | 93 => some ⟨2, 4, b_fits_as_program⟩
  | 95 => some ⟨2, 2, b_check_program⟩
  | 98 => some ⟨1, 1, b_bag_of⟩
  | 99 => some ⟨2, 3, b_pick⟩
  | 100 => some ⟨2, 10, b_any_belt⟩
  | 101 => some ⟨2, 3, b_any_belts⟩
  | 102 => some ⟨2, 2, b_same_2⟩
  | 103 => some ⟨3, 5, b_spot⟩
  | 104 => some ⟨3, 8, b_minutes⟩
  | 105 => some ⟨1, 1, b_any_rules⟩
  | 106 => some ⟨2, 3, b_less_room⟩
  | 146 => some ⟨2, 4, b_are_tables⟩
  | 147 => some ⟨2, 3, b_fits_as_world⟩
  | 148 => some ⟨2, 2, b_check_world⟩
  | 149 => some ⟨3, 5, b_made_value⟩
  | 150 => some ⟨2, 5, b_looks_in⟩
  | 151 => some ⟨2, 5, b_ahead_of⟩
  | 152 => some ⟨3, 5, b_suits⟩
  | 153 => some ⟨3, 5, b_edition_moment⟩
  | 154 => some ⟨3, 4, b_moments_of_step⟩
  | 155 => some ⟨3, 9, b_looked_at⟩
  | 156 => some ⟨4, 8, b_run⟩
  | 157 => some ⟨2, 3, b_next_words⟩
  | 158 => some ⟨4, 7, b_any_deed⟩
  | 159 => some ⟨2, 2, b_kind_made⟩
  | 160 => some ⟨1, 3, b_kind_row⟩
  | 161 => some ⟨5, 7, b_longer_plan⟩
  | 162 => some ⟨4, 5, b_any_plan⟩
  | 163 => some ⟨2, 5, b_holds⟩
  | 164 => some ⟨5, 9, b_searched⟩
  | 165 => some ⟨3, 5, b_asked_at⟩
  | 166 => some ⟨4, 5, b_worth_made⟩
  | 167 => some ⟨3, 6, b_agree⟩
  | 168 => some ⟨4, 14, b_follow⟩
  | 169 => some ⟨3, 13, b_any_chart⟩
  | 170 => some ⟨4, 11, b_any_later⟩
  | 171 => some ⟨1, 2, b_any_origin⟩
  | 172 => some ⟨5, 12, b_any_earth⟩
  | 173 => some ⟨1, 9, b_law_k22⟩
  | _ => none
theorem T_is_number : T 0 = some ⟨1, 1, b_is_number⟩ := rfl
theorem T_is_pair : T 1 = some ⟨1, 1, b_is_pair⟩ := rfl
theorem T_check_number : T 2 = some ⟨1, 1, b_check_number⟩ := rfl
theorem T_is_ascending : T 3 = some ⟨1, 3, b_is_ascending⟩ := rfl
theorem T_is_near : T 4 = some ⟨1, 1, b_is_near⟩ := rfl
theorem T_are_offsets : T 5 = some ⟨1, 2, b_are_offsets⟩ := rfl
theorem T_is_zone : T 6 = some ⟨1, 3, b_is_zone⟩ := rfl
theorem T_are_jumps : T 8 = some ⟨3, 11, b_are_jumps⟩ := rfl
theorem T_is_offset : T 9 = some ⟨2, 2, b_is_offset⟩ := rfl
theorem T_is_mark : T 10 = some ⟨2, 2, b_is_mark⟩ := rfl
theorem T_are_marks : T 11 = some ⟨2, 3, b_are_marks⟩ := rfl
theorem T_fits_as_table : T 12 = some ⟨2, 4, b_fits_as_table⟩ := rfl
theorem T_held_offset : T 14 = some ⟨2, 6, b_held_offset⟩ := rfl
theorem T_matching_moments : T 27 = some ⟨2, 4, b_matching_moments⟩ := rfl
theorem T_moments_to_look_at : T 28 = some ⟨2, 3, b_moments_to_look_at⟩ := rfl
theorem T_is_rule : T 65 = some ⟨2, 2, b_is_rule⟩ := rfl
theorem T_chosen : T 67 = some ⟨4, 4, b_chosen⟩ := rfl
theorem T_found_moment : T 68 = some ⟨4, 5, b_found_moment⟩ := rfl
theorem T_first_word : T 84 = some ⟨1, 1, b_first_word⟩ := rfl
theorem T_is_zones : T 85 = some ⟨1, 2, b_is_zones⟩ := rfl
theorem T_check_zones : T 86 = some ⟨1, 1, b_check_zones⟩ := rfl
theorem T_is_place : T 87 = some ⟨2, 2, b_is_place⟩ := rfl
theorem T_is_index : T 88 = some ⟨2, 2, b_is_index⟩ := rfl
theorem T_is_time : T 89 = some ⟨2, 2, b_is_time⟩ := rfl
theorem T_fits_role : T 90 = some ⟨4, 4, b_fits_role⟩ := rfl
theorem T_is_step : T 91 = some ⟨3, 6, b_is_step⟩ := rfl
theorem T_made_kind : T 92 = some ⟨2, 2, b_made_kind⟩ := rfl
theorem T_fits_as_program : T 93 = some ⟨2, 4, b_fits_as_program⟩ := rfl
theorem T_check_program : T 95 = some ⟨2, 2, b_check_program⟩ := rfl
theorem T_bag_of : T 98 = some ⟨1, 1, b_bag_of⟩ := rfl
theorem T_pick : T 99 = some ⟨2, 3, b_pick⟩ := rfl
theorem T_any_belt : T 100 = some ⟨2, 10, b_any_belt⟩ := rfl
theorem T_any_belts : T 101 = some ⟨2, 3, b_any_belts⟩ := rfl
theorem T_same_2 : T 102 = some ⟨2, 2, b_same_2⟩ := rfl
theorem T_spot : T 103 = some ⟨3, 5, b_spot⟩ := rfl
theorem T_minutes : T 104 = some ⟨3, 8, b_minutes⟩ := rfl
theorem T_any_rules : T 105 = some ⟨1, 1, b_any_rules⟩ := rfl
theorem T_less_room : T 106 = some ⟨2, 3, b_less_room⟩ := rfl
theorem T_are_tables : T 146 = some ⟨2, 4, b_are_tables⟩ := rfl
theorem T_fits_as_world : T 147 = some ⟨2, 3, b_fits_as_world⟩ := rfl
theorem T_check_world : T 148 = some ⟨2, 2, b_check_world⟩ := rfl
theorem T_made_value : T 149 = some ⟨3, 5, b_made_value⟩ := rfl
theorem T_looks_in : T 150 = some ⟨2, 5, b_looks_in⟩ := rfl
theorem T_ahead_of : T 151 = some ⟨2, 5, b_ahead_of⟩ := rfl
theorem T_suits : T 152 = some ⟨3, 5, b_suits⟩ := rfl
theorem T_edition_moment : T 153 = some ⟨3, 5, b_edition_moment⟩ := rfl
theorem T_moments_of_step : T 154 = some ⟨3, 4, b_moments_of_step⟩ := rfl
theorem T_looked_at : T 155 = some ⟨3, 9, b_looked_at⟩ := rfl
theorem T_run : T 156 = some ⟨4, 8, b_run⟩ := rfl
theorem T_next_words : T 157 = some ⟨2, 3, b_next_words⟩ := rfl
theorem T_any_deed : T 158 = some ⟨4, 7, b_any_deed⟩ := rfl
theorem T_kind_made : T 159 = some ⟨2, 2, b_kind_made⟩ := rfl
theorem T_kind_row : T 160 = some ⟨1, 3, b_kind_row⟩ := rfl
theorem T_longer_plan : T 161 = some ⟨5, 7, b_longer_plan⟩ := rfl
theorem T_any_plan : T 162 = some ⟨4, 5, b_any_plan⟩ := rfl
theorem T_holds : T 163 = some ⟨2, 5, b_holds⟩ := rfl
theorem T_searched : T 164 = some ⟨5, 9, b_searched⟩ := rfl
theorem T_asked_at : T 165 = some ⟨3, 5, b_asked_at⟩ := rfl
theorem T_worth_made : T 166 = some ⟨4, 5, b_worth_made⟩ := rfl
theorem T_agree : T 167 = some ⟨3, 6, b_agree⟩ := rfl
theorem T_follow : T 168 = some ⟨4, 14, b_follow⟩ := rfl
theorem T_any_chart : T 169 = some ⟨3, 13, b_any_chart⟩ := rfl
theorem T_any_later : T 170 = some ⟨4, 11, b_any_later⟩ := rfl
theorem T_any_origin : T 171 = some ⟨1, 2, b_any_origin⟩ := rfl
theorem T_any_earth : T 172 = some ⟨5, 12, b_any_earth⟩ := rfl
theorem T_law_k22 : T 173 = some ⟨1, 9, b_law_k22⟩ := rfl
end Lw

namespace Lw
open PySem L2 Ix
def topS (i : Nat) : Stmt := PySem.Challenge.pw_hoursmeant_k22_runs_without_finds.main.body.getD i (.Pass ⟨0, 0, 0, 0⟩)
/-! 0: is_number -/
abbrev s_0 : Stmt := topS 9
abbrev P_0 : List Str := ["value"]
abbrev N_0 : List Str := ["value"]
/-! 1: is_pair -/
abbrev s_1 : Stmt := topS 10
abbrev P_1 : List Str := ["value"]
abbrev N_1 : List Str := ["value"]
/-! 84: first_word -/
abbrev s_84 : Stmt := topS 11
abbrev P_84 : List Str := ["value"]
abbrev N_84 : List Str := ["value"]
/-! 2: check_number -/
abbrev s_2 : Stmt := topS 12
abbrev P_2 : List Str := ["value"]
abbrev N_2 : List Str := ["value"]
/-! 6: is_zone -/
abbrev s_6 : Stmt := topS 20
abbrev P_6 : List Str := ["value"]
abbrev N_6 : List Str := ["value", "offsets", "spacing"]
/-! 85: is_zones -/
abbrev s_85 : Stmt := topS 21
abbrev P_85 : List Str := ["value"]
abbrev N_85 : List Str := ["value", "item"]
/-! 86: check_zones -/
abbrev s_86 : Stmt := topS 22
abbrev P_86 : List Str := ["value"]
abbrev N_86 : List Str := ["value"]
/-! 12: fits_as_table -/
abbrev s_12 : Stmt := topS 23
abbrev P_12 : List Str := ["zone", "value"]
abbrev N_12 : List Str := ["zone", "value", "offset", "jumps"]
/-! 87: is_place -/
abbrev s_87 : Stmt := topS 24
abbrev P_87 : List Str := ["zones", "value"]
abbrev N_87 : List Str := ["zones", "value"]
/-! 65: is_rule -/
abbrev s_65 : Stmt := topS 25
abbrev P_65 : List Str := ["value", "rules"]
abbrev N_65 : List Str := ["value", "rules"]
/-! 9: is_offset -/
abbrev s_9 : Stmt := topS 26
abbrev P_9 : List Str := ["zone", "value"]
abbrev N_9 : List Str := ["zone", "value"]
/-! 11: are_marks -/
abbrev s_11 : Stmt := topS 27
abbrev P_11 : List Str := ["zone", "value"]
abbrev N_11 : List Str := ["zone", "value", "item"]
/-! 3: is_ascending -/
abbrev s_3 : Stmt := topS 28
abbrev P_3 : List Str := ["numbers"]
abbrev N_3 : List Str := ["numbers", "one", "other"]
/-! 14: held_offset -/
abbrev s_14 : Stmt := topS 29
abbrev P_14 : List Str := ["table", "moment"]
abbrev N_14 : List Str := ["table", "moment", "offset", "jumps", "start", "later"]
/-! 28: moments_to_look_at -/
abbrev s_28 : Stmt := topS 30
abbrev P_28 : List Str := ["zone", "reading"]
abbrev N_28 : List Str := ["zone", "reading", "offset"]
/-! 27: matching_moments -/
abbrev s_27 : Stmt := topS 31
abbrev P_27 : List Str := ["reading", "looks"]
abbrev N_27 : List Str := ["reading", "looks", "moment", "offset"]
/-! 68: found_moment -/
abbrev s_68 : Stmt := topS 32
abbrev P_68 : List Str := ["reading", "looks", "fold", "gap"]
abbrev N_68 : List Str := ["reading", "looks", "fold", "gap", "moments"]
/-! 5: _are_offsets -/
abbrev s_5 : Stmt := topS 33
abbrev P_5 : List Str := ["value"]
abbrev N_5 : List Str := ["value", "item"]
/-! 4: _is_near -/
abbrev s_4 : Stmt := topS 34
abbrev P_4 : List Str := ["value"]
abbrev N_4 : List Str := ["value"]
/-! 10: _is_mark -/
abbrev s_10 : Stmt := topS 35
abbrev P_10 : List Str := ["zone", "value"]
abbrev N_10 : List Str := ["zone", "value"]
/-! 8: _are_jumps -/
abbrev s_8 : Stmt := topS 36
abbrev P_8 : List Str := ["zone", "offset", "marks"]
abbrev N_8 : List Str := ["zone", "offset", "marks", "moments", "mark", "offsets", "spaced", "moment", "later", "ahead", "behind"]
/-! 67: _chosen -/
abbrev s_67 : Stmt := topS 37
abbrev P_67 : List Str := ["rule", "rules", "first", "second"]
abbrev N_67 : List Str := ["rule", "rules", "first", "second"]
/-! 156: run -/
abbrev s_156 : Stmt := topS 43
abbrev P_156 : List Str := ["zones", "program", "world", "start"]
abbrev N_156 : List Str := ["zones", "program", "world", "start", "values", "index", "step", "value"]
/-! 95: check_program -/
abbrev s_95 : Stmt := topS 44
abbrev P_95 : List Str := ["zones", "value"]
abbrev N_95 : List Str := ["zones", "value"]
/-! 148: check_world -/
abbrev s_148 : Stmt := topS 45
abbrev P_148 : List Str := ["zones", "value"]
abbrev N_148 : List Str := ["zones", "value"]
/-! 93: fits_as_program -/
abbrev s_93 : Stmt := topS 46
abbrev P_93 : List Str := ["zones", "value"]
abbrev N_93 : List Str := ["zones", "value", "known", "step"]
/-! 147: fits_as_world -/
abbrev s_147 : Stmt := topS 47
abbrev P_147 : List Str := ["zones", "value"]
abbrev N_147 : List Str := ["zones", "value", "item"]
/-! 90: fits_step_role -/
abbrev s_90 : Stmt := topS 48
abbrev P_90 : List Str := ["zones", "known", "role", "value"]
abbrev N_90 : List Str := ["zones", "known", "role", "value"]
/-! 89: is_time -/
abbrev s_89 : Stmt := topS 49
abbrev P_89 : List Str := ["known", "value"]
abbrev N_89 : List Str := ["known", "value"]
/-! 155: looked_at -/
abbrev s_155 : Stmt := topS 50
abbrev P_155 : List Str := ["zones", "program", "values"]
abbrev N_155 : List Str := ["zones", "program", "values", "step", "place", "later_from", "spots", "moment", "is_later"]
/-! 153: edition_moment -/
abbrev s_153 : Stmt := topS 51
abbrev P_153 : List Str := ["program", "values", "place"]
abbrev N_153 : List Str := ["program", "values", "place", "step", "value"]
/-! 149: made_value -/
abbrev s_149 : Stmt := topS 52
abbrev P_149 : List Str := ["step", "values", "looks"]
abbrev N_149 : List Str := ["step", "values", "looks", "word", "value"]
/-! 91: _is_step -/
abbrev s_91 : Stmt := topS 53
abbrev P_91 : List Str := ["zones", "known", "value"]
abbrev N_91 : List Str := ["zones", "known", "value", "roles", "role", "item"]
/-! 88: _is_index -/
abbrev s_88 : Stmt := topS 54
abbrev P_88 : List Str := ["known", "value"]
abbrev N_88 : List Str := ["known", "value"]
/-! 92: _made_kind -/
abbrev s_92 : Stmt := topS 55
abbrev P_92 : List Str := ["known", "step"]
abbrev N_92 : List Str := ["known", "step"]
/-! 146: _are_tables -/
abbrev s_146 : Stmt := topS 56
abbrev P_146 : List Str := ["zones", "value"]
abbrev N_146 : List Str := ["zones", "value", "zone", "table"]
/-! 154: _moments_of_step -/
abbrev s_154 : Stmt := topS 57
abbrev P_154 : List Str := ["zones", "step", "values"]
abbrev N_154 : List Str := ["zones", "step", "values", "value"]
/-! 150: _looks_in -/
abbrev s_150 : Stmt := topS 58
abbrev P_150 : List Str := ["world", "spots"]
abbrev N_150 : List Str := ["world", "spots", "place", "edition", "moment"]
/-! 152: _suits -/
abbrev s_152 : Stmt := topS 59
abbrev P_152 : List Str := ["world", "place", "moment"]
abbrev N_152 : List Str := ["world", "place", "moment", "tables", "later"]
/-! 151: _ahead_of -/
abbrev s_151 : Stmt := topS 60
abbrev P_151 : List Str := ["table", "moment"]
abbrev N_151 : List Str := ["table", "moment", "offset", "jumps", "jump"]
/-! 98: _law_bag_of -/
abbrev s_98 : Stmt := topS 62
abbrev P_98 : List Str := ["_law_cell"]
abbrev N_98 : List Str := ["_law_cell"]
/-! 99: _law_pick -/
abbrev s_99 : Stmt := topS 63
abbrev P_99 : List Str := ["_law_bag", "_law_many"]
abbrev N_99 : List Str := ["_law_bag", "_law_many", "_law_here"]
/-! 100: _law_any_belt -/
abbrev s_100 : Stmt := topS 64
abbrev P_100 : List Str := ["_law_bag", "_law_upto"]
abbrev N_100 : List Str := ["_law_bag", "_law_upto", "_law_many", "_law_wide", "_law_gaps", "_law_k", "_law_shifts", "_law_gap_here", "_law_least", "_law_more"]
/-! 101: _law_any_belts -/
abbrev s_101 : Stmt := topS 65
abbrev P_101 : List Str := ["_law_bag", "_law_upto"]
abbrev N_101 : List Str := ["_law_bag", "_law_upto", "_law_k"]
/-! 102: _law_same -/
abbrev s_102 : Stmt := topS 66
abbrev P_102 : List Str := ["_law_told", "_law_due"]
abbrev N_102 : List Str := ["_law_told", "_law_due"]
/-! 103: _law_spot -/
abbrev s_103 : Stmt := topS 67
abbrev P_103 : List Str := ["_law_bag", "_law_made", "_law_kind"]
abbrev N_103 : List Str := ["_law_bag", "_law_made", "_law_kind", "_law_some", "_law_k"]
/-! 104: _law_minutes -/
abbrev s_104 : Stmt := topS 68
abbrev P_104 : List Str := ["_law_bag", "_law_belts", "_law_tiny"]
abbrev N_104 : List Str := ["_law_bag", "_law_belts", "_law_tiny", "_law_shifts", "_law_apart", "_law_wide", "_law_near", "_law_amount"]
/-! 157: _law_next_words -/
abbrev s_157 : Stmt := topS 69
abbrev P_157 : List Str := ["_law_made", "_law_room"]
abbrev N_157 : List Str := ["_law_made", "_law_room", "_law_some"]
/-! 105: _law_any_rules -/
abbrev s_105 : Stmt := topS 70
abbrev P_105 : List Str := ["_law_bag"]
abbrev N_105 : List Str := ["_law_bag"]
/-! 158: _law_any_deed -/
abbrev s_158 : Stmt := topS 71
abbrev P_158 : List Str := ["_law_bag", "_law_belts", "_law_made", "_law_room"]
abbrev N_158 : List Str := ["_law_bag", "_law_belts", "_law_made", "_law_room", "_law_some", "_law_word", "_law_site"]
/-! 159: _law_kind_made -/
abbrev s_159 : Stmt := topS 72
abbrev P_159 : List Str := ["_law_made", "_law_deed"]
abbrev N_159 : List Str := ["_law_made", "_law_deed"]
/-! 160: _law_kind_row -/
abbrev s_160 : Stmt := topS 73
abbrev P_160 : List Str := ["_law_plan"]
abbrev N_160 : List Str := ["_law_plan", "_law_made", "_law_deed"]
/-! 106: _law_less_room -/
abbrev s_106 : Stmt := topS 74
abbrev P_106 : List Str := ["_law_room", "_law_deed"]
abbrev N_106 : List Str := ["_law_room", "_law_deed", "_law_turned"]
/-! 161: _law_longer_plan -/
abbrev s_161 : Stmt := topS 75
abbrev P_161 : List Str := ["_law_bag", "_law_belts", "_law_plan", "_law_steps", "_law_room"]
abbrev N_161 : List Str := ["_law_bag", "_law_belts", "_law_plan", "_law_steps", "_law_room", "_law_k", "_law_deed"]
/-! 162: _law_any_plan -/
abbrev s_162 : Stmt := topS 76
abbrev P_162 : List Str := ["_law_bag", "_law_belts", "_law_upto", "_law_room"]
abbrev N_162 : List Str := ["_law_bag", "_law_belts", "_law_upto", "_law_room", "_law_steps"]
/-! 163: _law_holds -/
abbrev s_163 : Stmt := topS 77
abbrev P_163 : List Str := ["_law_chart", "_law_when"]
abbrev N_163 : List Str := ["_law_chart", "_law_when", "_law_held", "_law_at", "_law_shift"]
/-! 164: _law_searched -/
abbrev s_164 : Stmt := topS 78
abbrev P_164 : List Str := ["_law_belt", "_law_chart", "_law_hour", "_law_double", "_law_none"]
abbrev N_164 : List Str := ["_law_belt", "_law_chart", "_law_hour", "_law_double", "_law_none", "_law_fits", "_law_shift", "_law_ahead", "_law_at"]
/-! 165: _law_asked_at -/
abbrev s_165 : Stmt := topS 79
abbrev P_165 : List Str := ["_law_belts", "_law_deed", "_law_made"]
abbrev N_165 : List Str := ["_law_belts", "_law_deed", "_law_made", "_law_base", "_law_shift"]
/-! 166: _law_worth_made -/
abbrev s_166 : Stmt := topS 80
abbrev P_166 : List Str := ["_law_belts", "_law_charts", "_law_deed", "_law_made"]
abbrev N_166 : List Str := ["_law_belts", "_law_charts", "_law_deed", "_law_made", "_law_base"]
/-! 167: _law_agree -/
abbrev s_167 : Stmt := topS 81
abbrev P_167 : List Str := ["_law_chart", "_law_newer", "_law_now"]
abbrev N_167 : List Str := ["_law_chart", "_law_newer", "_law_now", "_law_edges", "_law_at", "_law_shift"]
/-! 168: _law_follow -/
abbrev s_168 : Stmt := topS 82
abbrev P_168 : List Str := ["_law_belts", "_law_plan", "_law_earth", "_law_origin"]
abbrev N_168 : List Str := ["_law_belts", "_law_plan", "_law_earth", "_law_origin", "_law_charts", "_law_edged", "_law_made", "_law_looked", "_law_k", "_law_deed", "_law_when", "_law_worth", "_law_side", "_law_mark"]
/-! 169: _law_any_chart -/
abbrev s_169 : Stmt := topS 83
abbrev P_169 : List Str := ["_law_bag", "_law_belt", "_law_around"]
abbrev N_169 : List Str := ["_law_bag", "_law_belt", "_law_around", "_law_shifts", "_law_apart", "_law_held", "_law_begun", "_law_wide", "_law_when", "_law_jumps", "_law_k", "_law_rest", "_law_shift"]
/-! 170: _law_any_later -/
abbrev s_170 : Stmt := topS 84
abbrev P_170 : List Str := ["_law_bag", "_law_belt", "_law_chart", "_law_now"]
abbrev N_170 : List Str := ["_law_bag", "_law_belt", "_law_chart", "_law_now", "_law_kept", "_law_jump", "_law_held", "_law_when", "_law_k", "_law_rest", "_law_shift"]
/-! 171: _law_any_origin -/
abbrev s_171 : Stmt := topS 85
abbrev P_171 : List Str := ["_law_bag"]
abbrev N_171 : List Str := ["_law_bag", "_law_far"]
/-! 172: _law_any_earth -/
abbrev s_172 : Stmt := topS 86
abbrev P_172 : List Str := ["_law_bag", "_law_belts", "_law_plan", "_law_origin", "_law_near"]
abbrev N_172 : List Str := ["_law_bag", "_law_belts", "_law_plan", "_law_origin", "_law_near", "_law_charts", "_law_belt", "_law_newer", "_law_at", "_law_k", "_law_deed", "_law_made"]
/-! 173: law -/
abbrev s_173 : Stmt := topS 87
abbrev P_173 : List Str := ["_law_script"]
abbrev N_173 : List Str := ["_law_script", "_law_cell", "_law_bag", "_law_belts", "_law_plan", "_law_origin", "_law_earth", "_law_due", "_law_told"]

theorem sc_0 : FnScope N_0 P_0 (defScope s_0) := ⟨rfl, rfl, rfl, by decide +kernel, rfl, by decide +kernel, by decide +kernel⟩
theorem sc_1 : FnScope N_1 P_1 (defScope s_1) := ⟨rfl, rfl, rfl, by decide +kernel, rfl, by decide +kernel, by decide +kernel⟩
theorem sc_84 : FnScope N_84 P_84 (defScope s_84) := ⟨rfl, rfl, rfl, by decide +kernel, rfl, by decide +kernel, by decide +kernel⟩
theorem sc_2 : FnScope N_2 P_2 (defScope s_2) := ⟨rfl, rfl, rfl, by decide +kernel, rfl, by decide +kernel, by decide +kernel⟩
theorem sc_6 : FnScope N_6 P_6 (defScope s_6) := ⟨rfl, rfl, rfl, by decide +kernel, rfl, by decide +kernel, by decide +kernel⟩
theorem sc_85 : FnScope N_85 P_85 (defScope s_85) := ⟨rfl, rfl, rfl, by decide +kernel, rfl, by decide +kernel, by decide +kernel⟩
theorem sc_86 : FnScope N_86 P_86 (defScope s_86) := ⟨rfl, rfl, rfl, by decide +kernel, rfl, by decide +kernel, by decide +kernel⟩
theorem sc_12 : FnScope N_12 P_12 (defScope s_12) := ⟨rfl, rfl, rfl, by decide +kernel, rfl, by decide +kernel, by decide +kernel⟩
theorem sc_87 : FnScope N_87 P_87 (defScope s_87) := ⟨rfl, rfl, rfl, by decide +kernel, rfl, by decide +kernel, by decide +kernel⟩
theorem sc_65 : FnScope N_65 P_65 (defScope s_65) := ⟨rfl, rfl, rfl, by decide +kernel, rfl, by decide +kernel, by decide +kernel⟩
theorem sc_9 : FnScope N_9 P_9 (defScope s_9) := ⟨rfl, rfl, rfl, by decide +kernel, rfl, by decide +kernel, by decide +kernel⟩
theorem sc_11 : FnScope N_11 P_11 (defScope s_11) := ⟨rfl, rfl, rfl, by decide +kernel, rfl, by decide +kernel, by decide +kernel⟩
theorem sc_3 : FnScope N_3 P_3 (defScope s_3) := ⟨rfl, rfl, rfl, by decide +kernel, rfl, by decide +kernel, by decide +kernel⟩
theorem sc_14 : FnScope N_14 P_14 (defScope s_14) := ⟨rfl, rfl, rfl, by decide +kernel, rfl, by decide +kernel, by decide +kernel⟩
theorem sc_28 : FnScope N_28 P_28 (defScope s_28) := ⟨rfl, rfl, rfl, by decide +kernel, rfl, by decide +kernel, by decide +kernel⟩
theorem sc_27 : FnScope N_27 P_27 (defScope s_27) := ⟨rfl, rfl, rfl, by decide +kernel, rfl, by decide +kernel, by decide +kernel⟩
theorem sc_68 : FnScope N_68 P_68 (defScope s_68) := ⟨rfl, rfl, rfl, by decide +kernel, rfl, by decide +kernel, by decide +kernel⟩
theorem sc_5 : FnScope N_5 P_5 (defScope s_5) := ⟨rfl, rfl, rfl, by decide +kernel, rfl, by decide +kernel, by decide +kernel⟩
theorem sc_4 : FnScope N_4 P_4 (defScope s_4) := ⟨rfl, rfl, rfl, by decide +kernel, rfl, by decide +kernel, by decide +kernel⟩
theorem sc_10 : FnScope N_10 P_10 (defScope s_10) := ⟨rfl, rfl, rfl, by decide +kernel, rfl, by decide +kernel, by decide +kernel⟩
theorem sc_8 : FnScope N_8 P_8 (defScope s_8) := ⟨rfl, rfl, rfl, by decide +kernel, rfl, by decide +kernel, by decide +kernel⟩
theorem sc_67 : FnScope N_67 P_67 (defScope s_67) := ⟨rfl, rfl, rfl, by decide +kernel, rfl, by decide +kernel, by decide +kernel⟩
theorem sc_156 : FnScope N_156 P_156 (defScope s_156) := ⟨rfl, rfl, rfl, by decide +kernel, rfl, by decide +kernel, by decide +kernel⟩
theorem sc_95 : FnScope N_95 P_95 (defScope s_95) := ⟨rfl, rfl, rfl, by decide +kernel, rfl, by decide +kernel, by decide +kernel⟩
theorem sc_148 : FnScope N_148 P_148 (defScope s_148) := ⟨rfl, rfl, rfl, by decide +kernel, rfl, by decide +kernel, by decide +kernel⟩
theorem sc_93 : FnScope N_93 P_93 (defScope s_93) := ⟨rfl, rfl, rfl, by decide +kernel, rfl, by decide +kernel, by decide +kernel⟩
theorem sc_147 : FnScope N_147 P_147 (defScope s_147) := ⟨rfl, rfl, rfl, by decide +kernel, rfl, by decide +kernel, by decide +kernel⟩
theorem sc_90 : FnScope N_90 P_90 (defScope s_90) := ⟨rfl, rfl, rfl, by decide +kernel, rfl, by decide +kernel, by decide +kernel⟩
theorem sc_89 : FnScope N_89 P_89 (defScope s_89) := ⟨rfl, rfl, rfl, by decide +kernel, rfl, by decide +kernel, by decide +kernel⟩
theorem sc_155 : FnScope N_155 P_155 (defScope s_155) := ⟨rfl, rfl, rfl, by decide +kernel, rfl, by decide +kernel, by decide +kernel⟩
theorem sc_153 : FnScope N_153 P_153 (defScope s_153) := ⟨rfl, rfl, rfl, by decide +kernel, rfl, by decide +kernel, by decide +kernel⟩
theorem sc_149 : FnScope N_149 P_149 (defScope s_149) := ⟨rfl, rfl, rfl, by decide +kernel, rfl, by decide +kernel, by decide +kernel⟩
theorem sc_91 : FnScope N_91 P_91 (defScope s_91) := ⟨rfl, rfl, rfl, by decide +kernel, rfl, by decide +kernel, by decide +kernel⟩
theorem sc_88 : FnScope N_88 P_88 (defScope s_88) := ⟨rfl, rfl, rfl, by decide +kernel, rfl, by decide +kernel, by decide +kernel⟩
theorem sc_92 : FnScope N_92 P_92 (defScope s_92) := ⟨rfl, rfl, rfl, by decide +kernel, rfl, by decide +kernel, by decide +kernel⟩
theorem sc_146 : FnScope N_146 P_146 (defScope s_146) := ⟨rfl, rfl, rfl, by decide +kernel, rfl, by decide +kernel, by decide +kernel⟩
theorem sc_154 : FnScope N_154 P_154 (defScope s_154) := ⟨rfl, rfl, rfl, by decide +kernel, rfl, by decide +kernel, by decide +kernel⟩
theorem sc_150 : FnScope N_150 P_150 (defScope s_150) := ⟨rfl, rfl, rfl, by decide +kernel, rfl, by decide +kernel, by decide +kernel⟩
theorem sc_152 : FnScope N_152 P_152 (defScope s_152) := ⟨rfl, rfl, rfl, by decide +kernel, rfl, by decide +kernel, by decide +kernel⟩
theorem sc_151 : FnScope N_151 P_151 (defScope s_151) := ⟨rfl, rfl, rfl, by decide +kernel, rfl, by decide +kernel, by decide +kernel⟩
theorem sc_98 : FnScope N_98 P_98 (defScope s_98) := ⟨rfl, rfl, rfl, by decide +kernel, rfl, by decide +kernel, by decide +kernel⟩
theorem sc_99 : FnScope N_99 P_99 (defScope s_99) := ⟨rfl, rfl, rfl, by decide +kernel, rfl, by decide +kernel, by decide +kernel⟩
theorem sc_100 : FnScope N_100 P_100 (defScope s_100) := ⟨rfl, rfl, rfl, by decide +kernel, rfl, by decide +kernel, by decide +kernel⟩
theorem sc_101 : FnScope N_101 P_101 (defScope s_101) := ⟨rfl, rfl, rfl, by decide +kernel, rfl, by decide +kernel, by decide +kernel⟩
theorem sc_102 : FnScope N_102 P_102 (defScope s_102) := ⟨rfl, rfl, rfl, by decide +kernel, rfl, by decide +kernel, by decide +kernel⟩
theorem sc_103 : FnScope N_103 P_103 (defScope s_103) := ⟨rfl, rfl, rfl, by decide +kernel, rfl, by decide +kernel, by decide +kernel⟩
theorem sc_104 : FnScope N_104 P_104 (defScope s_104) := ⟨rfl, rfl, rfl, by decide +kernel, rfl, by decide +kernel, by decide +kernel⟩
theorem sc_157 : FnScope N_157 P_157 (defScope s_157) := ⟨rfl, rfl, rfl, by decide +kernel, rfl, by decide +kernel, by decide +kernel⟩
theorem sc_105 : FnScope N_105 P_105 (defScope s_105) := ⟨rfl, rfl, rfl, by decide +kernel, rfl, by decide +kernel, by decide +kernel⟩
theorem sc_158 : FnScope N_158 P_158 (defScope s_158) := ⟨rfl, rfl, rfl, by decide +kernel, rfl, by decide +kernel, by decide +kernel⟩
theorem sc_159 : FnScope N_159 P_159 (defScope s_159) := ⟨rfl, rfl, rfl, by decide +kernel, rfl, by decide +kernel, by decide +kernel⟩
theorem sc_160 : FnScope N_160 P_160 (defScope s_160) := ⟨rfl, rfl, rfl, by decide +kernel, rfl, by decide +kernel, by decide +kernel⟩
theorem sc_106 : FnScope N_106 P_106 (defScope s_106) := ⟨rfl, rfl, rfl, by decide +kernel, rfl, by decide +kernel, by decide +kernel⟩
theorem sc_161 : FnScope N_161 P_161 (defScope s_161) := ⟨rfl, rfl, rfl, by decide +kernel, rfl, by decide +kernel, by decide +kernel⟩
theorem sc_162 : FnScope N_162 P_162 (defScope s_162) := ⟨rfl, rfl, rfl, by decide +kernel, rfl, by decide +kernel, by decide +kernel⟩
theorem sc_163 : FnScope N_163 P_163 (defScope s_163) := ⟨rfl, rfl, rfl, by decide +kernel, rfl, by decide +kernel, by decide +kernel⟩
theorem sc_164 : FnScope N_164 P_164 (defScope s_164) := ⟨rfl, rfl, rfl, by decide +kernel, rfl, by decide +kernel, by decide +kernel⟩
theorem sc_165 : FnScope N_165 P_165 (defScope s_165) := ⟨rfl, rfl, rfl, by decide +kernel, rfl, by decide +kernel, by decide +kernel⟩
theorem sc_166 : FnScope N_166 P_166 (defScope s_166) := ⟨rfl, rfl, rfl, by decide +kernel, rfl, by decide +kernel, by decide +kernel⟩
theorem sc_167 : FnScope N_167 P_167 (defScope s_167) := ⟨rfl, rfl, rfl, by decide +kernel, rfl, by decide +kernel, by decide +kernel⟩
theorem sc_168 : FnScope N_168 P_168 (defScope s_168) := ⟨rfl, rfl, rfl, by decide +kernel, rfl, by decide +kernel, by decide +kernel⟩
theorem sc_169 : FnScope N_169 P_169 (defScope s_169) := ⟨rfl, rfl, rfl, by decide +kernel, rfl, by decide +kernel, by decide +kernel⟩
theorem sc_170 : FnScope N_170 P_170 (defScope s_170) := ⟨rfl, rfl, rfl, by decide +kernel, rfl, by decide +kernel, by decide +kernel⟩
theorem sc_171 : FnScope N_171 P_171 (defScope s_171) := ⟨rfl, rfl, rfl, by decide +kernel, rfl, by decide +kernel, by decide +kernel⟩
theorem sc_172 : FnScope N_172 P_172 (defScope s_172) := ⟨rfl, rfl, rfl, by decide +kernel, rfl, by decide +kernel, by decide +kernel⟩
theorem sc_173 : FnScope N_173 P_173 (defScope s_173) := ⟨rfl, rfl, rfl, by decide +kernel, rfl, by decide +kernel, by decide +kernel⟩
structure Gs (w : World) (K : PySem.W.Frag) (mg : Str → Option Value) : Prop where
  n_all : mg "all" = none
  n_bool : mg "bool" = none
  n_enumerate : mg "enumerate" = none
  n_int : mg "int" = none
  n_isinstance : mg "isinstance" = none
  n_len : mg "len" = none
  n_list : mg "list" = none
  n_max : mg "max" = none
  n_min : mg "min" = none
  n_range : mg "range" = none
  n_repr : mg "repr" = none
  n_str : mg "str" = none
  n_sum : mg "sum" = none
  n_tuple : mg "tuple" = none
  n_zip : mg "zip" = none
  c_MOST_SPACING : ∃ t : Tok, mg "MOST_SPACING" = some (.int 1000000 t)
  c_MOST_ZONES : ∃ t : Tok, mg "MOST_ZONES" = some (.int 2 t)
  c_GAP_RULES : ∃ a : Addr, mg "GAP_RULES" = some (.ref a) ∧ ∀ α H, Rp K α H (.tup [.str "ahead", .str "behind", .str "refuse"]) (.ref a)
  c_FOLD_RULES : ∃ a : Addr, mg "FOLD_RULES" = some (.ref a) ∧ ∀ α H, Rp K α H (.tup [.str "early", .str "late", .str "refuse"]) (.ref a)
  c_MOST_OFFSETS : ∃ t : Tok, mg "MOST_OFFSETS" = some (.int 3 t)
  c_FARTHEST_OFFSET : ∃ t : Tok, mg "FARTHEST_OFFSET" = some (.int 900 t)
  c_MOST_STEPS : ∃ t : Tok, mg "MOST_STEPS" = some (.int 8 t)
  c_FARTHEST_MINUTES : ∃ t : Tok, mg "FARTHEST_MINUTES" = some (.int 100000 t)
  c_STEP_ROLES : ∃ a : Addr, mg "STEP_ROLES" = some (.ref a) ∧ Kt K w a [("read", .tup [.str "moment", .str "place"]), ("find", .tup [.str "reading", .str "place", .str "fold", .str "gap"]), ("offset", .tup [.str "moment", .str "place"]), ("edition", .tup [.str "moment", .str "place"]), ("plus", .tup [.str "moment", .str "span"]), ("less", .tup [.str "reading", .str "span"]), ("add", .tup [.str "time", .str "minutes"])]
  c_MADE_KINDS : ∃ a : Addr, mg "MADE_KINDS" = some (.ref a) ∧ Kt K w a [("read", .str "reading"), ("find", .str "moment"), ("offset", .str "span"), ("edition", .str "moment"), ("plus", .str "reading"), ("less", .str "moment")]
structure Al (P : Program) (w : World) (K : PySem.W.Frag) (mg : Str → Option Value) (base : Heap) (n : Nat) : Prop where
  f0 : FnI P w K mg base (run T n) n 0 "is_number" P_0 s_0
  f1 : FnI P w K mg base (run T n) n 1 "is_pair" P_1 s_1
  f84 : FnI P w K mg base (run T n) n 84 "first_word" P_84 s_84
  f2 : FnI P w K mg base (run T n) n 2 "check_number" P_2 s_2
  f6 : FnI P w K mg base (run T n) n 6 "is_zone" P_6 s_6
  f85 : FnI P w K mg base (run T n) n 85 "is_zones" P_85 s_85
  f86 : FnI P w K mg base (run T n) n 86 "check_zones" P_86 s_86
  f12 : FnI P w K mg base (run T n) n 12 "fits_as_table" P_12 s_12
  f87 : FnI P w K mg base (run T n) n 87 "is_place" P_87 s_87
  f65 : FnI P w K mg base (run T n) n 65 "is_rule" P_65 s_65
  f9 : FnI P w K mg base (run T n) n 9 "is_offset" P_9 s_9
  f11 : FnI P w K mg base (run T n) n 11 "are_marks" P_11 s_11
  f3 : FnI P w K mg base (run T n) n 3 "is_ascending" P_3 s_3
  f14 : FnI P w K mg base (run T n) n 14 "held_offset" P_14 s_14
  f28 : FnI P w K mg base (run T n) n 28 "moments_to_look_at" P_28 s_28
  f27 : FnI P w K mg base (run T n) n 27 "matching_moments" P_27 s_27
  f68 : FnI P w K mg base (run T n) n 68 "found_moment" P_68 s_68
  f5 : FnI P w K mg base (run T n) n 5 "_are_offsets" P_5 s_5
  f4 : FnI P w K mg base (run T n) n 4 "_is_near" P_4 s_4
  f10 : FnI P w K mg base (run T n) n 10 "_is_mark" P_10 s_10
  f8 : FnI P w K mg base (run T n) n 8 "_are_jumps" P_8 s_8
  f67 : FnI P w K mg base (run T n) n 67 "_chosen" P_67 s_67
  f156 : FnIP P w K mg base (run T n) n 156 "run" P_156 s_156 [V.int 0]
  f95 : FnI P w K mg base (run T n) n 95 "check_program" P_95 s_95
  f148 : FnI P w K mg base (run T n) n 148 "check_world" P_148 s_148
  f93 : FnI P w K mg base (run T n) n 93 "fits_as_program" P_93 s_93
  f147 : FnI P w K mg base (run T n) n 147 "fits_as_world" P_147 s_147
  f90 : FnI P w K mg base (run T n) n 90 "fits_step_role" P_90 s_90
  f89 : FnI P w K mg base (run T n) n 89 "is_time" P_89 s_89
  f155 : FnI P w K mg base (run T n) n 155 "looked_at" P_155 s_155
  f153 : FnI P w K mg base (run T n) n 153 "edition_moment" P_153 s_153
  f149 : FnI P w K mg base (run T n) n 149 "made_value" P_149 s_149
  f91 : FnI P w K mg base (run T n) n 91 "_is_step" P_91 s_91
  f88 : FnI P w K mg base (run T n) n 88 "_is_index" P_88 s_88
  f92 : FnI P w K mg base (run T n) n 92 "_made_kind" P_92 s_92
  f146 : FnI P w K mg base (run T n) n 146 "_are_tables" P_146 s_146
  f154 : FnI P w K mg base (run T n) n 154 "_moments_of_step" P_154 s_154
  f150 : FnI P w K mg base (run T n) n 150 "_looks_in" P_150 s_150
  f152 : FnI P w K mg base (run T n) n 152 "_suits" P_152 s_152
  f151 : FnI P w K mg base (run T n) n 151 "_ahead_of" P_151 s_151
  f98 : FnI P w K mg base (run T n) n 98 "_law_bag_of" P_98 s_98
  f99 : FnI P w K mg base (run T n) n 99 "_law_pick" P_99 s_99
  f100 : FnI P w K mg base (run T n) n 100 "_law_any_belt" P_100 s_100
  f101 : FnI P w K mg base (run T n) n 101 "_law_any_belts" P_101 s_101
  f102 : FnI P w K mg base (run T n) n 102 "_law_same" P_102 s_102
  f103 : FnI P w K mg base (run T n) n 103 "_law_spot" P_103 s_103
  f104 : FnI P w K mg base (run T n) n 104 "_law_minutes" P_104 s_104
  f157 : FnI P w K mg base (run T n) n 157 "_law_next_words" P_157 s_157
  f105 : FnI P w K mg base (run T n) n 105 "_law_any_rules" P_105 s_105
  f158 : FnI P w K mg base (run T n) n 158 "_law_any_deed" P_158 s_158
  f159 : FnI P w K mg base (run T n) n 159 "_law_kind_made" P_159 s_159
  f160 : FnI P w K mg base (run T n) n 160 "_law_kind_row" P_160 s_160
  f106 : FnI P w K mg base (run T n) n 106 "_law_less_room" P_106 s_106
  f161 : FnI P w K mg base (run T n) n 161 "_law_longer_plan" P_161 s_161
  f162 : FnI P w K mg base (run T n) n 162 "_law_any_plan" P_162 s_162
  f163 : FnI P w K mg base (run T n) n 163 "_law_holds" P_163 s_163
  f164 : FnI P w K mg base (run T n) n 164 "_law_searched" P_164 s_164
  f165 : FnI P w K mg base (run T n) n 165 "_law_asked_at" P_165 s_165
  f166 : FnI P w K mg base (run T n) n 166 "_law_worth_made" P_166 s_166
  f167 : FnI P w K mg base (run T n) n 167 "_law_agree" P_167 s_167
  f168 : FnI P w K mg base (run T n) n 168 "_law_follow" P_168 s_168
  f169 : FnI P w K mg base (run T n) n 169 "_law_any_chart" P_169 s_169
  f170 : FnI P w K mg base (run T n) n 170 "_law_any_later" P_170 s_170
  f171 : FnI P w K mg base (run T n) n 171 "_law_any_origin" P_171 s_171
  f172 : FnI P w K mg base (run T n) n 172 "_law_any_earth" P_172 s_172
  f173 : FnI P w K mg base (run T n) n 173 "law" P_173 s_173
section
variable {P : Program} {w : World} {K : PySem.W.Frag} {mg : Str → Option Value} {base : Heap} {n : Nat}
/-! 0: is_number -/
theorem d_0 (A : Al P w K mg base n) (G : Gs w K mg) (fa : Addr) (cdv : Value) (Ar : Around) (outer : List PySem.Env) (s : Shared) (H : Hp) (E : XK) (hr : RoomG n (Ar.deeper (PyProof.Rows.envOfC "is_number" (defScope s_0) s.heap.objs.size fa cdv))) :
    PSs (cxOf CX0 P w K mg base N_0 "is_number" (defScope s_0) fa cdv Ar outer s H E).nox (defBody s_0) (trS K (run T n) b_is_number) :=
  (xs_one (xs_ret (xe_and (xe_blt .isi b_isi (by rfl) G.n_isinstance (by decide +kernel) (xa_cons (xe_var 0) (xa_cons (xe_ty (by rfl) G.n_int (by decide +kernel)) (xa_nil)))) (xe_one (xe_not (xe_blt .isi b_isi (by rfl) G.n_isinstance (by decide +kernel) (xa_cons (xe_var 0) (xa_cons (xe_ty (by rfl) G.n_bool (by decide +kernel)) (xa_nil)))))))))
/-! 1: is_pair -/
theorem d_1 (A : Al P w K mg base n) (G : Gs w K mg) (fa : Addr) (cdv : Value) (Ar : Around) (outer : List PySem.Env) (s : Shared) (H : Hp) (E : XK) (hr : RoomG n (Ar.deeper (PyProof.Rows.envOfC "is_pair" (defScope s_1) s.heap.objs.size fa cdv))) :
    PSs (cxOf CX0 P w K mg base N_1 "is_pair" (defScope s_1) fa cdv Ar outer s H E).nox (defBody s_1) (trS K (run T n) b_is_pair) :=
  (xs_one (xs_ret (xe_and (xe_blt .isi b_isi (by rfl) G.n_isinstance (by decide +kernel) (xa_cons (xe_var 0) (xa_cons (xe_ty (by rfl) G.n_tuple (by decide +kernel)) (xa_nil)))) (xe_one (xe_cmp .eq (xe_blt .len b_len (by rfl) G.n_len (by decide +kernel) (xa_cons (xe_var 0) (xa_nil))) (xe_int) (by first | rfl | with_unfolding_all rfl))))))
/-! 84: first_word -/
theorem d_84 (A : Al P w K mg base n) (G : Gs w K mg) (fa : Addr) (cdv : Value) (Ar : Around) (outer : List PySem.Env) (s : Shared) (H : Hp) (E : XK) (hr : RoomG n (Ar.deeper (PyProof.Rows.envOfC "first_word" (defScope s_84) s.heap.objs.size fa cdv))) :
    PSs (cxOf CX0 P w K mg base N_84 "first_word" (defScope s_84) fa cdv Ar outer s H E).nox (defBody s_84) (trS K (run T n) b_first_word) :=
  (xs_cons (xs_if ((xw_and (xt_truth (xe_blt .isi b_isi (by rfl) G.n_isinstance (by decide +kernel) (xa_cons (xe_var 0) (xa_cons (xe_ty (by rfl) G.n_tuple (by decide +kernel)) (xa_nil)))) (fun _ => rfl)) (xw_and (xt_cmp .gt (xe_blt .len b_len (by rfl) G.n_len (by decide +kernel) (xa_cons (xe_var 0) (xa_nil))) (xe_int) (by first | rfl | with_unfolding_all rfl)) (xw_and1 (xt_truth (xe_blt .isi b_isi (by rfl) G.n_isinstance (by decide +kernel) (xa_cons (xe_ix (xe_var 0) (xe_int) (fun _ _ => rfl)) (xa_cons (xe_ty (by rfl) G.n_str (by decide +kernel)) (xa_nil)))) (fun _ => rfl)))))).pt
    (xs_one (xs_ret (xe_ix (xe_var 0) (xe_int) (fun _ _ => rfl)))) xs_nil)
    (xs_one (xs_ret (xe_non))))
/-! 2: check_number -/
theorem d_2 (A : Al P w K mg base n) (G : Gs w K mg) (fa : Addr) (cdv : Value) (Ar : Around) (outer : List PySem.Env) (s : Shared) (H : Hp) (E : XK) (hr : RoomG n (Ar.deeper (PyProof.Rows.envOfC "check_number" (defScope s_2) s.heap.objs.size fa cdv))) :
    PSs (cxOf CX0 P w K mg base N_2 "check_number" (defScope s_2) fa cdv Ar outer s H E).nox (defBody s_2) (trS K (run T n) b_check_number) :=
  (xs_one (xs_if (xt_not (xt_truth (xe_call A.f0 hr (by rfl) (xa_cons (xe_var 0) (xa_nil))) (fun _ => rfl)))
    (xs_one xs_stuck) xs_nil))
/-! 6: is_zone -/
theorem d_6 (A : Al P w K mg base n) (G : Gs w K mg) (fa : Addr) (cdv : Value) (Ar : Around) (outer : List PySem.Env) (s : Shared) (H : Hp) (E : XK) (hr : RoomG n (Ar.deeper (PyProof.Rows.envOfC "is_zone" (defScope s_6) s.heap.objs.size fa cdv))) :
    PSs (cxOf CX0 P w K mg base N_6 "is_zone" (defScope s_6) fa cdv Ar outer s H E).nox (defBody s_6) (trS K (run T n) b_is_zone) :=
  (xs_cons (xs_if (xt_not (xt_truth (xe_call A.f1 hr (by rfl) (xa_cons (xe_var 0) (xa_nil))) (fun _ => rfl)))
    (xs_one (xs_ret (xe_bl))) xs_nil)
    (xs_cons (xs_asg (xe_var 0) (xg_tup rfl (xgs_cons (xg_name 1 sc_6.nd) (xgs_cons (xg_name 2 sc_6.nd) xgs_nil))))
    (xs_cons (xs_if ((xw_or (xt_not (xt_truth (xe_call A.f5 hr (by rfl) (xa_cons (xe_var 1) (xa_nil))) (fun _ => rfl))) (xw_or1 (xt_not (xt_truth (xe_call A.f0 hr (by rfl) (xa_cons (xe_var 2) (xa_nil))) (fun _ => rfl)))))).pt
    (xs_one (xs_ret (xe_bl))) xs_nil)
    (xs_one (xs_ret (xe_chain .lt .le (xe_bin .sub (xe_ix (xe_var 1) (xe_neg (xe_int)) (fun _ _ => rfl)) (xe_ix (xe_var 1) (xe_int) (fun _ _ => rfl))) (xe_var 2) (xe_glob (v := .int 1000000) (u := .int 1000000 G.c_MOST_SPACING.choose) (by rfl) G.c_MOST_SPACING.choose_spec ⟨_, rfl⟩ (fun _ _ => .int _))))))))
/-! 85: is_zones -/
theorem d_85 (A : Al P w K mg base n) (G : Gs w K mg) (fa : Addr) (cdv : Value) (Ar : Around) (outer : List PySem.Env) (s : Shared) (H : Hp) (E : XK) (hr : RoomG n (Ar.deeper (PyProof.Rows.envOfC "is_zones" (defScope s_85) s.heap.objs.size fa cdv))) :
    PSs (cxOf CX0 P w K mg base N_85 "is_zones" (defScope s_85) fa cdv Ar outer s H E).nox (defBody s_85) (trS K (run T n) b_is_zones) :=
  (xs_cons (xs_if ((xw_or (xt_not (xt_truth (xe_blt .isi b_isi (by rfl) G.n_isinstance (by decide +kernel) (xa_cons (xe_var 0) (xa_cons (xe_ty (by rfl) G.n_tuple (by decide +kernel)) (xa_nil)))) (fun _ => rfl))) (xw_or1 (xt_not (xt_chain .le .le (xe_int) (xe_blt .len b_len (by rfl) G.n_len (by decide +kernel) (xa_cons (xe_var 0) (xa_nil))) (xe_glob (v := .int 2) (u := .int 2 G.c_MOST_ZONES.choose) (by rfl) G.c_MOST_ZONES.choose_spec ⟨_, rfl⟩ (fun _ _ => .int _))))))).pt
    (xs_one (xs_ret (xe_bl))) xs_nil)
    (xs_one (xs_ret (xe_blt .all_ (b_all rfl) (by rfl) G.n_all (by decide +kernel) (xa_cons (xe_lc (own := [("item", 1)]) rfl sc_85.nd (xi_seq (xe_var 0)) N_85 (defScope s_85) (by decide +kernel) (fun _ _ _ _ _ => (xg_name 1 sc_85.nd)) (fun _ _ _ _ _ => xts_nil) (fun _ _ _ _ _ => (xe_call A.f6 hr (by rfl) (xa_cons (xe_var 1) (xa_nil))))) (xa_nil))))))
/-! 86: check_zones -/
theorem d_86 (A : Al P w K mg base n) (G : Gs w K mg) (fa : Addr) (cdv : Value) (Ar : Around) (outer : List PySem.Env) (s : Shared) (H : Hp) (E : XK) (hr : RoomG n (Ar.deeper (PyProof.Rows.envOfC "check_zones" (defScope s_86) s.heap.objs.size fa cdv))) :
    PSs (cxOf CX0 P w K mg base N_86 "check_zones" (defScope s_86) fa cdv Ar outer s H E).nox (defBody s_86) (trS K (run T n) b_check_zones) :=
  (xs_one (xs_if (xt_not (xt_truth (xe_call A.f85 hr (by rfl) (xa_cons (xe_var 0) (xa_nil))) (fun _ => rfl)))
    (xs_one xs_stuck) xs_nil))
/-! 12: fits_as_table -/
theorem d_12 (A : Al P w K mg base n) (G : Gs w K mg) (fa : Addr) (cdv : Value) (Ar : Around) (outer : List PySem.Env) (s : Shared) (H : Hp) (E : XK) (hr : RoomG n (Ar.deeper (PyProof.Rows.envOfC "fits_as_table" (defScope s_12) s.heap.objs.size fa cdv))) :
    PSs (cxOf CX0 P w K mg base N_12 "fits_as_table" (defScope s_12) fa cdv Ar outer s H E).nox (defBody s_12) (trS K (run T n) b_fits_as_table) :=
  (xs_cons (xs_if (xt_not (xt_truth (xe_call A.f1 hr (by rfl) (xa_cons (xe_var 1) (xa_nil))) (fun _ => rfl)))
    (xs_one (xs_ret (xe_bl))) xs_nil)
    (xs_cons (xs_asg (xe_var 1) (xg_tup rfl (xgs_cons (xg_name 2 sc_12.nd) (xgs_cons (xg_name 3 sc_12.nd) xgs_nil))))
    (xs_cons (xs_if ((xw_or (xt_not (xt_truth (xe_call A.f9 hr (by rfl) (xa_cons (xe_var 0) (xa_cons (xe_var 2) (xa_nil)))) (fun _ => rfl))) (xw_or1 (xt_not (xt_truth (xe_call A.f11 hr (by rfl) (xa_cons (xe_var 0) (xa_cons (xe_var 3) (xa_nil)))) (fun _ => rfl)))))).pt
    (xs_one (xs_ret (xe_bl))) xs_nil)
    (xs_one (xs_ret (xe_call A.f8 hr (by rfl) (xa_cons (xe_var 0) (xa_cons (xe_var 2) (xa_cons (xe_var 3) (xa_nil))))))))))
/-! 87: is_place -/
theorem d_87 (A : Al P w K mg base n) (G : Gs w K mg) (fa : Addr) (cdv : Value) (Ar : Around) (outer : List PySem.Env) (s : Shared) (H : Hp) (E : XK) (hr : RoomG n (Ar.deeper (PyProof.Rows.envOfC "is_place" (defScope s_87) s.heap.objs.size fa cdv))) :
    PSs (cxOf CX0 P w K mg base N_87 "is_place" (defScope s_87) fa cdv Ar outer s H E).nox (defBody s_87) (trS K (run T n) b_is_place) :=
  (xs_one (xs_ret (xe_and (xe_call A.f0 hr (by rfl) (xa_cons (xe_var 1) (xa_nil))) (xe_one (xe_chain .le .lt (xe_int) (xe_var 1) (xe_blt .len b_len (by rfl) G.n_len (by decide +kernel) (xa_cons (xe_var 0) (xa_nil))))))))
/-! 65: is_rule -/
theorem d_65 (A : Al P w K mg base n) (G : Gs w K mg) (fa : Addr) (cdv : Value) (Ar : Around) (outer : List PySem.Env) (s : Shared) (H : Hp) (E : XK) (hr : RoomG n (Ar.deeper (PyProof.Rows.envOfC "is_rule" (defScope s_65) s.heap.objs.size fa cdv))) :
    PSs (cxOf CX0 P w K mg base N_65 "is_rule" (defScope s_65) fa cdv Ar outer s H E).nox (defBody s_65) (trS K (run T n) b_is_rule) :=
  (xs_one (xs_ret (xe_and (xe_blt .isi b_isi (by rfl) G.n_isinstance (by decide +kernel) (xa_cons (xe_var 0) (xa_cons (xe_ty (by rfl) G.n_str (by decide +kernel)) (xa_nil)))) (xe_one (xe_cmp .in_ (xe_var 0) (xe_var 1) (by first | rfl | with_unfolding_all rfl))))))
/-! 9: is_offset -/
theorem d_9 (A : Al P w K mg base n) (G : Gs w K mg) (fa : Addr) (cdv : Value) (Ar : Around) (outer : List PySem.Env) (s : Shared) (H : Hp) (E : XK) (hr : RoomG n (Ar.deeper (PyProof.Rows.envOfC "is_offset" (defScope s_9) s.heap.objs.size fa cdv))) :
    PSs (cxOf CX0 P w K mg base N_9 "is_offset" (defScope s_9) fa cdv Ar outer s H E).nox (defBody s_9) (trS K (run T n) b_is_offset) :=
  (xs_one (xs_ret (xe_and (xe_call A.f0 hr (by rfl) (xa_cons (xe_var 1) (xa_nil))) (xe_one (xe_cmp .in_ (xe_var 1) (xe_ix (xe_var 0) (xe_int) (fun _ _ => rfl)) (by first | rfl | with_unfolding_all rfl))))))
/-! 11: are_marks -/
theorem d_11 (A : Al P w K mg base n) (G : Gs w K mg) (fa : Addr) (cdv : Value) (Ar : Around) (outer : List PySem.Env) (s : Shared) (H : Hp) (E : XK) (hr : RoomG n (Ar.deeper (PyProof.Rows.envOfC "are_marks" (defScope s_11) s.heap.objs.size fa cdv))) :
    PSs (cxOf CX0 P w K mg base N_11 "are_marks" (defScope s_11) fa cdv Ar outer s H E).nox (defBody s_11) (trS K (run T n) b_are_marks) :=
  (xs_one (xs_ret (xe_and (xe_blt .isi b_isi (by rfl) G.n_isinstance (by decide +kernel) (xa_cons (xe_var 1) (xa_cons (xe_ty (by rfl) G.n_tuple (by decide +kernel)) (xa_nil)))) (xe_one (xe_blt .all_ (b_all rfl) (by rfl) G.n_all (by decide +kernel) (xa_cons (xe_lc (own := [("item", 2)]) rfl sc_11.nd (xi_seq (xe_var 1)) N_11 (defScope s_11) (by decide +kernel) (fun _ _ _ _ _ => (xg_name 2 sc_11.nd)) (fun _ _ _ _ _ => xts_nil) (fun _ _ _ _ _ => (xe_call A.f10 hr (by rfl) (xa_cons (xe_var 0) (xa_cons (xe_var 2) (xa_nil)))))) (xa_nil)))))))
/-! 3: is_ascending -/
theorem d_3 (A : Al P w K mg base n) (G : Gs w K mg) (fa : Addr) (cdv : Value) (Ar : Around) (outer : List PySem.Env) (s : Shared) (H : Hp) (E : XK) (hr : RoomG n (Ar.deeper (PyProof.Rows.envOfC "is_ascending" (defScope s_3) s.heap.objs.size fa cdv))) :
    PSs (cxOf CX0 P w K mg base N_3 "is_ascending" (defScope s_3) fa cdv Ar outer s H E).nox (defBody s_3) (trS K (run T n) b_is_ascending) :=
  (xs_one (xs_ret (xe_blt .all_ (b_all rfl) (by rfl) G.n_all (by decide +kernel) (xa_cons (xe_lc (own := [("one", 1), ("other", 2)]) rfl sc_3.nd (xi_zip (by rfl) G.n_zip (xa_cons (xe_var 0) (xa_cons (xe_sl (xe_var 0) (xo_some (xe_int)) xo_none) (xa_nil)))) N_3 (defScope s_3) (by decide +kernel) (fun _ _ _ _ _ => (xg_tup rfl (xgs_cons (xg_name 1 sc_3.nd) (xgs_cons (xg_name 2 sc_3.nd) xgs_nil)))) (fun _ _ _ _ _ => xts_nil) (fun _ _ _ _ _ => (xe_cmp .lt (xe_var 1) (xe_var 2) (by first | rfl | with_unfolding_all rfl)))) (xa_nil)))))
/-! 14: held_offset -/
theorem d_14 (A : Al P w K mg base n) (G : Gs w K mg) (fa : Addr) (cdv : Value) (Ar : Around) (outer : List PySem.Env) (s : Shared) (H : Hp) (E : XK) (hr : RoomG n (Ar.deeper (PyProof.Rows.envOfC "held_offset" (defScope s_14) s.heap.objs.size fa cdv))) :
    PSs (cxOf CX0 P w K mg base N_14 "held_offset" (defScope s_14) fa cdv Ar outer s H E).nox (defBody s_14) (trS K (run T n) b_held_offset) :=
  (xs_cons (xs_asg (xe_var 0) (xg_tup rfl (xgs_cons (xg_name 2 sc_14.nd) (xgs_cons (xg_name 3 sc_14.nd) xgs_nil))))
    (xs_cons (xs_for PassesOwn.never rfl (xi_seq (xe_var 3)) (xg_tup rfl (xgs_cons (xg_name 4 sc_14.nd) (xgs_cons (xg_name 5 sc_14.nd) xgs_nil)))
    (xs_cons (xs_if (xt_cmp .gt (xe_var 4) (xe_var 1) (by first | rfl | with_unfolding_all rfl))
    (xs_one (xs_brk)) xs_nil)
    (xs_one (xs_set 2 sc_14.nd (xe_var 5)))))
    (xs_one (xs_ret (xe_var 2)))))
/-! 28: moments_to_look_at -/
theorem d_28 (A : Al P w K mg base n) (G : Gs w K mg) (fa : Addr) (cdv : Value) (Ar : Around) (outer : List PySem.Env) (s : Shared) (H : Hp) (E : XK) (hr : RoomG n (Ar.deeper (PyProof.Rows.envOfC "moments_to_look_at" (defScope s_28) s.heap.objs.size fa cdv))) :
    PSs (cxOf CX0 P w K mg base N_28 "moments_to_look_at" (defScope s_28) fa cdv Ar outer s H E).nox (defBody s_28) (trS K (run T n) b_moments_to_look_at) :=
  (xs_one (xs_ret (xe_lc (own := [("offset", 2)]) rfl sc_28.nd (xi_seq (xe_rev (xe_ix (xe_var 0) (xe_int) (fun _ _ => rfl)))) N_28 (defScope s_28) (by decide +kernel) (fun _ _ _ _ _ => (xg_name 2 sc_28.nd)) (fun _ _ _ _ _ => xts_nil) (fun _ _ _ _ _ => (xe_bin .sub (xe_var 1) (xe_var 2))))))
/-! 27: matching_moments -/
theorem d_27 (A : Al P w K mg base n) (G : Gs w K mg) (fa : Addr) (cdv : Value) (Ar : Around) (outer : List PySem.Env) (s : Shared) (H : Hp) (E : XK) (hr : RoomG n (Ar.deeper (PyProof.Rows.envOfC "matching_moments" (defScope s_27) s.heap.objs.size fa cdv))) :
    PSs (cxOf CX0 P w K mg base N_27 "matching_moments" (defScope s_27) fa cdv Ar outer s H E).nox (defBody s_27) (trS K (run T n) b_matching_moments) :=
  (xs_one (xs_ret (xe_lc (own := [("moment", 2), ("offset", 3)]) rfl sc_27.nd (xi_seq (xe_var 1)) N_27 (defScope s_27) (by decide +kernel) (fun _ _ _ _ _ => (xg_tup rfl (xgs_cons (xg_name 2 sc_27.nd) (xgs_cons (xg_name 3 sc_27.nd) xgs_nil)))) (fun _ _ _ _ _ => (xts_one (xt_cmp .eq (xe_bin .add (xe_var 2) (xe_var 3)) (xe_var 0) (by first | rfl | with_unfolding_all rfl)))) (fun _ _ _ _ _ => (xe_var 2)))))
/-! 68: found_moment -/
theorem d_68 (A : Al P w K mg base n) (G : Gs w K mg) (fa : Addr) (cdv : Value) (Ar : Around) (outer : List PySem.Env) (s : Shared) (H : Hp) (E : XK) (hr : RoomG n (Ar.deeper (PyProof.Rows.envOfC "found_moment" (defScope s_68) s.heap.objs.size fa cdv))) :
    PSs (cxOf CX0 P w K mg base N_68 "found_moment" (defScope s_68) fa cdv Ar outer s H E).nox (defBody s_68) (trS K (run T n) b_found_moment) :=
  (xs_cons (xs_set 4 sc_68.nd (xe_call A.f27 hr (by rfl) (xa_cons (xe_var 0) (xa_cons (xe_var 1) (xa_nil)))))
    (xs_cons (xs_if (xt_cmp .eq (xe_blt .len b_len (by rfl) G.n_len (by decide +kernel) (xa_cons (xe_var 4) (xa_nil))) (xe_int) (by first | rfl | with_unfolding_all rfl))
    (xs_one (xs_ret (xe_ix (xe_var 4) (xe_int) (fun _ _ => rfl)))) xs_nil)
    (xs_cons (xs_if (xt_truth (xe_var 4) (fun _ => rfl))
    (xs_one (xs_ret (xe_call A.f67 hr (by rfl) (xa_cons (xe_var 2) (xa_cons (xe_glob (v := .ref G.c_FOLD_RULES.choose) (by rfl) G.c_FOLD_RULES.choose_spec.1 rfl G.c_FOLD_RULES.choose_spec.2) (xa_cons (xe_ix (xe_var 4) (xe_int) (fun _ _ => rfl)) (xa_cons (xe_ix (xe_var 4) (xe_int) (fun _ _ => rfl)) (xa_nil)))))))) xs_nil)
    (xs_one (xs_ret (xe_call A.f67 hr (by rfl) (xa_cons (xe_var 3) (xa_cons (xe_glob (v := .ref G.c_GAP_RULES.choose) (by rfl) G.c_GAP_RULES.choose_spec.1 rfl G.c_GAP_RULES.choose_spec.2) (xa_cons (xe_bin .sub (xe_var 0) (xe_ix (xe_ix (xe_var 1) (xe_int) (fun _ _ => rfl)) (xe_int) (fun _ _ => rfl))) (xa_cons (xe_bin .sub (xe_var 0) (xe_ix (xe_ix (xe_var 1) (xe_neg (xe_int)) (fun _ _ => rfl)) (xe_int) (fun _ _ => rfl))) (xa_nil)))))))))))
/-! 5: _are_offsets -/
theorem d_5 (A : Al P w K mg base n) (G : Gs w K mg) (fa : Addr) (cdv : Value) (Ar : Around) (outer : List PySem.Env) (s : Shared) (H : Hp) (E : XK) (hr : RoomG n (Ar.deeper (PyProof.Rows.envOfC "_are_offsets" (defScope s_5) s.heap.objs.size fa cdv))) :
    PSs (cxOf CX0 P w K mg base N_5 "_are_offsets" (defScope s_5) fa cdv Ar outer s H E).nox (defBody s_5) (trS K (run T n) b_are_offsets) :=
  (xs_cons (xs_if ((xw_or (xt_not (xt_truth (xe_blt .isi b_isi (by rfl) G.n_isinstance (by decide +kernel) (xa_cons (xe_var 0) (xa_cons (xe_ty (by rfl) G.n_tuple (by decide +kernel)) (xa_nil)))) (fun _ => rfl))) (xw_or1 (xt_not (xt_chain .le .le (xe_int) (xe_blt .len b_len (by rfl) G.n_len (by decide +kernel) (xa_cons (xe_var 0) (xa_nil))) (xe_glob (v := .int 3) (u := .int 3 G.c_MOST_OFFSETS.choose) (by rfl) G.c_MOST_OFFSETS.choose_spec ⟨_, rfl⟩ (fun _ _ => .int _))))))).pt
    (xs_one (xs_ret (xe_bl))) xs_nil)
    (xs_one (xs_ret (xe_and (xe_blt .all_ (b_all rfl) (by rfl) G.n_all (by decide +kernel) (xa_cons (xe_lc (own := [("item", 1)]) rfl sc_5.nd (xi_seq (xe_var 0)) N_5 (defScope s_5) (by decide +kernel) (fun _ _ _ _ _ => (xg_name 1 sc_5.nd)) (fun _ _ _ _ _ => xts_nil) (fun _ _ _ _ _ => (xe_call A.f4 hr (by rfl) (xa_cons (xe_var 1) (xa_nil))))) (xa_nil))) (xe_one (xe_call A.f3 hr (by rfl) (xa_cons (xe_var 0) (xa_nil))))))))
/-! 4: _is_near -/
theorem d_4 (A : Al P w K mg base n) (G : Gs w K mg) (fa : Addr) (cdv : Value) (Ar : Around) (outer : List PySem.Env) (s : Shared) (H : Hp) (E : XK) (hr : RoomG n (Ar.deeper (PyProof.Rows.envOfC "_is_near" (defScope s_4) s.heap.objs.size fa cdv))) :
    PSs (cxOf CX0 P w K mg base N_4 "_is_near" (defScope s_4) fa cdv Ar outer s H E).nox (defBody s_4) (trS K (run T n) b_is_near) :=
  (xs_one (xs_ret (xe_and (xe_call A.f0 hr (by rfl) (xa_cons (xe_var 0) (xa_nil))) (xe_one (xe_chain .le .le (xe_neg (xe_glob (v := .int 900) (u := .int 900 G.c_FARTHEST_OFFSET.choose) (by rfl) G.c_FARTHEST_OFFSET.choose_spec ⟨_, rfl⟩ (fun _ _ => .int _))) (xe_var 0) (xe_glob (v := .int 900) (u := .int 900 G.c_FARTHEST_OFFSET.choose) (by rfl) G.c_FARTHEST_OFFSET.choose_spec ⟨_, rfl⟩ (fun _ _ => .int _)))))))
/-! 10: _is_mark -/
theorem d_10 (A : Al P w K mg base n) (G : Gs w K mg) (fa : Addr) (cdv : Value) (Ar : Around) (outer : List PySem.Env) (s : Shared) (H : Hp) (E : XK) (hr : RoomG n (Ar.deeper (PyProof.Rows.envOfC "_is_mark" (defScope s_10) s.heap.objs.size fa cdv))) :
    PSs (cxOf CX0 P w K mg base N_10 "_is_mark" (defScope s_10) fa cdv Ar outer s H E).nox (defBody s_10) (trS K (run T n) b_is_mark) :=
  (xs_one (xs_ret (xe_and (xe_call A.f1 hr (by rfl) (xa_cons (xe_var 1) (xa_nil))) (xe_and (xe_call A.f0 hr (by rfl) (xa_cons (xe_ix (xe_var 1) (xe_int) (fun _ _ => rfl)) (xa_nil))) (xe_one (xe_call A.f9 hr (by rfl) (xa_cons (xe_var 0) (xa_cons (xe_ix (xe_var 1) (xe_int) (fun _ _ => rfl)) (xa_nil)))))))))
/-! 8: _are_jumps -/
theorem d_8 (A : Al P w K mg base n) (G : Gs w K mg) (fa : Addr) (cdv : Value) (Ar : Around) (outer : List PySem.Env) (s : Shared) (H : Hp) (E : XK) (hr : RoomG n (Ar.deeper (PyProof.Rows.envOfC "_are_jumps" (defScope s_8) s.heap.objs.size fa cdv))) :
    PSs (cxOf CX0 P w K mg base N_8 "_are_jumps" (defScope s_8) fa cdv Ar outer s H E).nox (defBody s_8) (trS K (run T n) b_are_jumps) :=
  (xs_cons (xs_setlc (i := 3) (own := [("mark", 4)]) rfl sc_8.nd rfl rfl (sw_true rfl rfl rfl (by decide +kernel)) (xi_seq (xe_var 2)) N_8 (defScope s_8) (by decide +kernel) (fun _ _ _ _ _ => (xg_name 4 sc_8.nd)) (fun _ _ _ _ _ => xts_nil) (fun _ _ _ _ _ => (xe_ix (xe_var 4) (xe_int) (fun _ _ => rfl))))
    (xs_cons (xs_set 5 sc_8.nd (xe_bin .add (xe_lst (xa_cons (xe_var 1) (xa_nil))) (xe_lc (own := [("mark", 4)]) rfl sc_8.nd (xi_seq (xe_var 2)) N_8 (defScope s_8) (by decide +kernel) (fun _ _ _ _ _ => (xg_name 4 sc_8.nd)) (fun _ _ _ _ _ => xts_nil) (fun _ _ _ _ _ => (xe_ix (xe_var 4) (xe_int) (fun _ _ => rfl))))))
    (xs_cons (xs_set 6 sc_8.nd (xe_blt .all_ (b_all rfl) (by rfl) G.n_all (by decide +kernel) (xa_cons (xe_lc (own := [("moment", 7), ("later", 8)]) rfl sc_8.nd (xi_zip (by rfl) G.n_zip (xa_cons (xe_var 3) (xa_cons (xe_sl (xe_var 3) (xo_some (xe_int)) xo_none) (xa_nil)))) N_8 (defScope s_8) (by decide +kernel) (fun _ _ _ _ _ => (xg_tup rfl (xgs_cons (xg_name 7 sc_8.nd) (xgs_cons (xg_name 8 sc_8.nd) xgs_nil)))) (fun _ _ _ _ _ => xts_nil) (fun _ _ _ _ _ => (xe_cmp .ge (xe_bin .sub (xe_var 8) (xe_var 7)) (xe_ix (xe_var 0) (xe_int) (fun _ _ => rfl)) (by first | rfl | with_unfolding_all rfl)))) (xa_nil))))
    (xs_one (xs_ret (xe_and (xe_var 6) (xe_one (xe_blt .all_ (b_all rfl) (by rfl) G.n_all (by decide +kernel) (xa_cons (xe_lc (own := [("ahead", 9), ("behind", 10)]) rfl sc_8.nd (xi_zip (by rfl) G.n_zip (xa_cons (xe_var 5) (xa_cons (xe_sl (xe_var 5) (xo_some (xe_int)) xo_none) (xa_nil)))) N_8 (defScope s_8) (by decide +kernel) (fun _ _ _ _ _ => (xg_tup rfl (xgs_cons (xg_name 9 sc_8.nd) (xgs_cons (xg_name 10 sc_8.nd) xgs_nil)))) (fun _ _ _ _ _ => xts_nil) (fun _ _ _ _ _ => (xe_cmp .ne (xe_var 9) (xe_var 10) (by first | rfl | with_unfolding_all rfl)))) (xa_nil))))))))))
/-! 67: _chosen -/
theorem d_67 (A : Al P w K mg base n) (G : Gs w K mg) (fa : Addr) (cdv : Value) (Ar : Around) (outer : List PySem.Env) (s : Shared) (H : Hp) (E : XK) (hr : RoomG n (Ar.deeper (PyProof.Rows.envOfC "_chosen" (defScope s_67) s.heap.objs.size fa cdv))) :
    PSs (cxOf CX0 P w K mg base N_67 "_chosen" (defScope s_67) fa cdv Ar outer s H E).nox (defBody s_67) (trS K (run T n) b_chosen) :=
  (xs_cons (xs_if (xt_cmp .eq (xe_var 0) (xe_ix (xe_var 1) (xe_int) (fun _ _ => rfl)) (by first | rfl | with_unfolding_all rfl))
    (xs_one (xs_ret (xe_var 2))) xs_nil)
    (xs_cons (xs_if (xt_cmp .eq (xe_var 0) (xe_ix (xe_var 1) (xe_int) (fun _ _ => rfl)) (by first | rfl | with_unfolding_all rfl))
    (xs_one (xs_ret (xe_var 3))) xs_nil)
    (xs_one (xs_ret (xe_non)))))
/-! 156: run -/
theorem d_156 (A : Al P w K mg base n) (G : Gs w K mg) (fa : Addr) (cdv : Value) (Ar : Around) (outer : List PySem.Env) (s : Shared) (H : Hp) (E : XK) (hr : RoomG n (Ar.deeper (PyProof.Rows.envOfC "run" (defScope s_156) s.heap.objs.size fa cdv))) :
    PSs (cxOf CX0 P w K mg base N_156 "run" (defScope s_156) fa cdv Ar outer s H E).nox (defBody s_156) (trS K (run T n) b_run) :=
  (xs_cons (xs_drop (xe_call A.f86 hr (by rfl) (xa_cons (xe_var 0) (xa_nil))))
    (xs_cons (xs_drop (xe_call A.f95 hr (by rfl) (xa_cons (xe_var 0) (xa_cons (xe_var 1) (xa_nil)))))
    (xs_cons (xs_drop (xe_call A.f148 hr (by rfl) (xa_cons (xe_var 0) (xa_cons (xe_var 2) (xa_nil)))))
    (xs_cons (xs_drop (xe_call A.f2 hr (by rfl) (xa_cons (xe_var 3) (xa_nil))))
    (xs_cons (xs_set 4 sc_156.nd (xe_lst (xa_cons (xe_var 3) (xa_nil))))
    (xs_cons (xs_for PassesOwn.never rfl (xi_enum (by rfl) G.n_enumerate (xa_cons (xe_var 1) (xa_nil))) (xg_tup rfl (xgs_cons (xg_name 5 sc_156.nd) (xgs_cons (xg_name 6 sc_156.nd) xgs_nil)))
    (xs_cons (xs_if ((xw_and (xt_cmp .eq (xe_ix (xe_var 6) (xe_int) (fun _ _ => rfl)) (xe_str) (by first | rfl | with_unfolding_all rfl)) (xw_and1 (xt_not (xt_truth (xe_call A.f152 hr (by rfl) (xa_cons (xe_var 2) (xa_cons (xe_ix (xe_var 6) (xe_int) (fun _ _ => rfl)) (xa_cons (xe_ix (xe_var 4) (xe_ix (xe_var 6) (xe_int) (fun _ _ => rfl)) (fun _ _ => rfl)) (xa_nil))))) (fun _ => rfl)))))).pt
    (xs_one xs_stuck) xs_nil)
    (xs_cons (xs_set 7 sc_156.nd (xe_call A.f149 hr (by rfl) (xa_cons (xe_var 6) (xa_cons (xe_var 4) (xa_cons (xe_call A.f150 hr (by rfl) (xa_cons (xe_var 2) (xa_cons (xe_call A.f155 hr (by rfl) (xa_cons (xe_var 0) (xa_cons (xe_var 1) (xa_cons (xe_var 4) (xa_nil))))) (xa_nil)))) (xa_nil))))))
    (xs_cons (xs_if (xt_cmp .is_ (xe_var 7) (xe_non) (by first | rfl | with_unfolding_all rfl))
    (xs_one xs_stuck) xs_nil)
    (xs_one (xs_drop (xe_append (xe_var 4) (xa_cons (xe_var 7) (xa_nil)))))))))
    (xs_one (xs_ret (xe_var 4)))))))))
/-! 95: check_program -/
theorem d_95 (A : Al P w K mg base n) (G : Gs w K mg) (fa : Addr) (cdv : Value) (Ar : Around) (outer : List PySem.Env) (s : Shared) (H : Hp) (E : XK) (hr : RoomG n (Ar.deeper (PyProof.Rows.envOfC "check_program" (defScope s_95) s.heap.objs.size fa cdv))) :
    PSs (cxOf CX0 P w K mg base N_95 "check_program" (defScope s_95) fa cdv Ar outer s H E).nox (defBody s_95) (trS K (run T n) b_check_program) :=
  (xs_one (xs_if (xt_not (xt_truth (xe_call A.f93 hr (by rfl) (xa_cons (xe_var 0) (xa_cons (xe_var 1) (xa_nil)))) (fun _ => rfl)))
    (xs_one xs_stuck) xs_nil))
/-! 148: check_world -/
theorem d_148 (A : Al P w K mg base n) (G : Gs w K mg) (fa : Addr) (cdv : Value) (Ar : Around) (outer : List PySem.Env) (s : Shared) (H : Hp) (E : XK) (hr : RoomG n (Ar.deeper (PyProof.Rows.envOfC "check_world" (defScope s_148) s.heap.objs.size fa cdv))) :
    PSs (cxOf CX0 P w K mg base N_148 "check_world" (defScope s_148) fa cdv Ar outer s H E).nox (defBody s_148) (trS K (run T n) b_check_world) :=
  (xs_one (xs_if (xt_not (xt_truth (xe_call A.f147 hr (by rfl) (xa_cons (xe_var 0) (xa_cons (xe_var 1) (xa_nil)))) (fun _ => rfl)))
    (xs_one xs_stuck) xs_nil))
/-! 93: fits_as_program -/
theorem d_93 (A : Al P w K mg base n) (G : Gs w K mg) (fa : Addr) (cdv : Value) (Ar : Around) (outer : List PySem.Env) (s : Shared) (H : Hp) (E : XK) (hr : RoomG n (Ar.deeper (PyProof.Rows.envOfC "fits_as_program" (defScope s_93) s.heap.objs.size fa cdv))) :
    PSs (cxOf CX0 P w K mg base N_93 "fits_as_program" (defScope s_93) fa cdv Ar outer s H E).nox (defBody s_93) (trS K (run T n) b_fits_as_program) :=
  (xs_cons (xs_if ((xw_or (xt_not (xt_truth (xe_blt .isi b_isi (by rfl) G.n_isinstance (by decide +kernel) (xa_cons (xe_var 1) (xa_cons (xe_ty (by rfl) G.n_tuple (by decide +kernel)) (xa_nil)))) (fun _ => rfl))) (xw_or1 (xt_cmp .gt (xe_blt .len b_len (by rfl) G.n_len (by decide +kernel) (xa_cons (xe_var 1) (xa_nil))) (xe_glob (v := .int 8) (u := .int 8 G.c_MOST_STEPS.choose) (by rfl) G.c_MOST_STEPS.choose_spec ⟨_, rfl⟩ (fun _ _ => .int _)) (by first | rfl | with_unfolding_all rfl))))).pt
    (xs_one (xs_ret (xe_bl))) xs_nil)
    (xs_cons (xs_set 2 sc_93.nd (xe_lst (xa_cons (xe_str) (xa_nil))))
    (xs_cons (xs_for PassesOwn.never rfl (xi_seq (xe_var 1)) (xg_name 3 sc_93.nd)
    (xs_cons (xs_if (xt_not (xt_truth (xe_call A.f91 hr (by rfl) (xa_cons (xe_var 0) (xa_cons (xe_var 2) (xa_cons (xe_var 3) (xa_nil))))) (fun _ => rfl)))
    (xs_one (xs_ret (xe_bl))) xs_nil)
    (xs_one (xs_drop (xe_append (xe_var 2) (xa_cons (xe_call A.f92 hr (by rfl) (xa_cons (xe_var 2) (xa_cons (xe_var 3) (xa_nil)))) (xa_nil)))))))
    (xs_one (xs_ret (xe_cmp .le (xe_cnts (xe_lc (own := [("step", 3)]) rfl sc_93.nd (xi_seq (xe_var 1)) N_93 (defScope s_93) (by decide +kernel) (fun _ _ _ _ _ => (xg_name 3 sc_93.nd)) (fun _ _ _ _ _ => xts_nil) (fun _ _ _ _ _ => (xe_ix (xe_var 3) (xe_int) (fun _ _ => rfl)))) (xe_str)) (xe_int) (by first | rfl | with_unfolding_all rfl)))))))
/-! 147: fits_as_world -/
theorem d_147 (A : Al P w K mg base n) (G : Gs w K mg) (fa : Addr) (cdv : Value) (Ar : Around) (outer : List PySem.Env) (s : Shared) (H : Hp) (E : XK) (hr : RoomG n (Ar.deeper (PyProof.Rows.envOfC "fits_as_world" (defScope s_147) s.heap.objs.size fa cdv))) :
    PSs (cxOf CX0 P w K mg base N_147 "fits_as_world" (defScope s_147) fa cdv Ar outer s H E).nox (defBody s_147) (trS K (run T n) b_fits_as_world) :=
  (xs_one (xs_ret (xe_and (xe_call A.f1 hr (by rfl) (xa_cons (xe_var 1) (xa_nil))) (xe_one (xe_blt .all_ (b_all rfl) (by rfl) G.n_all (by decide +kernel) (xa_cons (xe_lc (own := [("item", 2)]) rfl sc_147.nd (xi_seq (xe_var 1)) N_147 (defScope s_147) (by decide +kernel) (fun _ _ _ _ _ => (xg_name 2 sc_147.nd)) (fun _ _ _ _ _ => xts_nil) (fun _ _ _ _ _ => (xe_call A.f146 hr (by rfl) (xa_cons (xe_var 0) (xa_cons (xe_var 2) (xa_nil)))))) (xa_nil)))))))
/-! 90: fits_step_role -/
theorem d_90 (A : Al P w K mg base n) (G : Gs w K mg) (fa : Addr) (cdv : Value) (Ar : Around) (outer : List PySem.Env) (s : Shared) (H : Hp) (E : XK) (hr : RoomG n (Ar.deeper (PyProof.Rows.envOfC "fits_step_role" (defScope s_90) s.heap.objs.size fa cdv))) :
    PSs (cxOf CX0 P w K mg base N_90 "fits_step_role" (defScope s_90) fa cdv Ar outer s H E).nox (defBody s_90) (trS K (run T n) b_fits_role) :=
  (xs_cons (xs_if (xt_cmp .eq (xe_var 2) (xe_str) (by first | rfl | with_unfolding_all rfl))
    (xs_one (xs_ret (xe_call A.f87 hr (by rfl) (xa_cons (xe_var 0) (xa_cons (xe_var 3) (xa_nil)))))) xs_nil)
    (xs_cons (xs_if (xt_cmp .eq (xe_var 2) (xe_str) (by first | rfl | with_unfolding_all rfl))
    (xs_one (xs_ret (xe_call A.f65 hr (by rfl) (xa_cons (xe_var 3) (xa_cons (xe_glob (v := .ref G.c_FOLD_RULES.choose) (by rfl) G.c_FOLD_RULES.choose_spec.1 rfl G.c_FOLD_RULES.choose_spec.2) (xa_nil)))))) xs_nil)
    (xs_cons (xs_if (xt_cmp .eq (xe_var 2) (xe_str) (by first | rfl | with_unfolding_all rfl))
    (xs_one (xs_ret (xe_call A.f65 hr (by rfl) (xa_cons (xe_var 3) (xa_cons (xe_glob (v := .ref G.c_GAP_RULES.choose) (by rfl) G.c_GAP_RULES.choose_spec.1 rfl G.c_GAP_RULES.choose_spec.2) (xa_nil)))))) xs_nil)
    (xs_cons (xs_if (xt_cmp .eq (xe_var 2) (xe_str) (by first | rfl | with_unfolding_all rfl))
    (xs_one (xs_ret (xe_and (xe_call A.f0 hr (by rfl) (xa_cons (xe_var 3) (xa_nil))) (xe_one (xe_chain .le .le (xe_neg (xe_glob (v := .int 100000) (u := .int 100000 G.c_FARTHEST_MINUTES.choose) (by rfl) G.c_FARTHEST_MINUTES.choose_spec ⟨_, rfl⟩ (fun _ _ => .int _))) (xe_var 3) (xe_glob (v := .int 100000) (u := .int 100000 G.c_FARTHEST_MINUTES.choose) (by rfl) G.c_FARTHEST_MINUTES.choose_spec ⟨_, rfl⟩ (fun _ _ => .int _))))))) xs_nil)
    (xs_cons (xs_if (xt_cmp .eq (xe_var 2) (xe_str) (by first | rfl | with_unfolding_all rfl))
    (xs_one (xs_ret (xe_call A.f89 hr (by rfl) (xa_cons (xe_var 1) (xa_cons (xe_var 3) (xa_nil)))))) xs_nil)
    (xs_one (xs_ret (xe_and (xe_call A.f88 hr (by rfl) (xa_cons (xe_var 1) (xa_cons (xe_var 3) (xa_nil)))) (xe_one (xe_cmp .eq (xe_ix (xe_var 1) (xe_var 3) (fun _ _ => rfl)) (xe_var 2) (by first | rfl | with_unfolding_all rfl)))))))))))
/-! 89: is_time -/
theorem d_89 (A : Al P w K mg base n) (G : Gs w K mg) (fa : Addr) (cdv : Value) (Ar : Around) (outer : List PySem.Env) (s : Shared) (H : Hp) (E : XK) (hr : RoomG n (Ar.deeper (PyProof.Rows.envOfC "is_time" (defScope s_89) s.heap.objs.size fa cdv))) :
    PSs (cxOf CX0 P w K mg base N_89 "is_time" (defScope s_89) fa cdv Ar outer s H E).nox (defBody s_89) (trS K (run T n) b_is_time) :=
  (xs_one (xs_ret (xe_and (xe_call A.f88 hr (by rfl) (xa_cons (xe_var 0) (xa_cons (xe_var 1) (xa_nil)))) (xe_one (xe_cmp .ne (xe_ix (xe_var 0) (xe_var 1) (fun _ _ => rfl)) (xe_str) (by first | rfl | with_unfolding_all rfl))))))
/-! 155: looked_at -/
theorem d_155 (A : Al P w K mg base n) (G : Gs w K mg) (fa : Addr) (cdv : Value) (Ar : Around) (outer : List PySem.Env) (s : Shared) (H : Hp) (E : XK) (hr : RoomG n (Ar.deeper (PyProof.Rows.envOfC "looked_at" (defScope s_155) s.heap.objs.size fa cdv))) :
    PSs (cxOf CX0 P w K mg base N_155 "looked_at" (defScope s_155) fa cdv Ar outer s H E).nox (defBody s_155) (trS K (run T n) b_looked_at) :=
  (xs_cons (xs_set 3 sc_155.nd (xe_ix (xe_var 1) (xe_bin .sub (xe_blt .len b_len (by rfl) G.n_len (by decide +kernel) (xa_cons (xe_var 2) (xa_nil))) (xe_int)) (fun _ _ => rfl)))
    (xs_cons (xs_if (xt_cmp .notin (xe_str) (xe_cix (by rfl) G.c_STEP_ROLES.choose_spec.1 G.c_STEP_ROLES.choose_spec.2.1 (xe_ix (xe_var 3) (xe_int) (fun _ _ => rfl)) (fun _ _ => rfl)) (by first | rfl | with_unfolding_all rfl))
    (xs_one (xs_ret (xe_lst (xa_nil)))) xs_nil)
    (xs_cons (xs_set 4 sc_155.nd (xe_ix (xe_var 3) (xe_int) (fun _ _ => rfl)))
    (xs_cons (xs_set 5 sc_155.nd (xe_call A.f153 hr (by rfl) (xa_cons (xe_var 1) (xa_cons (xe_var 2) (xa_cons (xe_var 4) (xa_nil))))))
    (xs_cons (xs_set 6 sc_155.nd (xe_lst (xa_nil)))
    (xs_cons (xs_for PassesOwn.never rfl (xi_seq (xe_call A.f154 hr (by rfl) (xa_cons (xe_var 0) (xa_cons (xe_var 3) (xa_cons (xe_var 2) (xa_nil)))))) (xg_name 7 sc_155.nd)
    (xs_cons (xs_set 8 sc_155.nd (xe_and (xe_cmp .isnot (xe_var 5) (xe_non) (by first | rfl | with_unfolding_all rfl)) (xe_one (xe_cmp .ge (xe_var 7) (xe_var 5) (by first | rfl | with_unfolding_all rfl)))))
    (xs_one (xs_drop (xe_append (xe_var 6) (xa_cons (xe_tup (xa_cons (xe_var 4) (xa_cons (xe_ite (xt_truth (xe_var 8) (fun _ => rfl)) (xe_int) (xe_int)) (xa_cons (xe_var 7) (xa_nil))))) (xa_nil)))))))
    (xs_one (xs_ret (xe_var 6)))))))))
/-! 153: edition_moment -/
theorem d_153 (A : Al P w K mg base n) (G : Gs w K mg) (fa : Addr) (cdv : Value) (Ar : Around) (outer : List PySem.Env) (s : Shared) (H : Hp) (E : XK) (hr : RoomG n (Ar.deeper (PyProof.Rows.envOfC "edition_moment" (defScope s_153) s.heap.objs.size fa cdv))) :
    PSs (cxOf CX0 P w K mg base N_153 "edition_moment" (defScope s_153) fa cdv Ar outer s H E).nox (defBody s_153) (trS K (run T n) b_edition_moment) :=
  (xs_cons (xs_for PassesOwn.never rfl (xi_zip (by rfl) G.n_zip (xa_cons (xe_var 0) (xa_cons (xe_sl (xe_var 1) (xo_some (xe_int)) xo_none) (xa_nil)))) (xg_tup rfl (xgs_cons (xg_name 3 sc_153.nd) (xgs_cons (xg_name 4 sc_153.nd) xgs_nil)))
    (xs_one (xs_if ((xw_and (xt_cmp .eq (xe_ix (xe_var 3) (xe_int) (fun _ _ => rfl)) (xe_str) (by first | rfl | with_unfolding_all rfl)) (xw_and1 (xt_cmp .eq (xe_ix (xe_var 3) (xe_int) (fun _ _ => rfl)) (xe_var 2) (by first | rfl | with_unfolding_all rfl))))).pt
    (xs_one (xs_ret (xe_var 4))) xs_nil)))
    (xs_one (xs_ret (xe_non))))
/-! 149: made_value -/
theorem d_149 (A : Al P w K mg base n) (G : Gs w K mg) (fa : Addr) (cdv : Value) (Ar : Around) (outer : List PySem.Env) (s : Shared) (H : Hp) (E : XK) (hr : RoomG n (Ar.deeper (PyProof.Rows.envOfC "made_value" (defScope s_149) s.heap.objs.size fa cdv))) :
    PSs (cxOf CX0 P w K mg base N_149 "made_value" (defScope s_149) fa cdv Ar outer s H E).nox (defBody s_149) (trS K (run T n) b_made_value) :=
  (xs_cons (xs_set 3 sc_149.nd (xe_ix (xe_var 0) (xe_int) (fun _ _ => rfl)))
    (xs_cons (xs_set 4 sc_149.nd (xe_ix (xe_var 1) (xe_ix (xe_var 0) (xe_int) (fun _ _ => rfl)) (fun _ _ => rfl)))
    (xs_cons (xs_if (xt_cmp .eq (xe_var 3) (xe_str) (by first | rfl | with_unfolding_all rfl))
    (xs_one (xs_ret (xe_bin .add (xe_var 4) (xe_ix (xe_ix (xe_var 2) (xe_int) (fun _ _ => rfl)) (xe_int) (fun _ _ => rfl))))) xs_nil)
    (xs_cons (xs_if (xt_cmp .eq (xe_var 3) (xe_str) (by first | rfl | with_unfolding_all rfl))
    (xs_one (xs_ret (xe_ix (xe_ix (xe_var 2) (xe_int) (fun _ _ => rfl)) (xe_int) (fun _ _ => rfl)))) xs_nil)
    (xs_cons (xs_if (xt_cmp .eq (xe_var 3) (xe_str) (by first | rfl | with_unfolding_all rfl))
    (xs_one (xs_ret (xe_var 4))) xs_nil)
    (xs_cons (xs_if (xt_cmp .eq (xe_var 3) (xe_str) (by first | rfl | with_unfolding_all rfl))
    (xs_one (xs_ret (xe_call A.f68 hr (by rfl) (xa_cons (xe_var 4) (xa_cons (xe_var 2) (xa_cons (xe_ix (xe_var 0) (xe_int) (fun _ _ => rfl)) (xa_cons (xe_ix (xe_var 0) (xe_int) (fun _ _ => rfl)) (xa_nil)))))))) xs_nil)
    (xs_cons (xs_if (xt_cmp .eq (xe_var 3) (xe_str) (by first | rfl | with_unfolding_all rfl))
    (xs_one (xs_ret (xe_bin .add (xe_var 4) (xe_ix (xe_var 1) (xe_ix (xe_var 0) (xe_int) (fun _ _ => rfl)) (fun _ _ => rfl))))) xs_nil)
    (xs_cons (xs_if (xt_cmp .eq (xe_var 3) (xe_str) (by first | rfl | with_unfolding_all rfl))
    (xs_one (xs_ret (xe_bin .sub (xe_var 4) (xe_ix (xe_var 1) (xe_ix (xe_var 0) (xe_int) (fun _ _ => rfl)) (fun _ _ => rfl))))) xs_nil)
    (xs_one (xs_ret (xe_bin .add (xe_var 4) (xe_ix (xe_var 0) (xe_int) (fun _ _ => rfl)))))))))))))
/-! 91: _is_step -/
theorem d_91 (A : Al P w K mg base n) (G : Gs w K mg) (fa : Addr) (cdv : Value) (Ar : Around) (outer : List PySem.Env) (s : Shared) (H : Hp) (E : XK) (hr : RoomG n (Ar.deeper (PyProof.Rows.envOfC "_is_step" (defScope s_91) s.heap.objs.size fa cdv))) :
    PSs (cxOf CX0 P w K mg base N_91 "_is_step" (defScope s_91) fa cdv Ar outer s H E).nox (defBody s_91) (trS K (run T n) b_is_step) :=
  (xs_cons (xs_set 3 sc_91.nd (xe_cget (by rfl) G.c_STEP_ROLES.choose_spec.1 G.c_STEP_ROLES.choose_spec.2.2.1 (xe_call A.f84 hr (by rfl) (xa_cons (xe_var 2) (xa_nil))) ⟨rfl, rfl, rfl, rfl⟩))
    (xs_cons (xs_if ((xw_or (xt_cmp .is_ (xe_var 3) (xe_non) (by first | rfl | with_unfolding_all rfl)) (xw_or1 (xt_cmp .ne (xe_blt .len b_len (by rfl) G.n_len (by decide +kernel) (xa_cons (xe_var 2) (xa_nil))) (xe_bin .add (xe_int) (xe_blt .len b_len (by rfl) G.n_len (by decide +kernel) (xa_cons (xe_var 3) (xa_nil)))) (by first | rfl | with_unfolding_all rfl))))).pt
    (xs_one (xs_ret (xe_bl))) xs_nil)
    (xs_one (xs_ret (xe_blt .all_ (b_all rfl) (by rfl) G.n_all (by decide +kernel) (xa_cons (xe_lc (own := [("role", 4), ("item", 5)]) rfl sc_91.nd (xi_zip (by rfl) G.n_zip (xa_cons (xe_var 3) (xa_cons (xe_sl (xe_var 2) (xo_some (xe_int)) xo_none) (xa_nil)))) N_91 (defScope s_91) (by decide +kernel) (fun _ _ _ _ _ => (xg_tup rfl (xgs_cons (xg_name 4 sc_91.nd) (xgs_cons (xg_name 5 sc_91.nd) xgs_nil)))) (fun _ _ _ _ _ => xts_nil) (fun _ _ _ _ _ => (xe_call A.f90 hr (by rfl) (xa_cons (xe_var 0) (xa_cons (xe_var 1) (xa_cons (xe_var 4) (xa_cons (xe_var 5) (xa_nil)))))))) (xa_nil)))))))
/-! 88: _is_index -/
theorem d_88 (A : Al P w K mg base n) (G : Gs w K mg) (fa : Addr) (cdv : Value) (Ar : Around) (outer : List PySem.Env) (s : Shared) (H : Hp) (E : XK) (hr : RoomG n (Ar.deeper (PyProof.Rows.envOfC "_is_index" (defScope s_88) s.heap.objs.size fa cdv))) :
    PSs (cxOf CX0 P w K mg base N_88 "_is_index" (defScope s_88) fa cdv Ar outer s H E).nox (defBody s_88) (trS K (run T n) b_is_index) :=
  (xs_one (xs_ret (xe_and (xe_call A.f0 hr (by rfl) (xa_cons (xe_var 1) (xa_nil))) (xe_one (xe_chain .le .lt (xe_int) (xe_var 1) (xe_blt .len b_len (by rfl) G.n_len (by decide +kernel) (xa_cons (xe_var 0) (xa_nil))))))))
/-! 92: _made_kind -/
theorem d_92 (A : Al P w K mg base n) (G : Gs w K mg) (fa : Addr) (cdv : Value) (Ar : Around) (outer : List PySem.Env) (s : Shared) (H : Hp) (E : XK) (hr : RoomG n (Ar.deeper (PyProof.Rows.envOfC "_made_kind" (defScope s_92) s.heap.objs.size fa cdv))) :
    PSs (cxOf CX0 P w K mg base N_92 "_made_kind" (defScope s_92) fa cdv Ar outer s H E).nox (defBody s_92) (trS K (run T n) b_made_kind) :=
  (xs_cons (xs_if (xt_cmp .eq (xe_ix (xe_var 1) (xe_int) (fun _ _ => rfl)) (xe_str) (by first | rfl | with_unfolding_all rfl))
    (xs_one (xs_ret (xe_ix (xe_var 0) (xe_ix (xe_var 1) (xe_int) (fun _ _ => rfl)) (fun _ _ => rfl)))) xs_nil)
    (xs_one (xs_ret (xe_cix (by rfl) G.c_MADE_KINDS.choose_spec.1 G.c_MADE_KINDS.choose_spec.2.1 (xe_ix (xe_var 1) (xe_int) (fun _ _ => rfl)) (fun _ _ => rfl)))))
/-! 146: _are_tables -/
theorem d_146 (A : Al P w K mg base n) (G : Gs w K mg) (fa : Addr) (cdv : Value) (Ar : Around) (outer : List PySem.Env) (s : Shared) (H : Hp) (E : XK) (hr : RoomG n (Ar.deeper (PyProof.Rows.envOfC "_are_tables" (defScope s_146) s.heap.objs.size fa cdv))) :
    PSs (cxOf CX0 P w K mg base N_146 "_are_tables" (defScope s_146) fa cdv Ar outer s H E).nox (defBody s_146) (trS K (run T n) b_are_tables) :=
  (xs_cons (xs_if ((xw_or (xt_not (xt_truth (xe_blt .isi b_isi (by rfl) G.n_isinstance (by decide +kernel) (xa_cons (xe_var 1) (xa_cons (xe_ty (by rfl) G.n_tuple (by decide +kernel)) (xa_nil)))) (fun _ => rfl))) (xw_or1 (xt_cmp .ne (xe_blt .len b_len (by rfl) G.n_len (by decide +kernel) (xa_cons (xe_var 1) (xa_nil))) (xe_blt .len b_len (by rfl) G.n_len (by decide +kernel) (xa_cons (xe_var 0) (xa_nil))) (by first | rfl | with_unfolding_all rfl))))).pt
    (xs_one (xs_ret (xe_bl))) xs_nil)
    (xs_one (xs_ret (xe_blt .all_ (b_all rfl) (by rfl) G.n_all (by decide +kernel) (xa_cons (xe_lc (own := [("zone", 2), ("table", 3)]) rfl sc_146.nd (xi_zip (by rfl) G.n_zip (xa_cons (xe_var 0) (xa_cons (xe_var 1) (xa_nil)))) N_146 (defScope s_146) (by decide +kernel) (fun _ _ _ _ _ => (xg_tup rfl (xgs_cons (xg_name 2 sc_146.nd) (xgs_cons (xg_name 3 sc_146.nd) xgs_nil)))) (fun _ _ _ _ _ => xts_nil) (fun _ _ _ _ _ => (xe_call A.f12 hr (by rfl) (xa_cons (xe_var 2) (xa_cons (xe_var 3) (xa_nil)))))) (xa_nil))))))
/-! 154: _moments_of_step -/
theorem d_154 (A : Al P w K mg base n) (G : Gs w K mg) (fa : Addr) (cdv : Value) (Ar : Around) (outer : List PySem.Env) (s : Shared) (H : Hp) (E : XK) (hr : RoomG n (Ar.deeper (PyProof.Rows.envOfC "_moments_of_step" (defScope s_154) s.heap.objs.size fa cdv))) :
    PSs (cxOf CX0 P w K mg base N_154 "_moments_of_step" (defScope s_154) fa cdv Ar outer s H E).nox (defBody s_154) (trS K (run T n) b_moments_of_step) :=
  (xs_cons (xs_set 3 sc_154.nd (xe_ix (xe_var 2) (xe_ix (xe_var 1) (xe_int) (fun _ _ => rfl)) (fun _ _ => rfl)))
    (xs_cons (xs_if (xt_cmp .eq (xe_ix (xe_var 1) (xe_int) (fun _ _ => rfl)) (xe_str) (by first | rfl | with_unfolding_all rfl))
    (xs_one (xs_ret (xe_call A.f28 hr (by rfl) (xa_cons (xe_ix (xe_var 0) (xe_ix (xe_var 1) (xe_int) (fun _ _ => rfl)) (fun _ _ => rfl)) (xa_cons (xe_var 3) (xa_nil)))))) xs_nil)
    (xs_cons (xs_if (xt_cmp .eq (xe_ix (xe_var 1) (xe_int) (fun _ _ => rfl)) (xe_str) (by first | rfl | with_unfolding_all rfl))
    (xs_one (xs_ret (xe_lst (xa_cons (xe_bin .sub (xe_var 3) (xe_int)) (xa_nil))))) xs_nil)
    (xs_one (xs_ret (xe_lst (xa_cons (xe_var 3) (xa_nil))))))))
/-! 150: _looks_in -/
theorem d_150 (A : Al P w K mg base n) (G : Gs w K mg) (fa : Addr) (cdv : Value) (Ar : Around) (outer : List PySem.Env) (s : Shared) (H : Hp) (E : XK) (hr : RoomG n (Ar.deeper (PyProof.Rows.envOfC "_looks_in" (defScope s_150) s.heap.objs.size fa cdv))) :
    PSs (cxOf CX0 P w K mg base N_150 "_looks_in" (defScope s_150) fa cdv Ar outer s H E).nox (defBody s_150) (trS K (run T n) b_looks_in) :=
  (xs_one (xs_ret (xe_lc (own := [("place", 2), ("edition", 3), ("moment", 4)]) rfl sc_150.nd (xi_seq (xe_var 1)) N_150 (defScope s_150) (by decide +kernel) (fun _ _ _ _ _ => (xg_tup rfl (xgs_cons (xg_name 2 sc_150.nd) (xgs_cons (xg_name 3 sc_150.nd) (xgs_cons (xg_name 4 sc_150.nd) xgs_nil))))) (fun _ _ _ _ _ => xts_nil) (fun _ _ _ _ _ => (xe_tup (xa_cons (xe_var 4) (xa_cons (xe_call A.f14 hr (by rfl) (xa_cons (xe_ix (xe_ix (xe_var 0) (xe_var 3) (fun _ _ => rfl)) (xe_var 2) (fun _ _ => rfl)) (xa_cons (xe_var 4) (xa_nil)))) (xa_nil))))))))
/-! 152: _suits -/
theorem d_152 (A : Al P w K mg base n) (G : Gs w K mg) (fa : Addr) (cdv : Value) (Ar : Around) (outer : List PySem.Env) (s : Shared) (H : Hp) (E : XK) (hr : RoomG n (Ar.deeper (PyProof.Rows.envOfC "_suits" (defScope s_152) s.heap.objs.size fa cdv))) :
    PSs (cxOf CX0 P w K mg base N_152 "_suits" (defScope s_152) fa cdv Ar outer s H E).nox (defBody s_152) (trS K (run T n) b_suits) :=
  (xs_cons (xs_asg (xe_var 0) (xg_tup rfl (xgs_cons (xg_name 3 sc_152.nd) (xgs_cons (xg_name 4 sc_152.nd) xgs_nil))))
    (xs_one (xs_ret (xe_cmpd .eq hr (xe_call A.f151 hr (by rfl) (xa_cons (xe_ix (xe_var 3) (xe_var 1) (fun _ _ => rfl)) (xa_cons (xe_var 2) (xa_nil)))) (xe_call A.f151 hr (by rfl) (xa_cons (xe_ix (xe_var 4) (xe_var 1) (fun _ _ => rfl)) (xa_cons (xe_var 2) (xa_nil)))) (by first | rfl | with_unfolding_all rfl)))))
/-! 151: _ahead_of -/
theorem d_151 (A : Al P w K mg base n) (G : Gs w K mg) (fa : Addr) (cdv : Value) (Ar : Around) (outer : List PySem.Env) (s : Shared) (H : Hp) (E : XK) (hr : RoomG n (Ar.deeper (PyProof.Rows.envOfC "_ahead_of" (defScope s_151) s.heap.objs.size fa cdv))) :
    PSs (cxOf CX0 P w K mg base N_151 "_ahead_of" (defScope s_151) fa cdv Ar outer s H E).nox (defBody s_151) (trS K (run T n) b_ahead_of) :=
  (xs_cons (xs_asg (xe_var 0) (xg_tup rfl (xgs_cons (xg_name 2 sc_151.nd) (xgs_cons (xg_name 3 sc_151.nd) xgs_nil))))
    (xs_one (xs_ret (xe_tup (xa_cons (xe_var 2) (xa_cons (xe_lc (own := [("jump", 4)]) rfl sc_151.nd (xi_seq (xe_var 3)) N_151 (defScope s_151) (by decide +kernel) (fun _ _ _ _ _ => (xg_name 4 sc_151.nd)) (fun _ _ _ _ _ => (xts_one (xt_cmp .lt (xe_ix (xe_var 4) (xe_int) (fun _ _ => rfl)) (xe_var 1) (by first | rfl | with_unfolding_all rfl)))) (fun _ _ _ _ _ => (xe_var 4))) (xa_nil)))))))
/-! 98: _law_bag_of -/
theorem d_98 (A : Al P w K mg base n) (G : Gs w K mg) (fa : Addr) (cdv : Value) (Ar : Around) (outer : List PySem.Env) (s : Shared) (H : Hp) (E : XK) (hr : RoomG n (Ar.deeper (PyProof.Rows.envOfC "_law_bag_of" (defScope s_98) s.heap.objs.size fa cdv))) :
    PSs (cxOf CX0 P w K mg base N_98 "_law_bag_of" (defScope s_98) fa cdv Ar outer s H E).nox (defBody s_98) (trS K (run T n) b_bag_of) :=
  (xs_one (xs_ret (xe_lst (xa_cons (xe_blt .max_ (b_max rfl) (by rfl) G.n_max (by decide +kernel) (xa_cons (xe_int) (xa_cons (xe_bin .sub (xe_var 0) (xe_bin .pow (xe_int) (xe_int))) (xa_nil)))) (xa_cons (xe_bin .mod (xe_bty .int_ b_int (by rfl) G.n_int (by decide +kernel) (xa_cons (xe_var 0) (xa_nil))) (xe_int)) (xa_cons (xe_int) (xa_nil)))))))
/-! 99: _law_pick -/
theorem d_99 (A : Al P w K mg base n) (G : Gs w K mg) (fa : Addr) (cdv : Value) (Ar : Around) (outer : List PySem.Env) (s : Shared) (H : Hp) (E : XK) (hr : RoomG n (Ar.deeper (PyProof.Rows.envOfC "_law_pick" (defScope s_99) s.heap.objs.size fa cdv))) :
    PSs (cxOf CX0 P w K mg base N_99 "_law_pick" (defScope s_99) fa cdv Ar outer s H E).nox (defBody s_99) (trS K (run T n) b_pick) :=
  (xs_cons (xs_if (xt_cmp .gt (xe_ix (xe_var 0) (xe_int) (fun _ _ => rfl)) (xe_int) (by first | rfl | with_unfolding_all rfl))
    (xs_cons (xs_set 2 sc_99.nd (xe_bin .mod (xe_bty .int_ b_int (by rfl) G.n_int (by decide +kernel) (xa_cons (xe_ix (xe_var 0) (xe_int) (fun _ _ => rfl)) (xa_nil))) (xe_var 1)))
    (xs_cons (xs_setix (xe_bin .fdiv (xe_ix (xe_var 0) (xe_int) (fun _ _ => rfl)) (xe_var 1)) (xe_var 0) (xe_int))
    (xs_one (xs_ret (xe_var 2))))) xs_nil)
    (xs_cons (xs_setix (xe_bin .add (xe_ix (xe_var 0) (xe_int) (fun _ _ => rfl)) (xe_int)) (xe_var 0) (xe_int))
    (xs_cons (xs_set 2 sc_99.nd (xe_bin .mul (xe_bin .add (xe_ix (xe_var 0) (xe_int) (fun _ _ => rfl)) (xe_bin .mul (xe_int) (xe_ix (xe_var 0) (xe_int) (fun _ _ => rfl)))) (xe_bin .add (xe_bin .add (xe_ix (xe_var 0) (xe_int) (fun _ _ => rfl)) (xe_bin .mul (xe_int) (xe_ix (xe_var 0) (xe_int) (fun _ _ => rfl)))) (xe_int))))
    (xs_cons (xs_set 2 sc_99.nd (xe_bin .mod (xe_bty .int_ b_int (by rfl) G.n_int (by decide +kernel) (xa_cons (xe_var 2) (xa_nil))) (xe_int)))
    (xs_cons (xs_set 2 sc_99.nd (xe_bin .add (xe_bin .mul (xe_var 2) (xe_var 2)) (xe_bin .mul (xe_int) (xe_ix (xe_var 0) (xe_int) (fun _ _ => rfl)))))
    (xs_one (xs_ret (xe_bin .mod (xe_bty .int_ b_int (by rfl) G.n_int (by decide +kernel) (xa_cons (xe_bin .fdiv (xe_bin .mod (xe_bty .int_ b_int (by rfl) G.n_int (by decide +kernel) (xa_cons (xe_var 2) (xa_nil))) (xe_int)) (xe_int)) (xa_nil))) (xe_var 1)))))))))
/-! 100: _law_any_belt -/
theorem d_100 (A : Al P w K mg base n) (G : Gs w K mg) (fa : Addr) (cdv : Value) (Ar : Around) (outer : List PySem.Env) (s : Shared) (H : Hp) (E : XK) (hr : RoomG n (Ar.deeper (PyProof.Rows.envOfC "_law_any_belt" (defScope s_100) s.heap.objs.size fa cdv))) :
    PSs (cxOf CX0 P w K mg base N_100 "_law_any_belt" (defScope s_100) fa cdv Ar outer s H E).nox (defBody s_100) (trS K (run T n) b_any_belt) :=
  (xs_cons (xs_set 2 sc_100.nd (xe_blt .min_ (b_min rfl) (by rfl) G.n_min (by decide +kernel) (xa_cons (xe_var 1) (xa_cons (xe_ix (xe_lst (xa_cons (xe_int) (xa_cons (xe_int) (xa_cons (xe_int) (xa_cons (xe_int) (xa_cons (xe_int) (xa_cons (xe_int) (xa_nil)))))))) (xe_call A.f99 hr (by rfl) (xa_cons (xe_var 0) (xa_cons (xe_int) (xa_nil)))) (fun _ _ => rfl)) (xa_nil)))))
    (xs_cons (xs_set 3 sc_100.nd (xe_ix (xe_lst (xa_cons (xe_int) (xa_cons (xe_int) (xa_cons (xe_int) (xa_cons (xe_int) (xa_cons (xe_int) (xa_cons (xe_int) (xa_nil)))))))) (xe_call A.f99 hr (by rfl) (xa_cons (xe_var 0) (xa_cons (xe_int) (xa_nil)))) (fun _ _ => rfl)))
    (xs_cons (xs_set 3 sc_100.nd (xe_blt .max_ (b_max rfl) (by rfl) G.n_max (by decide +kernel) (xa_cons (xe_int) (xa_cons (xe_bin .fdiv (xe_var 3) (xe_blt .max_ (b_max rfl) (by rfl) G.n_max (by decide +kernel) (xa_cons (xe_int) (xa_cons (xe_bin .sub (xe_var 2) (xe_int)) (xa_nil))))) (xa_nil)))))
    (xs_cons (xs_setlc (i := 4) (own := [("_law_k", 5)]) rfl sc_100.nd rfl rfl (sw_true rfl rfl rfl (by decide +kernel)) (xi_range1 (by rfl) G.n_range (xa_cons (xe_bin .sub (xe_var 2) (xe_int)) (xa_nil))) N_100 (defScope s_100) (by decide +kernel) (fun _ _ _ _ _ => (xg_name 5 sc_100.nd)) (fun _ _ _ _ _ => xts_nil) (fun _ _ _ _ _ => (xe_bin .sub (xe_var 3) (xe_bin .mul (xe_call A.f99 hr (by rfl) (xa_cons (xe_var 0) (xa_cons (xe_var 3) (xa_nil)))) (xe_call A.f99 hr (by rfl) (xa_cons (xe_var 0) (xa_cons (xe_int) (xa_nil))))))))
    (xs_cons (xs_set 6 sc_100.nd (xe_lst (xa_cons (xe_bin .sub (xe_call A.f99 hr (by rfl) (xa_cons (xe_var 0) (xa_cons (xe_bin .sub (xe_int) (xe_blt .sum_ (b_sum rfl) (by rfl) G.n_sum (by decide +kernel) (xa_cons (xe_var 4) (xa_nil)))) (xa_nil)))) (xe_int)) (xa_nil))))
    (xs_cons (xs_for PassesOwn.never rfl (xi_seq (xe_var 4)) (xg_name 7 sc_100.nd)
    (xs_one (xs_drop (xe_append (xe_var 6) (xa_cons (xe_bin .add (xe_ix (xe_var 6) (xe_neg (xe_int)) (fun _ _ => rfl)) (xe_var 7)) (xa_nil))))))
    (xs_cons (xs_set 8 sc_100.nd (xe_bin .add (xe_blt .sum_ (b_sum rfl) (by rfl) G.n_sum (by decide +kernel) (xa_cons (xe_var 4) (xa_nil))) (xe_int)))
    (xs_cons (xs_set 9 sc_100.nd (xe_lst (xa_cons (xe_int) (xa_cons (xe_int) (xa_cons (xe_int) (xa_cons (xe_bin .sub (xe_int) (xe_var 8)) (xa_cons (xe_call A.f99 hr (by rfl) (xa_cons (xe_var 0) (xa_cons (xe_int) (xa_nil)))) (xa_cons (xe_int) (xa_cons (xe_call A.f99 hr (by rfl) (xa_cons (xe_var 0) (xa_cons (xe_bin .sub (xe_int) (xe_var 8)) (xa_nil)))) (xa_nil))))))))))
    (xs_one (xs_ret (xe_tup (xa_cons (xe_bty .tuple_ b_tuple (by rfl) G.n_tuple (by decide +kernel) (xa_cons (xe_var 6) (xa_nil))) (xa_cons (xe_bin .add (xe_var 8) (xe_ix (xe_var 9) (xe_call A.f99 hr (by rfl) (xa_cons (xe_var 0) (xa_cons (xe_int) (xa_nil)))) (fun _ _ => rfl))) (xa_nil))))))))))))))
/-! 101: _law_any_belts -/
theorem d_101 (A : Al P w K mg base n) (G : Gs w K mg) (fa : Addr) (cdv : Value) (Ar : Around) (outer : List PySem.Env) (s : Shared) (H : Hp) (E : XK) (hr : RoomG n (Ar.deeper (PyProof.Rows.envOfC "_law_any_belts" (defScope s_101) s.heap.objs.size fa cdv))) :
    PSs (cxOf CX0 P w K mg base N_101 "_law_any_belts" (defScope s_101) fa cdv Ar outer s H E).nox (defBody s_101) (trS K (run T n) b_any_belts) :=
  (xs_one (xs_ret (xe_bty .tuple_ b_tuple (by rfl) G.n_tuple (by decide +kernel) (xa_cons (xe_lc (own := [("_law_k", 2)]) rfl sc_101.nd (xi_range1 (by rfl) G.n_range (xa_cons (xe_bin .add (xe_int) (xe_call A.f99 hr (by rfl) (xa_cons (xe_var 0) (xa_cons (xe_int) (xa_nil))))) (xa_nil))) N_101 (defScope s_101) (by decide +kernel) (fun _ _ _ _ _ => (xg_name 2 sc_101.nd)) (fun _ _ _ _ _ => xts_nil) (fun _ _ _ _ _ => (xe_call A.f100 hr (by rfl) (xa_cons (xe_var 0) (xa_cons (xe_var 1) (xa_nil)))))) (xa_nil)))))
/-! 102: _law_same -/
theorem d_102 (A : Al P w K mg base n) (G : Gs w K mg) (fa : Addr) (cdv : Value) (Ar : Around) (outer : List PySem.Env) (s : Shared) (H : Hp) (E : XK) (hr : RoomG n (Ar.deeper (PyProof.Rows.envOfC "_law_same" (defScope s_102) s.heap.objs.size fa cdv))) :
    PSs (cxOf CX0 P w K mg base N_102 "_law_same" (defScope s_102) fa cdv Ar outer s H E).nox (defBody s_102) (trS K (run T n) b_same_2) :=
  (xs_one (xs_ret (xe_cmp .eq (xe_rpr hr (by rfl) G.n_repr (by decide +kernel) (xe_var 0)) (xe_rpr hr (by rfl) G.n_repr (by decide +kernel) (xe_var 1)) (by first | rfl | with_unfolding_all rfl))))
/-! 103: _law_spot -/
theorem d_103 (A : Al P w K mg base n) (G : Gs w K mg) (fa : Addr) (cdv : Value) (Ar : Around) (outer : List PySem.Env) (s : Shared) (H : Hp) (E : XK) (hr : RoomG n (Ar.deeper (PyProof.Rows.envOfC "_law_spot" (defScope s_103) s.heap.objs.size fa cdv))) :
    PSs (cxOf CX0 P w K mg base N_103 "_law_spot" (defScope s_103) fa cdv Ar outer s H E).nox (defBody s_103) (trS K (run T n) b_spot) :=
  (xs_cons (xs_setlc (i := 3) (own := [("_law_k", 4)]) rfl sc_103.nd rfl rfl (sw_true rfl rfl rfl (by decide +kernel)) (xi_range1 (by rfl) G.n_range (xa_cons (xe_blt .len b_len (by rfl) G.n_len (by decide +kernel) (xa_cons (xe_var 1) (xa_nil))) (xa_nil))) N_103 (defScope s_103) (by decide +kernel) (fun _ _ _ _ _ => (xg_name 4 sc_103.nd)) (fun _ _ _ _ _ => (xts_one ((xw_or (xt_cmp .eq (xe_ix (xe_var 1) (xe_var 4) (fun _ _ => rfl)) (xe_var 2) (by first | rfl | with_unfolding_all rfl)) (xw_or1 ((xw_and (xt_cmp .eq (xe_var 2) (xe_str) (by first | rfl | with_unfolding_all rfl)) (xw_and1 (xt_cmp .ne (xe_ix (xe_var 1) (xe_var 4) (fun _ _ => rfl)) (xe_str) (by first | rfl | with_unfolding_all rfl))))).pt))).pt)) (fun _ _ _ _ _ => (xe_var 4)))
    (xs_cons (xs_if (xt_cmp .eq (xe_call A.f99 hr (by rfl) (xa_cons (xe_var 0) (xa_cons (xe_int) (xa_nil)))) (xe_int) (by first | rfl | with_unfolding_all rfl))
    (xs_one (xs_ret (xe_ix (xe_var 3) (xe_neg (xe_int)) (fun _ _ => rfl)))) xs_nil)
    (xs_one (xs_ret (xe_ix (xe_var 3) (xe_call A.f99 hr (by rfl) (xa_cons (xe_var 0) (xa_cons (xe_blt .len b_len (by rfl) G.n_len (by decide +kernel) (xa_cons (xe_var 3) (xa_nil))) (xa_nil)))) (fun _ _ => rfl))))))
/-! 104: _law_minutes -/
theorem d_104 (A : Al P w K mg base n) (G : Gs w K mg) (fa : Addr) (cdv : Value) (Ar : Around) (outer : List PySem.Env) (s : Shared) (H : Hp) (E : XK) (hr : RoomG n (Ar.deeper (PyProof.Rows.envOfC "_law_minutes" (defScope s_104) s.heap.objs.size fa cdv))) :
    PSs (cxOf CX0 P w K mg base N_104 "_law_minutes" (defScope s_104) fa cdv Ar outer s H E).nox (defBody s_104) (trS K (run T n) b_minutes) :=
  (xs_cons (xs_if (xt_cmp .eq (xe_var 2) (xe_int) (by first | rfl | with_unfolding_all rfl))
    (xs_one (xs_ret (xe_bin .sub (xe_call A.f99 hr (by rfl) (xa_cons (xe_var 0) (xa_cons (xe_int) (xa_nil)))) (xe_int)))) xs_nil)
    (xs_cons (xs_asg (xe_ix (xe_var 1) (xe_call A.f99 hr (by rfl) (xa_cons (xe_var 0) (xa_cons (xe_blt .len b_len (by rfl) G.n_len (by decide +kernel) (xa_cons (xe_var 1) (xa_nil))) (xa_nil)))) (fun _ _ => rfl)) (xg_tup rfl (xgs_cons (xg_name 3 sc_104.nd) (xgs_cons (xg_name 4 sc_104.nd) xgs_nil))))
    (xs_cons (xs_set 5 sc_104.nd (xe_bin .sub (xe_ix (xe_var 3) (xe_neg (xe_int)) (fun _ _ => rfl)) (xe_ix (xe_var 3) (xe_int) (fun _ _ => rfl))))
    (xs_cons (xs_set 6 sc_104.nd (xe_lst (xa_cons (xe_int) (xa_cons (xe_var 4) (xa_cons (xe_var 5) (xa_cons (xe_int) (xa_cons (xe_int) (xa_cons (xe_call A.f99 hr (by rfl) (xa_cons (xe_var 0) (xa_cons (xe_int) (xa_nil)))) (xa_cons (xe_int) (xa_cons (xe_bin .sub (xe_var 4) (xe_var 5)) (xa_cons (xe_bin .add (xe_var 4) (xe_var 5)) (xa_nil))))))))))))
    (xs_cons (xs_set 7 sc_104.nd (xe_blt .min_ (b_min rfl) (by rfl) G.n_min (by decide +kernel) (xa_cons (xe_int) (xa_cons (xe_bin .sub (xe_bin .add (xe_ix (xe_var 6) (xe_call A.f99 hr (by rfl) (xa_cons (xe_var 0) (xa_cons (xe_int) (xa_nil)))) (fun _ _ => rfl)) (xe_call A.f99 hr (by rfl) (xa_cons (xe_var 0) (xa_cons (xe_int) (xa_nil))))) (xe_int)) (xa_nil)))))
    (xs_one (xs_ret (xe_bin .mul (xe_var 7) (xe_bin .sub (xe_int) (xe_bin .mul (xe_int) (xe_call A.f99 hr (by rfl) (xa_cons (xe_var 0) (xa_cons (xe_int) (xa_nil))))))))))))))
/-! 157: _law_next_words -/
theorem d_157 (A : Al P w K mg base n) (G : Gs w K mg) (fa : Addr) (cdv : Value) (Ar : Around) (outer : List PySem.Env) (s : Shared) (H : Hp) (E : XK) (hr : RoomG n (Ar.deeper (PyProof.Rows.envOfC "_law_next_words" (defScope s_157) s.heap.objs.size fa cdv))) :
    PSs (cxOf CX0 P w K mg base N_157 "_law_next_words" (defScope s_157) fa cdv Ar outer s H E).nox (defBody s_157) (trS K (run T n) b_next_words) :=
  (xs_cons (xs_set 2 sc_157.nd (xe_bin .add (xe_bin .add (xe_lst (xa_cons (xe_str) (xa_nil))) (xe_bin .mul (xe_lst (xa_cons (xe_str) (xa_nil))) (xe_bty .int_ b_int (by rfl) G.n_int (by decide +kernel) (xa_cons (xe_cmp .in_ (xe_str) (xe_var 0) (by first | rfl | with_unfolding_all rfl)) (xa_nil))))) (xe_bin .mul (xe_lst (xa_cons (xe_str) (xa_nil))) (xe_bty .int_ b_int (by rfl) G.n_int (by decide +kernel) (xa_cons (xe_and (xe_cmp .in_ (xe_str) (xe_var 0) (by first | rfl | with_unfolding_all rfl)) (xe_one (xe_cmp .in_ (xe_str) (xe_var 0) (by first | rfl | with_unfolding_all rfl)))) (xa_nil))))))
    (xs_cons (xs_if (xt_cmp .gt (xe_ix (xe_var 1) (xe_int) (fun _ _ => rfl)) (xe_int) (by first | rfl | with_unfolding_all rfl))
    (xs_cons (xs_set 2 sc_157.nd (xe_bin .add (xe_bin .add (xe_var 2) (xe_lst (xa_cons (xe_str) (xa_cons (xe_str) (xa_cons (xe_str) (xa_cons (xe_str) (xa_cons (xe_str) (xa_cons (xe_str) (xa_nil))))))))) (xe_bin .mul (xe_lst (xa_cons (xe_str) (xa_nil))) (xe_blt .min_ (b_min rfl) (by rfl) G.n_min (by decide +kernel) (xa_cons (xe_int) (xa_cons (xe_ix (xe_var 1) (xe_int) (fun _ _ => rfl)) (xa_nil)))))))
    (xs_one (xs_set 2 sc_157.nd (xe_bin .add (xe_var 2) (xe_bin .mul (xe_lst (xa_cons (xe_str) (xa_nil))) (xe_bty .int_ b_int (by rfl) G.n_int (by decide +kernel) (xa_cons (xe_bin .mul (xe_int) (xe_bty .int_ b_int (by rfl) G.n_int (by decide +kernel) (xa_cons (xe_and (xe_cmp .gt (xe_ix (xe_var 1) (xe_int) (fun _ _ => rfl)) (xe_int) (by first | rfl | with_unfolding_all rfl)) (xe_one (xe_cmp .in_ (xe_str) (xe_var 0) (by first | rfl | with_unfolding_all rfl)))) (xa_nil)))) (xa_nil)))))))) xs_nil)
    (xs_one (xs_ret (xe_var 2)))))
/-! 105: _law_any_rules -/
theorem d_105 (A : Al P w K mg base n) (G : Gs w K mg) (fa : Addr) (cdv : Value) (Ar : Around) (outer : List PySem.Env) (s : Shared) (H : Hp) (E : XK) (hr : RoomG n (Ar.deeper (PyProof.Rows.envOfC "_law_any_rules" (defScope s_105) s.heap.objs.size fa cdv))) :
    PSs (cxOf CX0 P w K mg base N_105 "_law_any_rules" (defScope s_105) fa cdv Ar outer s H E).nox (defBody s_105) (trS K (run T n) b_any_rules) :=
  (xs_one (xs_ret (xe_tup (xa_cons (xe_ix (xe_lst (xa_cons (xe_str) (xa_cons (xe_str) (xa_cons (xe_str) (xa_nil))))) (xe_call A.f99 hr (by rfl) (xa_cons (xe_var 0) (xa_cons (xe_int) (xa_nil)))) (fun _ _ => rfl)) (xa_cons (xe_ix (xe_lst (xa_cons (xe_str) (xa_cons (xe_str) (xa_cons (xe_str) (xa_nil))))) (xe_call A.f99 hr (by rfl) (xa_cons (xe_var 0) (xa_cons (xe_int) (xa_nil)))) (fun _ _ => rfl)) (xa_nil))))))
/-! 158: _law_any_deed -/
theorem d_158 (A : Al P w K mg base n) (G : Gs w K mg) (fa : Addr) (cdv : Value) (Ar : Around) (outer : List PySem.Env) (s : Shared) (H : Hp) (E : XK) (hr : RoomG n (Ar.deeper (PyProof.Rows.envOfC "_law_any_deed" (defScope s_158) s.heap.objs.size fa cdv))) :
    PSs (cxOf CX0 P w K mg base N_158 "_law_any_deed" (defScope s_158) fa cdv Ar outer s H E).nox (defBody s_158) (trS K (run T n) b_any_deed) :=
  (xs_cons (xs_set 4 sc_158.nd (xe_call A.f157 hr (by rfl) (xa_cons (xe_var 2) (xa_cons (xe_var 3) (xa_nil)))))
    (xs_cons (xs_set 5 sc_158.nd (xe_ix (xe_var 4) (xe_call A.f99 hr (by rfl) (xa_cons (xe_var 0) (xa_cons (xe_blt .len b_len (by rfl) G.n_len (by decide +kernel) (xa_cons (xe_var 4) (xa_nil))) (xa_nil)))) (fun _ _ => rfl)))
    (xs_cons (xs_if (xt_cmp .eq (xe_var 5) (xe_str) (by first | rfl | with_unfolding_all rfl))
    (xs_one (xs_ret (xe_tup (xa_cons (xe_str) (xa_cons (xe_call A.f103 hr (by rfl) (xa_cons (xe_var 0) (xa_cons (xe_var 2) (xa_cons (xe_str) (xa_nil))))) (xa_cons (xe_call A.f104 hr (by rfl) (xa_cons (xe_var 0) (xa_cons (xe_var 1) (xa_cons (xe_ix (xe_var 3) (xe_int) (fun _ _ => rfl)) (xa_nil))))) (xa_nil))))))) xs_nil)
    (xs_cons (xs_if (xt_cmp .eq (xe_var 5) (xe_str) (by first | rfl | with_unfolding_all rfl))
    (xs_one (xs_ret (xe_tup (xa_cons (xe_str) (xa_cons (xe_call A.f103 hr (by rfl) (xa_cons (xe_var 0) (xa_cons (xe_var 2) (xa_cons (xe_str) (xa_nil))))) (xa_cons (xe_call A.f103 hr (by rfl) (xa_cons (xe_var 0) (xa_cons (xe_var 2) (xa_cons (xe_str) (xa_nil))))) (xa_nil))))))) xs_nil)
    (xs_cons (xs_if (xt_cmp .eq (xe_var 5) (xe_str) (by first | rfl | with_unfolding_all rfl))
    (xs_one (xs_ret (xe_tup (xa_cons (xe_str) (xa_cons (xe_call A.f103 hr (by rfl) (xa_cons (xe_var 0) (xa_cons (xe_var 2) (xa_cons (xe_str) (xa_nil))))) (xa_cons (xe_call A.f103 hr (by rfl) (xa_cons (xe_var 0) (xa_cons (xe_var 2) (xa_cons (xe_str) (xa_nil))))) (xa_nil))))))) xs_nil)
    (xs_cons (xs_set 6 sc_158.nd (xe_call A.f99 hr (by rfl) (xa_cons (xe_var 0) (xa_cons (xe_blt .len b_len (by rfl) G.n_len (by decide +kernel) (xa_cons (xe_var 1) (xa_nil))) (xa_nil)))))
    (xs_cons (xs_if (xt_cmp .eq (xe_var 5) (xe_str) (by first | rfl | with_unfolding_all rfl))
    (xs_one (xs_ret (xe_bin .add (xe_tup (xa_cons (xe_str) (xa_cons (xe_call A.f103 hr (by rfl) (xa_cons (xe_var 0) (xa_cons (xe_var 2) (xa_cons (xe_str) (xa_nil))))) (xa_cons (xe_var 6) (xa_nil))))) (xe_call A.f105 hr (by rfl) (xa_cons (xe_var 0) (xa_nil)))))) xs_nil)
    (xs_one (xs_ret (xe_tup (xa_cons (xe_var 5) (xa_cons (xe_call A.f103 hr (by rfl) (xa_cons (xe_var 0) (xa_cons (xe_var 2) (xa_cons (xe_str) (xa_nil))))) (xa_cons (xe_var 6) (xa_nil))))))))))))))
/-! 159: _law_kind_made -/
theorem d_159 (A : Al P w K mg base n) (G : Gs w K mg) (fa : Addr) (cdv : Value) (Ar : Around) (outer : List PySem.Env) (s : Shared) (H : Hp) (E : XK) (hr : RoomG n (Ar.deeper (PyProof.Rows.envOfC "_law_kind_made" (defScope s_159) s.heap.objs.size fa cdv))) :
    PSs (cxOf CX0 P w K mg base N_159 "_law_kind_made" (defScope s_159) fa cdv Ar outer s H E).nox (defBody s_159) (trS K (run T n) b_kind_made) :=
  (xs_cons (xs_if (xt_cmp .eq (xe_ix (xe_var 1) (xe_int) (fun _ _ => rfl)) (xe_str) (by first | rfl | with_unfolding_all rfl))
    (xs_one (xs_ret (xe_ix (xe_var 0) (xe_ix (xe_var 1) (xe_int) (fun _ _ => rfl)) (fun _ _ => rfl)))) xs_nil)
    (xs_cons (xs_if (xt_cmp .eq (xe_ix (xe_var 1) (xe_int) (fun _ _ => rfl)) (xe_str) (by first | rfl | with_unfolding_all rfl))
    (xs_one (xs_ret (xe_str))) xs_nil)
    (xs_cons (xs_if ((xw_or (xt_cmp .eq (xe_ix (xe_var 1) (xe_int) (fun _ _ => rfl)) (xe_str) (by first | rfl | with_unfolding_all rfl)) (xw_or1 (xt_cmp .eq (xe_ix (xe_var 1) (xe_int) (fun _ _ => rfl)) (xe_str) (by first | rfl | with_unfolding_all rfl))))).pt
    (xs_one (xs_ret (xe_str))) xs_nil)
    (xs_one (xs_ret (xe_str))))))
/-! 160: _law_kind_row -/
theorem d_160 (A : Al P w K mg base n) (G : Gs w K mg) (fa : Addr) (cdv : Value) (Ar : Around) (outer : List PySem.Env) (s : Shared) (H : Hp) (E : XK) (hr : RoomG n (Ar.deeper (PyProof.Rows.envOfC "_law_kind_row" (defScope s_160) s.heap.objs.size fa cdv))) :
    PSs (cxOf CX0 P w K mg base N_160 "_law_kind_row" (defScope s_160) fa cdv Ar outer s H E).nox (defBody s_160) (trS K (run T n) b_kind_row) :=
  (xs_cons (xs_set 1 sc_160.nd (xe_lst (xa_cons (xe_str) (xa_nil))))
    (xs_cons (xs_for PassesOwn.never rfl (xi_seq (xe_var 0)) (xg_name 2 sc_160.nd)
    (xs_one (xs_drop (xe_append (xe_var 1) (xa_cons (xe_call A.f159 hr (by rfl) (xa_cons (xe_var 1) (xa_cons (xe_var 2) (xa_nil)))) (xa_nil))))))
    (xs_one (xs_ret (xe_var 1)))))
/-! 106: _law_less_room -/
theorem d_106 (A : Al P w K mg base n) (G : Gs w K mg) (fa : Addr) (cdv : Value) (Ar : Around) (outer : List PySem.Env) (s : Shared) (H : Hp) (E : XK) (hr : RoomG n (Ar.deeper (PyProof.Rows.envOfC "_law_less_room" (defScope s_106) s.heap.objs.size fa cdv))) :
    PSs (cxOf CX0 P w K mg base N_106 "_law_less_room" (defScope s_106) fa cdv Ar outer s H E).nox (defBody s_106) (trS K (run T n) b_less_room) :=
  (xs_cons (xs_set 2 sc_106.nd (xe_bty .int_ b_int (by rfl) G.n_int (by decide +kernel) (xa_cons (xe_cmp .in_ (xe_ix (xe_var 1) (xe_int) (fun _ _ => rfl)) (xe_lst (xa_cons (xe_str) (xa_cons (xe_str) (xa_cons (xe_str) (xa_cons (xe_str) (xa_nil)))))) (by first | rfl | with_unfolding_all rfl)) (xa_nil))))
    (xs_one (xs_ret (xe_lst (xa_cons (xe_bin .sub (xe_ix (xe_var 0) (xe_int) (fun _ _ => rfl)) (xe_var 2)) (xa_cons (xe_bin .sub (xe_ix (xe_var 0) (xe_int) (fun _ _ => rfl)) (xe_bty .int_ b_int (by rfl) G.n_int (by decide +kernel) (xa_cons (xe_cmp .eq (xe_ix (xe_var 1) (xe_int) (fun _ _ => rfl)) (xe_str) (by first | rfl | with_unfolding_all rfl)) (xa_nil)))) (xa_cons (xe_bin .sub (xe_ix (xe_var 0) (xe_int) (fun _ _ => rfl)) (xe_bty .int_ b_int (by rfl) G.n_int (by decide +kernel) (xa_cons (xe_cmp .eq (xe_ix (xe_var 1) (xe_int) (fun _ _ => rfl)) (xe_str) (by first | rfl | with_unfolding_all rfl)) (xa_nil)))) (xa_cons (xe_ix (xe_var 0) (xe_int) (fun _ _ => rfl)) (xa_nil)))))))))
/-! 161: _law_longer_plan -/
theorem d_161 (A : Al P w K mg base n) (G : Gs w K mg) (fa : Addr) (cdv : Value) (Ar : Around) (outer : List PySem.Env) (s : Shared) (H : Hp) (E : XK) (hr : RoomG n (Ar.deeper (PyProof.Rows.envOfC "_law_longer_plan" (defScope s_161) s.heap.objs.size fa cdv))) :
    PSs (cxOf CX0 P w K mg base N_161 "_law_longer_plan" (defScope s_161) fa cdv Ar outer s H E).nox (defBody s_161) (trS K (run T n) b_longer_plan) :=
  (xs_cons (xs_for PassesOwn.never rfl (xi_range1 (by rfl) G.n_range (xa_cons (xe_var 3) (xa_nil))) (xg_name 5 sc_161.nd)
    (xs_cons (xs_set 6 sc_161.nd (xe_call A.f158 hr (by rfl) (xa_cons (xe_var 0) (xa_cons (xe_var 1) (xa_cons (xe_call A.f160 hr (by rfl) (xa_cons (xe_var 2) (xa_nil))) (xa_cons (xe_var 4) (xa_nil)))))))
    (xs_cons (xs_set 4 sc_161.nd (xe_call A.f106 hr (by rfl) (xa_cons (xe_var 4) (xa_cons (xe_var 6) (xa_nil)))))
    (xs_one (xs_set 2 sc_161.nd (xe_bin .add (xe_var 2) (xe_tup (xa_cons (xe_var 6) (xa_nil)))))))))
    (xs_one (xs_ret (xe_var 2))))
/-! 162: _law_any_plan -/
theorem d_162 (A : Al P w K mg base n) (G : Gs w K mg) (fa : Addr) (cdv : Value) (Ar : Around) (outer : List PySem.Env) (s : Shared) (H : Hp) (E : XK) (hr : RoomG n (Ar.deeper (PyProof.Rows.envOfC "_law_any_plan" (defScope s_162) s.heap.objs.size fa cdv))) :
    PSs (cxOf CX0 P w K mg base N_162 "_law_any_plan" (defScope s_162) fa cdv Ar outer s H E).nox (defBody s_162) (trS K (run T n) b_any_plan) :=
  (xs_cons (xs_set 4 sc_162.nd (xe_bin .sub (xe_var 2) (xe_ix (xe_lst (xa_cons (xe_int) (xa_cons (xe_int) (xa_cons (xe_int) (xa_cons (xe_int) (xa_cons (xe_int) (xa_cons (xe_call A.f99 hr (by rfl) (xa_cons (xe_var 0) (xa_cons (xe_bin .add (xe_var 2) (xe_int)) (xa_nil)))) (xa_nil)))))))) (xe_call A.f99 hr (by rfl) (xa_cons (xe_var 0) (xa_cons (xe_int) (xa_nil)))) (fun _ _ => rfl))))
    (xs_one (xs_ret (xe_call A.f161 hr (by rfl) (xa_cons (xe_var 0) (xa_cons (xe_var 1) (xa_cons (xe_tup (xa_nil)) (xa_cons (xe_var 4) (xa_cons (xe_var 3) (xa_nil))))))))))
/-! 163: _law_holds -/
theorem d_163 (A : Al P w K mg base n) (G : Gs w K mg) (fa : Addr) (cdv : Value) (Ar : Around) (outer : List PySem.Env) (s : Shared) (H : Hp) (E : XK) (hr : RoomG n (Ar.deeper (PyProof.Rows.envOfC "_law_holds" (defScope s_163) s.heap.objs.size fa cdv))) :
    PSs (cxOf CX0 P w K mg base N_163 "_law_holds" (defScope s_163) fa cdv Ar outer s H E).nox (defBody s_163) (trS K (run T n) b_holds) :=
  (xs_cons (xs_set 2 sc_163.nd (xe_ix (xe_var 0) (xe_int) (fun _ _ => rfl)))
    (xs_cons (xs_for PassesOwn.never rfl (xi_seq (xe_ix (xe_var 0) (xe_int) (fun _ _ => rfl))) (xg_tup rfl (xgs_cons (xg_name 3 sc_163.nd) (xgs_cons (xg_name 4 sc_163.nd) xgs_nil)))
    (xs_one (xs_if (xt_cmp .le (xe_var 3) (xe_var 1) (by first | rfl | with_unfolding_all rfl))
    (xs_one (xs_set 2 sc_163.nd (xe_var 4))) xs_nil)))
    (xs_one (xs_ret (xe_var 2)))))
/-! 164: _law_searched -/
theorem d_164 (A : Al P w K mg base n) (G : Gs w K mg) (fa : Addr) (cdv : Value) (Ar : Around) (outer : List PySem.Env) (s : Shared) (H : Hp) (E : XK) (hr : RoomG n (Ar.deeper (PyProof.Rows.envOfC "_law_searched" (defScope s_164) s.heap.objs.size fa cdv))) :
    PSs (cxOf CX0 P w K mg base N_164 "_law_searched" (defScope s_164) fa cdv Ar outer s H E).nox (defBody s_164) (trS K (run T n) b_searched) :=
  (xs_cons (xs_setlc (i := 5) (own := [("_law_shift", 6)]) rfl sc_164.nd rfl rfl (sw_true rfl rfl rfl (by decide +kernel)) (xi_seq (xe_rev (xe_ix (xe_var 0) (xe_int) (fun _ _ => rfl)))) N_164 (defScope s_164) (by decide +kernel) (fun _ _ _ _ _ => (xg_name 6 sc_164.nd)) (fun _ _ _ _ _ => (xts_one (xt_cmp .eq (xe_call A.f163 hr (by rfl) (xa_cons (xe_var 1) (xa_cons (xe_bin .sub (xe_var 2) (xe_var 6)) (xa_nil)))) (xe_var 6) (by first | rfl | with_unfolding_all rfl)))) (fun _ _ _ _ _ => (xe_bin .sub (xe_var 2) (xe_var 6))))
    (xs_cons (xs_if (xt_cmp .eq (xe_blt .len b_len (by rfl) G.n_len (by decide +kernel) (xa_cons (xe_var 5) (xa_nil))) (xe_int) (by first | rfl | with_unfolding_all rfl))
    (xs_one (xs_ret (xe_ix (xe_var 5) (xe_int) (fun _ _ => rfl)))) xs_nil)
    (xs_cons (xs_if (xt_cmp .eq (xe_blt .len b_len (by rfl) G.n_len (by decide +kernel) (xa_cons (xe_var 5) (xa_nil))) (xe_int) (by first | rfl | with_unfolding_all rfl))
    (xs_one (xs_ret (xe_dget hr (xe_dct [(.c (.str "early"), .ix (.var 5) (.c (.int 0))), (.c (.str "late"), .ix (.var 5) (.c (.int 1))), (.c (.str "refuse"), .c .non)] (pps_cons (xe_str) (xe_ix (xe_var 5) (xe_int) (fun _ _ => rfl)) (pps_cons (xe_str) (xe_ix (xe_var 5) (xe_int) (fun _ _ => rfl)) (pps_cons (xe_str) (xe_non) pps_nil))) rfl rfl (List.cons_ne_nil _ _) (by decide)) (xe_var 3) (fun _ _ => rfl)))) xs_nil)
    (xs_cons (xs_set 7 sc_164.nd (xe_ix (xe_var 1) (xe_int) (fun _ _ => rfl)))
    (xs_cons (xs_for PassesOwn.never rfl (xi_seq (xe_ix (xe_var 1) (xe_int) (fun _ _ => rfl))) (xg_tup rfl (xgs_cons (xg_name 8 sc_164.nd) (xgs_cons (xg_name 6 sc_164.nd) xgs_nil)))
    (xs_cons (xs_if ((xw_and (xt_cmp .ge (xe_bin .sub (xe_var 2) (xe_var 7)) (xe_var 8) (by first | rfl | with_unfolding_all rfl)) (xw_and1 (xt_cmp .lt (xe_bin .sub (xe_var 2) (xe_var 6)) (xe_var 8) (by first | rfl | with_unfolding_all rfl))))).pt
    (xs_one (xs_ret (xe_dget hr (xe_dct [(.c (.str "ahead"), .bin .sub (.var 2) (.var 7)), (.c (.str "behind"), .bin .sub (.var 2) (.var 6)), (.c (.str "refuse"), .c .non)] (pps_cons (xe_str) (xe_bin .sub (xe_var 2) (xe_var 7)) (pps_cons (xe_str) (xe_bin .sub (xe_var 2) (xe_var 6)) (pps_cons (xe_str) (xe_non) pps_nil))) rfl rfl (List.cons_ne_nil _ _) (by decide)) (xe_var 4) (fun _ _ => rfl)))) xs_nil)
    (xs_one (xs_set 7 sc_164.nd (xe_var 6)))))
    (xs_one (xs_ret (xe_non))))))))
/-! 165: _law_asked_at -/
theorem d_165 (A : Al P w K mg base n) (G : Gs w K mg) (fa : Addr) (cdv : Value) (Ar : Around) (outer : List PySem.Env) (s : Shared) (H : Hp) (E : XK) (hr : RoomG n (Ar.deeper (PyProof.Rows.envOfC "_law_asked_at" (defScope s_165) s.heap.objs.size fa cdv))) :
    PSs (cxOf CX0 P w K mg base N_165 "_law_asked_at" (defScope s_165) fa cdv Ar outer s H E).nox (defBody s_165) (trS K (run T n) b_asked_at) :=
  (xs_cons (xs_set 3 sc_165.nd (xe_ix (xe_var 2) (xe_ix (xe_var 1) (xe_int) (fun _ _ => rfl)) (fun _ _ => rfl)))
    (xs_cons (xs_if (xt_cmp .eq (xe_ix (xe_var 1) (xe_int) (fun _ _ => rfl)) (xe_str) (by first | rfl | with_unfolding_all rfl))
    (xs_one (xs_ret (xe_lc (own := [("_law_shift", 4)]) rfl sc_165.nd (xi_seq (xe_rev (xe_ix (xe_ix (xe_var 0) (xe_ix (xe_var 1) (xe_int) (fun _ _ => rfl)) (fun _ _ => rfl)) (xe_int) (fun _ _ => rfl)))) N_165 (defScope s_165) (by decide +kernel) (fun _ _ _ _ _ => (xg_name 4 sc_165.nd)) (fun _ _ _ _ _ => xts_nil) (fun _ _ _ _ _ => (xe_bin .sub (xe_var 3) (xe_var 4)))))) xs_nil)
    (xs_cons (xs_if ((xw_or (xt_cmp .eq (xe_ix (xe_var 1) (xe_int) (fun _ _ => rfl)) (xe_str) (by first | rfl | with_unfolding_all rfl)) (xw_or1 (xt_cmp .eq (xe_ix (xe_var 1) (xe_int) (fun _ _ => rfl)) (xe_str) (by first | rfl | with_unfolding_all rfl))))).pt
    (xs_one (xs_ret (xe_lst (xa_cons (xe_var 3) (xa_nil))))) xs_nil)
    (xs_cons (xs_if (xt_cmp .eq (xe_ix (xe_var 1) (xe_int) (fun _ _ => rfl)) (xe_str) (by first | rfl | with_unfolding_all rfl))
    (xs_one (xs_ret (xe_lst (xa_cons (xe_bin .sub (xe_var 3) (xe_int)) (xa_nil))))) xs_nil)
    (xs_one (xs_ret (xe_lst (xa_nil))))))))
/-! 166: _law_worth_made -/
theorem d_166 (A : Al P w K mg base n) (G : Gs w K mg) (fa : Addr) (cdv : Value) (Ar : Around) (outer : List PySem.Env) (s : Shared) (H : Hp) (E : XK) (hr : RoomG n (Ar.deeper (PyProof.Rows.envOfC "_law_worth_made" (defScope s_166) s.heap.objs.size fa cdv))) :
    PSs (cxOf CX0 P w K mg base N_166 "_law_worth_made" (defScope s_166) fa cdv Ar outer s H E).nox (defBody s_166) (trS K (run T n) b_worth_made) :=
  (xs_cons (xs_set 4 sc_166.nd (xe_ix (xe_var 3) (xe_ix (xe_var 2) (xe_int) (fun _ _ => rfl)) (fun _ _ => rfl)))
    (xs_cons (xs_if (xt_cmp .eq (xe_ix (xe_var 2) (xe_int) (fun _ _ => rfl)) (xe_str) (by first | rfl | with_unfolding_all rfl))
    (xs_one (xs_ret (xe_call A.f164 hr (by rfl) (xa_cons (xe_ix (xe_var 0) (xe_ix (xe_var 2) (xe_int) (fun _ _ => rfl)) (fun _ _ => rfl)) (xa_cons (xe_ix (xe_var 1) (xe_ix (xe_var 2) (xe_int) (fun _ _ => rfl)) (fun _ _ => rfl)) (xa_cons (xe_var 4) (xa_cons (xe_ix (xe_var 2) (xe_int) (fun _ _ => rfl)) (xa_cons (xe_ix (xe_var 2) (xe_int) (fun _ _ => rfl)) (xa_nil))))))))) xs_nil)
    (xs_cons (xs_if (xt_cmp .eq (xe_ix (xe_var 2) (xe_int) (fun _ _ => rfl)) (xe_str) (by first | rfl | with_unfolding_all rfl))
    (xs_one (xs_ret (xe_bin .add (xe_var 4) (xe_call A.f163 hr (by rfl) (xa_cons (xe_ix (xe_var 1) (xe_ix (xe_var 2) (xe_int) (fun _ _ => rfl)) (fun _ _ => rfl)) (xa_cons (xe_var 4) (xa_nil))))))) xs_nil)
    (xs_cons (xs_if (xt_cmp .eq (xe_ix (xe_var 2) (xe_int) (fun _ _ => rfl)) (xe_str) (by first | rfl | with_unfolding_all rfl))
    (xs_one (xs_ret (xe_call A.f163 hr (by rfl) (xa_cons (xe_ix (xe_var 1) (xe_ix (xe_var 2) (xe_int) (fun _ _ => rfl)) (fun _ _ => rfl)) (xa_cons (xe_var 4) (xa_nil)))))) xs_nil)
    (xs_cons (xs_if (xt_cmp .eq (xe_ix (xe_var 2) (xe_int) (fun _ _ => rfl)) (xe_str) (by first | rfl | with_unfolding_all rfl))
    (xs_one (xs_ret (xe_bin .add (xe_var 4) (xe_ix (xe_var 3) (xe_ix (xe_var 2) (xe_int) (fun _ _ => rfl)) (fun _ _ => rfl))))) xs_nil)
    (xs_cons (xs_if (xt_cmp .eq (xe_ix (xe_var 2) (xe_int) (fun _ _ => rfl)) (xe_str) (by first | rfl | with_unfolding_all rfl))
    (xs_one (xs_ret (xe_bin .sub (xe_var 4) (xe_ix (xe_var 3) (xe_ix (xe_var 2) (xe_int) (fun _ _ => rfl)) (fun _ _ => rfl))))) xs_nil)
    (xs_cons (xs_if (xt_cmp .eq (xe_ix (xe_var 2) (xe_int) (fun _ _ => rfl)) (xe_str) (by first | rfl | with_unfolding_all rfl))
    (xs_one (xs_ret (xe_bin .add (xe_var 4) (xe_ix (xe_var 2) (xe_int) (fun _ _ => rfl))))) xs_nil)
    (xs_one (xs_ret (xe_var 4))))))))))
/-! 167: _law_agree -/
theorem d_167 (A : Al P w K mg base n) (G : Gs w K mg) (fa : Addr) (cdv : Value) (Ar : Around) (outer : List PySem.Env) (s : Shared) (H : Hp) (E : XK) (hr : RoomG n (Ar.deeper (PyProof.Rows.envOfC "_law_agree" (defScope s_167) s.heap.objs.size fa cdv))) :
    PSs (cxOf CX0 P w K mg base N_167 "_law_agree" (defScope s_167) fa cdv Ar outer s H E).nox (defBody s_167) (trS K (run T n) b_agree) :=
  (xs_cons (xs_setlc (i := 3) (own := [("_law_at", 4), ("_law_shift", 5)]) rfl sc_167.nd rfl rfl (sw_true rfl rfl rfl (by decide +kernel)) (xi_seq (xe_bin .add (xe_ix (xe_var 0) (xe_int) (fun _ _ => rfl)) (xe_ix (xe_var 1) (xe_int) (fun _ _ => rfl)))) N_167 (defScope s_167) (by decide +kernel) (fun _ _ _ _ _ => (xg_tup rfl (xgs_cons (xg_name 4 sc_167.nd) (xgs_cons (xg_name 5 sc_167.nd) xgs_nil)))) (fun _ _ _ _ _ => (xts_one (xt_cmp .lt (xe_var 4) (xe_var 2) (by first | rfl | with_unfolding_all rfl)))) (fun _ _ _ _ _ => (xe_var 4)))
    (xs_cons (xs_drop (xe_append (xe_var 3) (xa_cons (xe_bin .sub (xe_blt .min_ (b_min rfl) (by rfl) G.n_min (by decide +kernel) (xa_cons (xe_bin .add (xe_var 3) (xe_lst (xa_cons (xe_var 2) (xa_nil)))) (xa_nil))) (xe_int)) (xa_nil))))
    (xs_one (xs_ret (xe_cmpd .eq hr (xe_lc (own := [("_law_at", 4)]) rfl sc_167.nd (xi_seq (xe_var 3)) N_167 (defScope s_167) (by decide +kernel) (fun _ _ _ _ _ => (xg_name 4 sc_167.nd)) (fun _ _ _ _ _ => (xts_one (xt_cmp .ne (xe_call A.f163 hr (by rfl) (xa_cons (xe_var 0) (xa_cons (xe_var 4) (xa_nil)))) (xe_call A.f163 hr (by rfl) (xa_cons (xe_var 1) (xa_cons (xe_var 4) (xa_nil)))) (by first | rfl | with_unfolding_all rfl)))) (fun _ _ _ _ _ => (xe_var 4))) (xe_lst (xa_nil)) (by first | rfl | with_unfolding_all rfl))))))
/-! 168: _law_follow -/
theorem d_168 (A : Al P w K mg base n) (G : Gs w K mg) (fa : Addr) (cdv : Value) (Ar : Around) (outer : List PySem.Env) (s : Shared) (H : Hp) (E : XK) (hr : RoomG n (Ar.deeper (PyProof.Rows.envOfC "_law_follow" (defScope s_168) s.heap.objs.size fa cdv))) :
    PSs (cxOf CX0 P w K mg base N_168 "_law_follow" (defScope s_168) fa cdv Ar outer s H E).nox (defBody s_168) (trS K (run T n) b_follow) :=
  (xs_cons (xs_asg (xe_tup (xa_cons (xe_bty .list_ b_list (by rfl) G.n_list (by decide +kernel) (xa_cons (xe_ix (xe_var 2) (xe_int) (fun _ _ => rfl)) (xa_nil))) (xa_cons (xe_dct0) (xa_cons (xe_lst (xa_cons (xe_var 3) (xa_nil))) (xa_cons (xe_lst (xa_nil)) (xa_nil)))))) (xg_tup rfl (xgs_cons (xg_name 4 sc_168.nd) (xgs_cons (xg_name 5 sc_168.nd) (xgs_cons (xg_name 6 sc_168.nd) (xgs_cons (xg_name 7 sc_168.nd) xgs_nil))))))
    (xs_cons (xs_for PassesOwn.never rfl (xi_range1 (by rfl) G.n_range (xa_cons (xe_blt .len b_len (by rfl) G.n_len (by decide +kernel) (xa_cons (xe_var 1) (xa_nil))) (xa_nil))) (xg_name 8 sc_168.nd)
    (xs_cons (xs_set 9 sc_168.nd (xe_ix (xe_var 1) (xe_var 8) (fun _ _ => rfl)))
    (xs_cons (xs_for PassesOwn.never rfl (xi_seq (xe_call A.f165 hr (by rfl) (xa_cons (xe_var 0) (xa_cons (xe_var 9) (xa_cons (xe_var 6) (xa_nil)))))) (xg_name 10 sc_168.nd)
    (xs_cons (xs_set 12 sc_168.nd (xe_bty .int_ b_int (by rfl) G.n_int (by decide +kernel) (xa_cons (xe_and (xe_din hr (xe_ix (xe_var 9) (xe_int) (fun _ _ => rfl)) (xe_var 5) (by first | rfl | with_unfolding_all rfl)) (xe_one (xe_cmp .ge (xe_var 10) (xe_dget hr (xe_var 5) (xe_ix (xe_var 9) (xe_int) (fun _ _ => rfl)) (fun _ _ => rfl)) (by first | rfl | with_unfolding_all rfl)))) (xa_nil))))
    (xs_cons (xs_set 13 sc_168.nd (xe_tup (xa_cons (xe_ix (xe_var 9) (xe_int) (fun _ _ => rfl)) (xa_cons (xe_var 12) (xa_cons (xe_bin .sub (xe_var 10) (xe_var 3)) (xa_cons (xe_call A.f163 hr (by rfl) (xa_cons (xe_ix (xe_var 4) (xe_ix (xe_var 9) (xe_int) (fun _ _ => rfl)) (fun _ _ => rfl)) (xa_cons (xe_var 10) (xa_nil)))) (xa_nil)))))))
    (xs_one (xs_if (xt_cmpd .notin hr (xe_var 13) (xe_var 7) (by first | rfl | with_unfolding_all rfl))
    (xs_one (xs_drop (xe_append (xe_var 7) (xa_cons (xe_var 13) (xa_nil))))) xs_nil)))))
    (xs_cons (xs_if (xt_cmp .eq (xe_ix (xe_var 9) (xe_int) (fun _ _ => rfl)) (xe_str) (by first | rfl | with_unfolding_all rfl))
    (xs_cons (xs_if (xt_not (xt_truth (xe_call A.f167 hr (by rfl) (xa_cons (xe_ix (xe_var 4) (xe_ix (xe_var 9) (xe_int) (fun _ _ => rfl)) (fun _ _ => rfl)) (xa_cons (xe_ix (xe_ix (xe_var 2) (xe_int) (fun _ _ => rfl)) (xe_ix (xe_var 9) (xe_int) (fun _ _ => rfl)) (fun _ _ => rfl)) (xa_cons (xe_ix (xe_var 6) (xe_ix (xe_var 9) (xe_int) (fun _ _ => rfl)) (fun _ _ => rfl)) (xa_nil))))) (fun _ => rfl)))
    (xs_one (xs_ret (xe_non))) xs_nil)
    (xs_cons (xs_setix (xe_ix (xe_var 6) (xe_ix (xe_var 9) (xe_int) (fun _ _ => rfl)) (fun _ _ => rfl)) (xe_var 5) (xe_ix (xe_var 9) (xe_int) (fun _ _ => rfl)))
    (xs_one (xs_setix (xe_ix (xe_ix (xe_var 2) (xe_int) (fun _ _ => rfl)) (xe_ix (xe_var 9) (xe_int) (fun _ _ => rfl)) (fun _ _ => rfl)) (xe_var 4) (xe_ix (xe_var 9) (xe_int) (fun _ _ => rfl)))))) xs_nil)
    (xs_cons (xs_set 11 sc_168.nd (xe_call A.f166 hr (by rfl) (xa_cons (xe_var 0) (xa_cons (xe_var 4) (xa_cons (xe_var 9) (xa_cons (xe_var 6) (xa_nil)))))))
    (xs_cons (xs_if (xt_cmp .is_ (xe_var 11) (xe_non) (by first | rfl | with_unfolding_all rfl))
    (xs_one (xs_ret (xe_tup (xa_cons (xe_var 7) (xa_cons (xe_var 6) (xa_cons (xe_var 8) (xa_nil))))))) xs_nil)
    (xs_one (xs_drop (xe_append (xe_var 6) (xa_cons (xe_var 11) (xa_nil)))))))))))
    (xs_one (xs_ret (xe_tup (xa_cons (xe_var 7) (xa_cons (xe_var 6) (xa_cons (xe_non) (xa_nil)))))))))
/-! 169: _law_any_chart -/
theorem d_169 (A : Al P w K mg base n) (G : Gs w K mg) (fa : Addr) (cdv : Value) (Ar : Around) (outer : List PySem.Env) (s : Shared) (H : Hp) (E : XK) (hr : RoomG n (Ar.deeper (PyProof.Rows.envOfC "_law_any_chart" (defScope s_169) s.heap.objs.size fa cdv))) :
    PSs (cxOf CX0 P w K mg base N_169 "_law_any_chart" (defScope s_169) fa cdv Ar outer s H E).nox (defBody s_169) (trS K (run T n) b_any_chart) :=
  (xs_cons (xs_asg (xe_var 1) (xg_tup rfl (xgs_cons (xg_name 3 sc_169.nd) (xgs_cons (xg_name 4 sc_169.nd) xgs_nil))))
    (xs_cons (xs_set 5 sc_169.nd (xe_ix (xe_var 3) (xe_call A.f99 hr (by rfl) (xa_cons (xe_var 0) (xa_cons (xe_blt .len b_len (by rfl) G.n_len (by decide +kernel) (xa_cons (xe_var 3) (xa_nil))) (xa_nil)))) (fun _ _ => rfl)))
    (xs_cons (xs_set 6 sc_169.nd (xe_var 5))
    (xs_cons (xs_set 7 sc_169.nd (xe_ix (xe_lst (xa_cons (xe_int) (xa_cons (xe_int) (xa_cons (xe_bin .sub (xe_bin .add (xe_int) (xe_ix (xe_var 3) (xe_neg (xe_int)) (fun _ _ => rfl))) (xe_ix (xe_var 3) (xe_int) (fun _ _ => rfl))) (xa_cons (xe_int) (xa_cons (xe_bin .mul (xe_int) (xe_var 4)) (xa_cons (xe_int) (xa_nil)))))))) (xe_call A.f99 hr (by rfl) (xa_cons (xe_var 0) (xa_cons (xe_int) (xa_nil)))) (fun _ _ => rfl)))
    (xs_cons (xs_set 8 sc_169.nd (xe_bin .sub (xe_bin .sub (xe_bin .add (xe_var 2) (xe_call A.f99 hr (by rfl) (xa_cons (xe_var 0) (xa_cons (xe_bin .add (xe_bin .mul (xe_int) (xe_var 7)) (xe_int)) (xa_nil))))) (xe_var 7)) (xe_bin .mul (xe_var 4) (xe_call A.f99 hr (by rfl) (xa_cons (xe_var 0) (xa_cons (xe_int) (xa_nil)))))))
    (xs_cons (xs_set 9 sc_169.nd (xe_lst (xa_nil)))
    (xs_cons (xs_for PassesOwn.never rfl (xi_range1 (by rfl) G.n_range (xa_cons (xe_bin .mul (xe_ix (xe_lst (xa_cons (xe_int) (xa_cons (xe_int) (xa_cons (xe_int) (xa_cons (xe_int) (xa_cons (xe_int) (xa_cons (xe_int) (xa_cons (xe_int) (xa_cons (xe_int) (xa_nil)))))))))) (xe_call A.f99 hr (by rfl) (xa_cons (xe_var 0) (xa_cons (xe_int) (xa_nil)))) (fun _ _ => rfl)) (xe_bty .int_ b_int (by rfl) G.n_int (by decide +kernel) (xa_cons (xe_cmp .gt (xe_blt .len b_len (by rfl) G.n_len (by decide +kernel) (xa_cons (xe_var 3) (xa_nil))) (xe_int) (by first | rfl | with_unfolding_all rfl)) (xa_nil)))) (xa_nil))) (xg_name 10 sc_169.nd)
    (xs_cons (xs_setlc (i := 11) (own := [("_law_shift", 12)]) rfl sc_169.nd rfl rfl (sw_true rfl rfl rfl (by decide +kernel)) (xi_seq (xe_var 3)) N_169 (defScope s_169) (by decide +kernel) (fun _ _ _ _ _ => (xg_name 12 sc_169.nd)) (fun _ _ _ _ _ => (xts_one (xt_cmp .ne (xe_var 12) (xe_var 5) (by first | rfl | with_unfolding_all rfl)))) (fun _ _ _ _ _ => (xe_var 12)))
    (xs_cons (xs_set 5 sc_169.nd (xe_ix (xe_var 11) (xe_call A.f99 hr (by rfl) (xa_cons (xe_var 0) (xa_cons (xe_blt .len b_len (by rfl) G.n_len (by decide +kernel) (xa_cons (xe_var 11) (xa_nil))) (xa_nil)))) (fun _ _ => rfl)))
    (xs_cons (xs_drop (xe_append (xe_var 9) (xa_cons (xe_tup (xa_cons (xe_var 8) (xa_cons (xe_var 5) (xa_nil)))) (xa_nil))))
    (xs_one (xs_set 8 sc_169.nd (xe_bin .add (xe_bin .add (xe_var 8) (xe_var 4)) (xe_ix (xe_lst (xa_cons (xe_int) (xa_cons (xe_int) (xa_cons (xe_int) (xa_cons (xe_call A.f99 hr (by rfl) (xa_cons (xe_var 0) (xa_cons (xe_int) (xa_nil)))) (xa_nil)))))) (xe_call A.f99 hr (by rfl) (xa_cons (xe_var 0) (xa_cons (xe_int) (xa_nil)))) (fun _ _ => rfl)))))))))
    (xs_one (xs_ret (xe_tup (xa_cons (xe_var 6) (xa_cons (xe_bty .tuple_ b_tuple (by rfl) G.n_tuple (by decide +kernel) (xa_cons (xe_var 9) (xa_nil))) (xa_nil)))))))))))))
/-! 170: _law_any_later -/
theorem d_170 (A : Al P w K mg base n) (G : Gs w K mg) (fa : Addr) (cdv : Value) (Ar : Around) (outer : List PySem.Env) (s : Shared) (H : Hp) (E : XK) (hr : RoomG n (Ar.deeper (PyProof.Rows.envOfC "_law_any_later" (defScope s_170) s.heap.objs.size fa cdv))) :
    PSs (cxOf CX0 P w K mg base N_170 "_law_any_later" (defScope s_170) fa cdv Ar outer s H E).nox (defBody s_170) (trS K (run T n) b_any_later) :=
  (xs_cons (xs_setlc (i := 4) (own := [("_law_jump", 5)]) rfl sc_170.nd rfl rfl (sw_true rfl rfl rfl (by decide +kernel)) (xi_seq (xe_ix (xe_var 2) (xe_int) (fun _ _ => rfl))) N_170 (defScope s_170) (by decide +kernel) (fun _ _ _ _ _ => (xg_name 5 sc_170.nd)) (fun _ _ _ _ _ => (xts_one (xt_cmp .lt (xe_ix (xe_var 5) (xe_int) (fun _ _ => rfl)) (xe_var 3) (by first | rfl | with_unfolding_all rfl)))) (fun _ _ _ _ _ => (xe_var 5)))
    (xs_cons (xs_asg (xe_tup (xa_cons (xe_ix (xe_var 2) (xe_int) (fun _ _ => rfl)) (xa_cons (xe_var 3) (xa_nil)))) (xg_tup rfl (xgs_cons (xg_name 6 sc_170.nd) (xgs_cons (xg_name 7 sc_170.nd) xgs_nil))))
    (xs_cons (xs_if (xt_cmpd .ne hr (xe_var 4) (xe_lst (xa_nil)) (by first | rfl | with_unfolding_all rfl))
    (xs_one (xs_asg (xe_tup (xa_cons (xe_ix (xe_ix (xe_var 4) (xe_neg (xe_int)) (fun _ _ => rfl)) (xe_int) (fun _ _ => rfl)) (xa_cons (xe_blt .max_ (b_max rfl) (by rfl) G.n_max (by decide +kernel) (xa_cons (xe_var 3) (xa_cons (xe_bin .add (xe_ix (xe_ix (xe_var 4) (xe_neg (xe_int)) (fun _ _ => rfl)) (xe_int) (fun _ _ => rfl)) (xe_ix (xe_var 1) (xe_int) (fun _ _ => rfl))) (xa_nil)))) (xa_nil)))) (xg_tup rfl (xgs_cons (xg_name 6 sc_170.nd) (xgs_cons (xg_name 7 sc_170.nd) xgs_nil))))) xs_nil)
    (xs_cons (xs_set 7 sc_170.nd (xe_bin .add (xe_var 7) (xe_ix (xe_lst (xa_cons (xe_int) (xa_cons (xe_int) (xa_cons (xe_int) (xa_cons (xe_int) (xa_cons (xe_call A.f99 hr (by rfl) (xa_cons (xe_var 0) (xa_cons (xe_int) (xa_nil)))) (xa_nil))))))) (xe_call A.f99 hr (by rfl) (xa_cons (xe_var 0) (xa_cons (xe_int) (xa_nil)))) (fun _ _ => rfl))))
    (xs_cons (xs_for PassesOwn.never rfl (xi_range1 (by rfl) G.n_range (xa_cons (xe_bin .mul (xe_call A.f99 hr (by rfl) (xa_cons (xe_var 0) (xa_cons (xe_int) (xa_nil)))) (xe_bty .int_ b_int (by rfl) G.n_int (by decide +kernel) (xa_cons (xe_cmp .gt (xe_blt .len b_len (by rfl) G.n_len (by decide +kernel) (xa_cons (xe_ix (xe_var 1) (xe_int) (fun _ _ => rfl)) (xa_nil))) (xe_int) (by first | rfl | with_unfolding_all rfl)) (xa_nil)))) (xa_nil))) (xg_name 8 sc_170.nd)
    (xs_cons (xs_setlc (i := 9) (own := [("_law_shift", 10)]) rfl sc_170.nd rfl rfl (sw_true rfl rfl rfl (by decide +kernel)) (xi_seq (xe_ix (xe_var 1) (xe_int) (fun _ _ => rfl))) N_170 (defScope s_170) (by decide +kernel) (fun _ _ _ _ _ => (xg_name 10 sc_170.nd)) (fun _ _ _ _ _ => (xts_one (xt_cmp .ne (xe_var 10) (xe_var 6) (by first | rfl | with_unfolding_all rfl)))) (fun _ _ _ _ _ => (xe_var 10)))
    (xs_cons (xs_set 6 sc_170.nd (xe_ix (xe_var 9) (xe_call A.f99 hr (by rfl) (xa_cons (xe_var 0) (xa_cons (xe_blt .len b_len (by rfl) G.n_len (by decide +kernel) (xa_cons (xe_var 9) (xa_nil))) (xa_nil)))) (fun _ _ => rfl)))
    (xs_cons (xs_drop (xe_append (xe_var 4) (xa_cons (xe_tup (xa_cons (xe_var 7) (xa_cons (xe_var 6) (xa_nil)))) (xa_nil))))
    (xs_one (xs_set 7 sc_170.nd (xe_bin .add (xe_bin .add (xe_var 7) (xe_ix (xe_var 1) (xe_int) (fun _ _ => rfl))) (xe_ix (xe_lst (xa_cons (xe_int) (xa_cons (xe_int) (xa_cons (xe_int) (xa_cons (xe_call A.f99 hr (by rfl) (xa_cons (xe_var 0) (xa_cons (xe_int) (xa_nil)))) (xa_nil)))))) (xe_call A.f99 hr (by rfl) (xa_cons (xe_var 0) (xa_cons (xe_int) (xa_nil)))) (fun _ _ => rfl)))))))))
    (xs_one (xs_ret (xe_tup (xa_cons (xe_ix (xe_var 2) (xe_int) (fun _ _ => rfl)) (xa_cons (xe_bty .tuple_ b_tuple (by rfl) G.n_tuple (by decide +kernel) (xa_cons (xe_var 4) (xa_nil))) (xa_nil)))))))))))
/-! 171: _law_any_origin -/
theorem d_171 (A : Al P w K mg base n) (G : Gs w K mg) (fa : Addr) (cdv : Value) (Ar : Around) (outer : List PySem.Env) (s : Shared) (H : Hp) (E : XK) (hr : RoomG n (Ar.deeper (PyProof.Rows.envOfC "_law_any_origin" (defScope s_171) s.heap.objs.size fa cdv))) :
    PSs (cxOf CX0 P w K mg base N_171 "_law_any_origin" (defScope s_171) fa cdv Ar outer s H E).nox (defBody s_171) (trS K (run T n) b_any_origin) :=
  (xs_cons (xs_set 1 sc_171.nd (xe_bin .sub (xe_call A.f99 hr (by rfl) (xa_cons (xe_var 0) (xa_cons (xe_int) (xa_nil)))) (xe_int)))
    (xs_one (xs_ret (xe_ix (xe_lst (xa_cons (xe_int) (xa_cons (xe_var 1) (xa_cons (xe_bin .sub (xe_call A.f99 hr (by rfl) (xa_cons (xe_var 0) (xa_cons (xe_int) (xa_nil)))) (xe_int)) (xa_cons (xe_var 1) (xa_nil)))))) (xe_call A.f99 hr (by rfl) (xa_cons (xe_var 0) (xa_cons (xe_int) (xa_nil)))) (fun _ _ => rfl)))))
/-! 172: _law_any_earth -/
theorem d_172 (A : Al P w K mg base n) (G : Gs w K mg) (fa : Addr) (cdv : Value) (Ar : Around) (outer : List PySem.Env) (s : Shared) (H : Hp) (E : XK) (hr : RoomG n (Ar.deeper (PyProof.Rows.envOfC "_law_any_earth" (defScope s_172) s.heap.objs.size fa cdv))) :
    PSs (cxOf CX0 P w K mg base N_172 "_law_any_earth" (defScope s_172) fa cdv Ar outer s H E).nox (defBody s_172) (trS K (run T n) b_any_earth) :=
  (xs_cons (xs_setlc (i := 5) (own := [("_law_belt", 6)]) rfl sc_172.nd rfl rfl (sw_true rfl rfl rfl (by decide +kernel)) (xi_seq (xe_var 1)) N_172 (defScope s_172) (by decide +kernel) (fun _ _ _ _ _ => (xg_name 6 sc_172.nd)) (fun _ _ _ _ _ => xts_nil) (fun _ _ _ _ _ => (xe_call A.f169 hr (by rfl) (xa_cons (xe_var 0) (xa_cons (xe_var 6) (xa_cons (xe_var 3) (xa_nil)))))))
    (xs_cons (xs_setlc (i := 7) (own := [("_law_belt", 6)]) rfl sc_172.nd rfl rfl (sw_true rfl rfl rfl (by decide +kernel)) (xi_seq (xe_var 1)) N_172 (defScope s_172) (by decide +kernel) (fun _ _ _ _ _ => (xg_name 6 sc_172.nd)) (fun _ _ _ _ _ => xts_nil) (fun _ _ _ _ _ => (xe_call A.f169 hr (by rfl) (xa_cons (xe_var 0) (xa_cons (xe_var 6) (xa_cons (xe_var 3) (xa_nil)))))))
    (xs_cons (xs_setlc (i := 8) (own := [("_law_k", 9)]) rfl sc_172.nd rfl rfl (sw_true rfl rfl rfl (by decide +kernel)) (xi_range1 (by rfl) G.n_range (xa_cons (xe_blt .len b_len (by rfl) G.n_len (by decide +kernel) (xa_cons (xe_var 2) (xa_nil))) (xa_nil))) N_172 (defScope s_172) (by decide +kernel) (fun _ _ _ _ _ => (xg_name 9 sc_172.nd)) (fun _ _ _ _ _ => (xts_one (xt_cmp .eq (xe_ix (xe_ix (xe_var 2) (xe_var 9) (fun _ _ => rfl)) (xe_int) (fun _ _ => rfl)) (xe_str) (by first | rfl | with_unfolding_all rfl)))) (fun _ _ _ _ _ => (xe_var 9)))
    (xs_cons (xs_if (xt_cmpd .ne hr (xe_var 8) (xe_lst (xa_nil)) (by first | rfl | with_unfolding_all rfl))
    (xs_cons (xs_set 10 sc_172.nd (xe_ix (xe_var 2) (xe_ix (xe_var 8) (xe_int) (fun _ _ => rfl)) (fun _ _ => rfl)))
    (xs_cons (xs_set 11 sc_172.nd (xe_ix (xe_call A.f168 hr (by rfl) (xa_cons (xe_var 1) (xa_cons (xe_sl (xe_var 2) xo_none (xo_some (xe_ix (xe_var 8) (xe_int) (fun _ _ => rfl)))) (xa_cons (xe_tup (xa_cons (xe_var 5) (xa_cons (xe_var 5) (xa_nil)))) (xa_cons (xe_var 3) (xa_nil)))))) (xe_int) (fun _ _ => rfl)))
    (xs_one (xs_if (xt_cmp .lt (xe_ix (xe_var 10) (xe_int) (fun _ _ => rfl)) (xe_blt .len b_len (by rfl) G.n_len (by decide +kernel) (xa_cons (xe_var 11) (xa_nil))) (by first | rfl | with_unfolding_all rfl))
    (xs_one (xs_setix (xe_call A.f170 hr (by rfl) (xa_cons (xe_var 0) (xa_cons (xe_ix (xe_var 1) (xe_ix (xe_var 10) (xe_int) (fun _ _ => rfl)) (fun _ _ => rfl)) (xa_cons (xe_ix (xe_var 5) (xe_ix (xe_var 10) (xe_int) (fun _ _ => rfl)) (fun _ _ => rfl)) (xa_cons (xe_bin .add (xe_ix (xe_var 11) (xe_ix (xe_var 10) (xe_int) (fun _ _ => rfl)) (fun _ _ => rfl)) (xe_var 4)) (xa_nil)))))) (xe_var 7) (xe_ix (xe_var 10) (xe_int) (fun _ _ => rfl)))) xs_nil)))) xs_nil)
    (xs_one (xs_ret (xe_tup (xa_cons (xe_bty .tuple_ b_tuple (by rfl) G.n_tuple (by decide +kernel) (xa_cons (xe_var 5) (xa_nil))) (xa_cons (xe_bty .tuple_ b_tuple (by rfl) G.n_tuple (by decide +kernel) (xa_cons (xe_var 7) (xa_nil))) (xa_nil))))))))))
/-! 173: law -/
theorem d_173 (A : Al P w K mg base n) (G : Gs w K mg) (fa : Addr) (cdv : Value) (Ar : Around) (outer : List PySem.Env) (s : Shared) (H : Hp) (E : XK) (hr : RoomG n (Ar.deeper (PyProof.Rows.envOfC "law" (defScope s_173) s.heap.objs.size fa cdv))) :
    PSs (cxOf CX0 P w K mg base N_173 "law" (defScope s_173) fa cdv Ar outer s H E).nox (defBody s_173) (trS K (run T n) b_law_k22) :=
  (xs_cons (xs_for PassesOwn.never rfl (xi_seq (xe_bin .add (xe_lst (xa_cons (xe_int) (xa_nil))) (xe_sl (xe_var 0) xo_none (xo_some (xe_int))))) (xg_name 1 sc_173.nd)
    (xs_cons (xs_set 2 sc_173.nd (xe_call A.f98 hr (by rfl) (xa_cons (xe_var 1) (xa_nil))))
    (xs_cons (xs_set 3 sc_173.nd (xe_call A.f101 hr (by rfl) (xa_cons (xe_var 2) (xa_cons (xe_int) (xa_nil)))))
    (xs_cons (xs_set 4 sc_173.nd (xe_call A.f162 hr (by rfl) (xa_cons (xe_var 2) (xa_cons (xe_var 3) (xa_cons (xe_int) (xa_cons (xe_lst (xa_cons (xe_int) (xa_cons (xe_int) (xa_cons (xe_int) (xa_cons (xe_int) (xa_nil)))))) (xa_nil)))))))
    (xs_cons (xs_set 5 sc_173.nd (xe_call A.f171 hr (by rfl) (xa_cons (xe_var 2) (xa_nil))))
    (xs_cons (xs_set 6 sc_173.nd (xe_call A.f172 hr (by rfl) (xa_cons (xe_var 2) (xa_cons (xe_var 3) (xa_cons (xe_var 4) (xa_cons (xe_var 5) (xa_cons (xe_int) (xa_nil))))))))
    (xs_cons (xs_set 7 sc_173.nd (xe_ix (xe_call A.f168 hr (by rfl) (xa_cons (xe_var 3) (xa_cons (xe_var 4) (xa_cons (xe_var 6) (xa_cons (xe_var 5) (xa_nil)))))) (xe_int) (fun _ _ => rfl)))
    (xs_cons (xs_set 8 sc_173.nd (xe_callP (cs := (.cons (.var 3) (.cons (.var 4) (.cons (.var 6) (.cons (.var 5) (.nil)))))) A.f156 [] 4 1 (List.cons_ne_nil _ _) (fun _ _ => .nil) rfl (fun _ _ _ _ _ _ _ us its h1 h2 => match us, its, h1, h2 with | [_, _, _, _], [_], _, _ => ⟨_, rfl, rfl⟩) rfl hr (by rfl) (xa_cons (xe_var 3) (xa_cons (xe_var 4) (xa_cons (xe_var 6) (xa_cons (xe_var 5) (xa_nil)))))))
    (xs_cons (xs_if (xt_not (xt_truth (xe_call A.f102 hr (by rfl) (xa_cons (xe_var 8) (xa_cons (xe_var 7) (xa_nil)))) (fun _ => rfl)))
    (xs_one (xs_ret (xe_bl))) xs_nil)
    (xs_cons (xs_drop (xe_clear (xe_var 8)))
    (xs_cons (xs_if (xt_not (xt_truth (xe_call A.f102 hr (by rfl) (xa_cons (xe_callP (cs := (.cons (.var 3) (.cons (.var 4) (.cons (.var 6) (.cons (.bin .add (.var 5) (.c (.int 1))) (.nil)))))) A.f156 [] 4 1 (List.cons_ne_nil _ _) (fun _ _ => .nil) rfl (fun _ _ _ _ _ _ _ us its h1 h2 => match us, its, h1, h2 with | [_, _, _, _], [_], _, _ => ⟨_, rfl, rfl⟩) rfl hr (by rfl) (xa_cons (xe_var 3) (xa_cons (xe_var 4) (xa_cons (xe_var 6) (xa_cons (xe_bin .add (xe_var 5) (xe_int)) (xa_nil)))))) (xa_cons (xe_ix (xe_call A.f168 hr (by rfl) (xa_cons (xe_var 3) (xa_cons (xe_var 4) (xa_cons (xe_var 6) (xa_cons (xe_bin .add (xe_var 5) (xe_int)) (xa_nil)))))) (xe_int) (fun _ _ => rfl)) (xa_nil)))) (fun _ => rfl)))
    (xs_one (xs_ret (xe_bl))) xs_nil)
    (xs_cons (xs_if (xt_not (xt_truth (xe_call A.f102 hr (by rfl) (xa_cons (xe_callP (cs := (.cons (.var 3) (.cons (.var 4) (.cons (.var 6) (.nil))))) A.f156 [D.int 0] 3 0 (List.cons_ne_nil _ _) (fun _ _ => (.cons (.int _) .nil)) rfl (fun _ _ _ _ _ _ _ us its h1 h2 => match us, its, h1, h2 with | [_, _, _], [_], _, _ => ⟨_, rfl, rfl⟩) rfl hr (by rfl) (xa_cons (xe_var 3) (xa_cons (xe_var 4) (xa_cons (xe_var 6) (xa_nil))))) (xa_cons (xe_ix (xe_call A.f168 hr (by rfl) (xa_cons (xe_var 3) (xa_cons (xe_var 4) (xa_cons (xe_var 6) (xa_cons (xe_int) (xa_nil)))))) (xe_int) (fun _ _ => rfl)) (xa_nil)))) (fun _ => rfl)))
    (xs_one (xs_ret (xe_bl))) xs_nil)
    (xs_one (xs_if (xt_not (xt_truth (xe_call A.f102 hr (by rfl) (xa_cons (xe_callP (cs := (.cons (.var 3) (.cons (.var 4) (.cons (.var 6) (.cons (.var 5) (.nil)))))) A.f156 [] 4 1 (List.cons_ne_nil _ _) (fun _ _ => .nil) rfl (fun _ _ _ _ _ _ _ us its h1 h2 => match us, its, h1, h2 with | [_, _, _, _], [_], _, _ => ⟨_, rfl, rfl⟩) rfl hr (by rfl) (xa_cons (xe_var 3) (xa_cons (xe_var 4) (xa_cons (xe_var 6) (xa_cons (xe_var 5) (xa_nil)))))) (xa_cons (xe_var 7) (xa_nil)))) (fun _ => rfl)))
    (xs_one (xs_ret (xe_bl))) xs_nil))))))))))))))
    (xs_one (xs_ret (xe_bl))))
end

end Lw
namespace Lw
open PySem L2 Ix
/-! ### zones -/
def zoneD (os : List Int) (sp : Int) : D := .tup [.tup (os.map .int), .int sp]
structure Zone (os : List Int) (sp : Int) : Prop where
  len1 : 1 ≤ os.length
  len3 : os.length ≤ 3
  asc : os.Pairwise (· < ·)
  lo : ∀ x ∈ os, -900 ≤ x
  hi : ∀ x ∈ os, x ≤ 900
  gap : ∀ x ∈ os, ∀ y ∈ os, y - x < sp
  top : sp ≤ 1000000
theorem ends {os : List Int} (h1 : 1 ≤ os.length) (h3 : os.length ≤ 3) (ha : os.Pairwise (· < ·)) :
    ∃ a b, a ∈ os ∧ b ∈ os ∧ atI (os.map D.int) 0 = some (.int a) ∧ atI (os.map D.int) (-1) = some (.int b) ∧ ∀ x ∈ os, a ≤ x ∧ x ≤ b := by
  match os, h1, h3, ha with
  | [x], _, _, _ => exact ⟨x, x, by simp, by simp, rfl, rfl, by simp⟩
  | [x, y], _, _, ha =>
    simp at ha
    exact ⟨x, y, by simp, by simp, rfl, rfl, by simp; omega⟩
  | [x, y, z], _, _, ha =>
    simp at ha
    exact ⟨x, z, by simp, by simp, rfl, rfl, by simp; omega⟩
end Lw

namespace Lw
open PySem L2 Ix
/-! ### tables -/
def Adj {β : Type} (R : β → β → Prop) (l : List β) : Prop := ∀ (i : Nat) (x y : β), l[i]? = some x → l[i + 1]? = some y → R x y
theorem Adj.nil {β : Type} {R : β → β → Prop} : Adj R ([] : List β) := fun i x y h => by simp at h
theorem Adj.one {β : Type} {R : β → β → Prop} {a : β} : Adj R [a] := fun i x y _ h => by simp at h
theorem Adj.snoc {β : Type} {R : β → β → Prop} {l : List β} {b : β} (h : Adj R l) (k : ∀ x, l.getLast? = some x → R x b) : Adj R (l ++ [b]) := fun i x y h1 h2 => by
  by_cases hi : i + 1 < l.length
  · rw [List.getElem?_append_left (by omega)] at h1
    rw [List.getElem?_append_left hi] at h2
    exact h i x y h1 h2
  · by_cases hj : i + 1 = l.length
    · rw [List.getElem?_append_left (by omega)] at h1
      rw [List.getElem?_append_right (by omega), hj, Nat.sub_self] at h2
      have e : b = y := by simpa using h2
      subst e
      refine k x ?_
      rw [List.getLast?_eq_getElem?, ← hj]
      exact h1
    · rw [List.getElem?_eq_none (by simp; omega)] at h2
      cases h2
def jumpD (j : Int × Int) : D := .tup [.int j.1, .int j.2]
def chartD (off : Int) (js : List (Int × Int)) : D := .tup [.int off, .tup (js.map jumpD)]
structure Chart (os : List Int) (sp off : Int) (js : List (Int × Int)) : Prop where
  first : off ∈ os
  mem : ∀ j ∈ js, j.2 ∈ os
  far : Adj (fun x y => x + sp ≤ y) (js.map (·.1))
  alt : Adj (fun x y => x ≠ y) (off :: js.map (·.2))
theorem os_ne {os : List Int} (ha : os.Pairwise (· < ·)) {i j : Nat} {x y : Int} (h1 : os[i]? = some x) (h2 : os[j]? = some y) (h : i ≠ j) : x ≠ y := by
  rw [List.pairwise_iff_getElem] at ha
  obtain ⟨a, e1⟩ := List.getElem?_eq_some_iff.mp h1
  obtain ⟨b, e2⟩ := List.getElem?_eq_some_iff.mp h2
  rcases Nat.lt_or_gt_of_ne h with q | q
  · have := ha i j a b q
    omega
  · have := ha j i b a q
    omega
theorem atI_os {os : List Int} {a : Int} (h0 : 0 ≤ a) (h1 : a < os.length) : ∃ x, os[a.toNat]? = some x ∧ x ∈ os ∧ atI (os.map D.int) a = some (.int x) := atI_ints h0 h1
end Lw

namespace Lw
open PySem L2 Ix
/-! ### the program's tests of what is a zone, a table -/
theorem is_number_ok {n : Nat} {S : Hd} {i : Int} : Pu (run T (n + 1) 0 [.int i] S) (.bl true) S := by
  refine Pu.run T_is_number rfl ?_
  show M (ex (run T n) b_is_number [some (.int i)] S) _
  unfold b_is_number
  simp? only []
  exact ⟨trivial, Lq.refl _⟩
theorem is_pair_ok {n : Nat} {S : Hd} {a b : D} : Pu (run T (n + 1) 1 [.tup [a, b]] S) (.bl true) S := by
  refine Pu.run T_is_pair rfl ?_
  show M (ex (run T n) b_is_pair [some (.tup [a, b])] S) _
  unfold b_is_pair
  simp? only [q_len q_seqT]
  exact ⟨rfl, Lq.refl _⟩
theorem is_near_ok {n : Nat} {S : Hd} {i : Int} (h1 : -900 ≤ i) (h2 : i ≤ 900) : Pu (run T (n + 2) 4 [.int i] S) (.bl true) S := by
  refine Pu.run T_is_near rfl ?_
  show M (ex (run T (n + 1)) b_is_near [some (.int i)] S) _
  unfold b_is_near
  simp? only []
  refine is_number_ok.use fun S1 l1 => ?_
  simp? only [h1, h2, decide_true]
  exact ⟨trivial, l1⟩
theorem is_ascending_ok {n : Nat} {S : Hd} {os : List Int} (ha : os.Pairwise (· < ·)) (hz : os.length ≤ 1000) : Pu (run T (n + 1) 3 [.tup (os.map .int)] S) (.bl true) S := by
  refine Pu.run T_is_ascending rfl ?_
  show M (ex (run T n) b_is_ascending [some (.tup (os.map .int)), none, none] S) _
  unfold b_is_ascending
  simp only [ex, M_map]
  refine M_allT (S1 := S) (ds := [.tup (os.map .int), .tup ((os.map D.int).drop 1)]) (its := List.zipWith (fun a b => D.tup [a, b]) (os.map .int) ((os.map .int).drop 1)) (by decide)
    (by simp? only [cut_1]) (Lq.refl _) rfl (by have h : (1000 : Nat) < most := (by decide); simp; omega) (fun i d S2 hi l => ?_) (fun _ _ => rfl) fun S2 l => ?_
  · obtain ⟨x, y, e1, e2, rfl⟩ := zip_get hi
    refine ⟨_, rfl, ?_⟩
    simp? only [wipeD]
    refine ⟨?_, Lq.refl _⟩
    rw [List.pairwise_iff_getElem] at ha
    obtain ⟨q1, e1⟩ := List.getElem?_eq_some_iff.mp e1
    obtain ⟨q2, e2⟩ := List.getElem?_eq_some_iff.mp e2
    have := ha i (i + 1) q1 q2 (by omega)
    rw [e1, e2] at this
    simp [this]
  · simp? only []
    exact ⟨trivial, l⟩
theorem are_offsets_ok {n : Nat} {S : Hd} {os : List Int} {sp : Int} (hz : Zone os sp) : Pu (run T (n + 3) 5 [.tup (os.map .int)] S) (.bl true) S := by
  have o1 := hz.len1
  have o3 := hz.len3
  refine Pu.run T_are_offsets rfl ?_
  show M (ex (run T (n + 2)) b_are_offsets [some (.tup (os.map .int)), none] S) _
  unfold b_are_offsets
  refine seq_M (fun env S1 => env = [some (.tup (os.map .int)), none] ∧ S = S1) ?_ ?_
  · simp? only [q_len q_seqT, List.length_map, show decide ((1 : Int) ≤ (os.length : Int)) = true by simp; omega, show decide ((os.length : Int) ≤ 3) = true by simp; omega]
    exact ⟨trivial, trivial, trivial⟩
  rintro _ _ ⟨rfl, rfl⟩
  simp only [ex, M_map]
  refine M_and (M_allT (S1 := S) (ds := [.tup (os.map .int)]) (its := os.map .int) (by decide) (by simp? only []) (Lq.refl _) rfl (by have h : (1000 : Nat) < most := (by decide); simp; omega) (fun i d S2 hi l => ?_) (fun _ _ => rfl) fun S2 l => ⟨rfl, ?_⟩)
  · rw [List.getElem?_map] at hi
    cases hx : os[i]? with
    | none => rw [hx] at hi; cases hi
    | some x =>
      rw [hx] at hi
      simp only [Option.map_some, Option.some.injEq] at hi
      subst hi
      refine ⟨_, rfl, ?_⟩
      simp? only [wipeD]
      exact is_near_ok (hz.lo x (List.mem_of_getElem? hx)) (hz.hi x (List.mem_of_getElem? hx))
  · simp? only []
    refine (is_ascending_ok hz.asc (by omega)).use fun S3 l3 => ?_
    simp? only []
    exact ⟨trivial, l.trans l3⟩
theorem is_zone_ok {n : Nat} {S : Hd} {os : List Int} {sp : Int} (hz : Zone os sp) : Pu (run T (n + 4) 6 [zoneD os sp] S) (.bl true) S := by
  have o1 := hz.len1
  have o3 := hz.len3
  refine Pu.run T_is_zone rfl ?_
  show M (ex (run T (n + 3)) b_is_zone [some (zoneD os sp), none, none] S) _
  unfold b_is_zone zoneD
  refine seq_M (fun env S1 => env = [some (.tup [.tup (os.map .int), .int sp]), none, none] ∧ Lq S S1) ?_ ?_
  · refine ite_M ?_
    simp? only []
    refine is_pair_ok.use fun S1 l1 => ?_
    simp? only []
    exact ⟨trivial, trivial, l1⟩
  rintro _ S1 ⟨rfl, l1⟩
  refine seq_M (fun env S2 => env = [some (.tup [.tup (os.map .int), .int sp]), some (.tup (os.map .int)), some (.int sp)] ∧ S1 = S2) ?_ ?_
  · simp? only []
    exact ⟨trivial, trivial, trivial⟩
  rintro _ _ ⟨rfl, rfl⟩
  refine seq_M (fun env S2 => env = [some (.tup [.tup (os.map .int), .int sp]), some (.tup (os.map .int)), some (.int sp)] ∧ Lq S S2) ?_ ?_
  · refine ite_M ?_
    simp? only []
    refine (are_offsets_ok hz).use fun S2 l2 => ?_
    simp? only []
    refine is_number_ok.use fun S3 l3 => ?_
    simp? only []
    exact ⟨trivial, trivial, l1.trans (l2.trans l3)⟩
  rintro _ S2 ⟨rfl, l2⟩
  obtain ⟨a, b, ha, hb, e0, e1, hab⟩ := ends o1 o3 hz.asc
  have g := hz.gap a ha b hb
  have t := hz.top
  simp? only [e0, e1, show decide (b - a < sp) = true by simpa using g, show decide (sp ≤ 1000000) = true by simpa using t]
  exact ⟨trivial, l2⟩
theorem check_number_ok {n : Nat} {S : Hd} {i : Int} : Pu (run T (n + 2) 2 [.int i] S) .non S := by
  refine Pu.run T_check_number rfl ?_
  show M (ex (run T (n + 1)) b_check_number [some (.int i)] S) _
  unfold b_check_number
  refine ite_M ?_
  simp? only []
  refine is_number_ok.use fun S1 l1 => ?_
  simp? only []
  exact ⟨trivial, l1⟩
end Lw

namespace Lw
open PySem L2 Ix
theorem most_big : (1000 : Nat) < most := by decide
theorem Chart.ns {os : List Int} {sp off : Int} {js : List (Int × Int)} : True := trivial
theorem is_offset_ok {n : Nat} {S : Hd} {os : List Int} {sp v : Int} (hv : v ∈ os) : Pu (run T (n + 2) 9 [zoneD os sp, .int v] S) (.bl true) S := by
  refine Pu.run T_is_offset rfl ?_
  show M (ex (run T (n + 1)) b_is_offset [some (zoneD os sp), some (.int v)] S) _
  unfold b_is_offset zoneD
  simp? only []
  refine is_number_ok.use fun S1 l1 => ?_
  have h1 : (os.map D.int).all flat = true := by simp [flat]
  have h2 : ((os.map D.int).any fun z => eqF z (.int v)) = true := by
    rw [List.any_eq_true]
    exact ⟨.int v, List.mem_map_of_mem hv, by simp [eqF]⟩
  simp? only [q_in (x := .int v) rfl (q_seqT (xs := os.map .int)) h1, h2]
  exact ⟨trivial, l1⟩
theorem is_mark_ok {n : Nat} {S : Hd} {os : List Int} {sp : Int} {j : Int × Int} (hv : j.2 ∈ os) : Pu (run T (n + 3) 10 [zoneD os sp, jumpD j] S) (.bl true) S := by
  refine Pu.run T_is_mark rfl ?_
  show M (ex (run T (n + 2)) b_is_mark [some (zoneD os sp), some (jumpD j)] S) _
  unfold b_is_mark jumpD
  simp? only []
  refine is_pair_ok.use fun S1 l1 => ?_
  simp? only []
  refine is_number_ok.use fun S2 l2 => ?_
  simp? only []
  refine (is_offset_ok hv).use fun S3 l3 => ?_
  simp? only []
  exact ⟨trivial, l1.trans (l2.trans l3)⟩
theorem are_marks_ok {n : Nat} {S : Hd} {os : List Int} {sp : Int} {js : List (Int × Int)} (hv : ∀ j ∈ js, j.2 ∈ os) (hz : js.length ≤ 900) : Pu (run T (n + 4) 11 [zoneD os sp, .tup (js.map jumpD)] S) (.bl true) S := by
  refine Pu.run T_are_marks rfl ?_
  show M (ex (run T (n + 3)) b_are_marks [some (zoneD os sp), some (.tup (js.map jumpD)), none] S) _
  unfold b_are_marks
  simp only [ex, M_map]
  refine M_and (M.imp (P := fun x => x = (.bl true, S)) (by simp? only []) ?_)
  rintro _ rfl
  refine ⟨rfl, ?_⟩
  refine M_allT (S1 := S) (ds := [.tup (js.map jumpD)]) (its := js.map jumpD) (by decide) (by simp? only []) (Lq.refl _) rfl (by have := most_big; simp; omega) (fun i d S2 hi l => ?_) (fun _ _ => rfl) fun S2 l => ?_
  · rw [List.getElem?_map] at hi
    cases hx : js[i]? with
    | none => rw [hx] at hi; cases hi
    | some x =>
      rw [hx] at hi
      simp only [Option.map_some, Option.some.injEq] at hi
      subst hi
      refine ⟨_, rfl, ?_⟩
      simp? only [wipeD]
      exact is_mark_ok (hv x (List.mem_of_getElem? hx))
  · simp? only []
    exact ⟨trivial, l⟩
/-- one of the two numbers of each jump -/
theorem M_proj {Γ : Fs} {iv ov : Nat} {c : Int} {f : Int × Int → Int} {env : Sl} {S : Hd} {js : List (Int × Int)} {Q : D × Hd → Prop} (hi : env[iv]? = some (some (.tup (js.map jumpD)))) (ho : ov < env.length) (hz : js.length ≤ 900)
    (hf : ∀ j : Int × Int, atI [D.int j.1, D.int j.2] c = some (.int (f j))) (hq : ∀ (j : Nat) (S2 : Hd), S2[j]? = some (.lst ((js.map f).map .int)) → Lq S S2 → Q (.ref j, S2)) :
    M (ev Γ (.lc .seq (.cons (.var iv) .nil) (.name ov) (.c (.bl true)) (.ix (.var ov) (.c (.int c))) [ov]) env S) Q := by
  refine M_lc (S1 := S) (ds := [.tup (js.map jumpD)]) (its := js.map jumpD) (fun i => .int (f (js[i]?.getD (0, 0)))) (by simp [gOk]) (by simp only [ev, hi, Option.bind_some, argsOf, Option.map_some]) rfl (by have := most_big; simp; omega) (fun i d S2 hi l => ?_) (fun _ _ => rfl) fun j S2 hj hg l => ?_
  · rw [List.getElem?_map] at hi
    cases hx : js[i]? with
    | none => rw [hx] at hi; cases hi
    | some x =>
      rw [hx] at hi
      simp only [Option.map_some, Option.some.injEq] at hi
      subst hi
      refine ⟨_, rfl, ?_⟩
      simp only [ev, wipeD]
      rw [List.getElem?_set_self (by simpa using ho)]
      unfold jumpD
      simp? only [hf, Option.getD_some]
      exact ⟨trivial, Lq.refl _⟩
  · refine hq j S2 ?_ l
    rw [hg]
    congr 2
    apply List.ext_getElem?
    intro i
    simp only [List.getElem?_map, List.length_map]
    by_cases h : i < js.length
    · rw [List.getElem?_range h, List.getElem?_eq_getElem h]
      simp only [Option.map_some, List.getElem?_eq_getElem h, Option.getD_some]
    · rw [List.getElem?_eq_none (by simpa using h), List.getElem?_eq_none (by simpa using h)]
      rfl
/-- a test of each two neighbours in a list -/
theorem M_adj {Γ : Fs} {iv a b : Nat} {ce : E} {R : Int → Int → Prop} {env : Sl} {S : Hd} {L : List Int} {k : Nat} {Q : D × Hd → Prop} (hi : env[iv]? = some (some (.ref k))) (hk : S[k]? = some (.lst (L.map .int))) (hz : L.length ≤ 990) (hR : Adj R L)
    (he : ∀ (x y : Int) (S2 : Hd), R x y → Lq S S2 → M (ev Γ ce (((wipeD env [a, b]).set a (some (.int x))).set b (some (.int y))) S2) fun r => r.1 = .bl true ∧ Lq S2 r.2)
    (hq : ∀ S2, Lq S S2 → Q (.bl true, S2)) : M (ev Γ (.blt .all_ (.cons (.lc .zip (.cons (.var iv) (.cons (.sl true false (.var iv) (.c (.int 1)) .nop) .nil)) (.tup (.cons (.name a) (.cons (.name b) .nil))) (.c (.bl true)) ce [a, b]) .nil)) env S) Q := by
  have hlt := lt_of_get hk
  refine M_allT (S1 := S ++ [.lst ((L.map .int).drop 1)]) (ds := [.ref k, .ref S.length]) (its := List.zipWith (fun a b => D.tup [a, b]) (L.map .int) ((L.map .int).drop 1)) (by simp [gOk])
    (by simp only [ev, hi, Option.bind_some, evP, if_true, q_slL hk, cut_1, al_eq, argsOf, Option.map_some, Bool.false_eq_true, if_false]) (Lq.app _ _) ?_ (by have := most_big; simp; omega) (fun i d S2 hi l => ?_) (fun S2 l => ?_) fun S2 l => hq S2 l
  · simp only [items, isTup, true_or, if_true, q_seqL (Lq.app S [.lst ((L.map .int).drop 1)] _ _ hk), q_seqL get_new, Option.bind_some, Option.map_some]
  · obtain ⟨x, y, e1, e2, rfl⟩ := zip_get hi
    refine ⟨_, rfl, ?_⟩
    have := he x y S2 (hR i x y e1 e2) ((Lq.app _ _).trans l)
    exact this
  · simp only [items, isTup, true_or, if_true, q_seqL (l _ _ (Lq.app S [.lst ((L.map .int).drop 1)] _ _ hk)), q_seqL (l _ _ get_new), Option.bind_some, Option.map_some]
theorem are_jumps_ok {n : Nat} {S : Hd} {os : List Int} {sp off : Int} {js : List (Int × Int)} (hc : Chart os sp off js) (hz : js.length ≤ 900) : Pu (run T (n + 1) 8 [zoneD os sp, .int off, .tup (js.map jumpD)] S) (.bl true) S := by
  refine Pu.run T_are_jumps rfl ?_
  show M (ex (run T n) b_are_jumps [some (zoneD os sp), some (.int off), some (.tup (js.map jumpD)), none, none, none, none, none, none, none, none] S) _
  unfold b_are_jumps
  refine seq_M (fun env S1 => ∃ k1 : Nat, env = [some (zoneD os sp), some (.int off), some (.tup (js.map jumpD)), some (.ref k1), none, none, none, none, none, none, none] ∧ S1[k1]? = some (.lst ((js.map (·.1)).map .int)) ∧ Lq S S1) ?_ ?_
  · simp only [ex, M_bind, M_map]
    refine M_proj (js := js) (f := (·.1)) rfl (by simp) hz (fun j => atI_0) fun k S1 hk l => ?_
    simp only [asgG, M_some, List.set_cons_succ, List.set_cons_zero]
    exact ⟨trivial, k, rfl, hk, l⟩
  rintro _ S1 ⟨k1, rfl, g1, l1⟩
  refine seq_M (fun env S2 => ∃ k2 : Nat, env = [some (zoneD os sp), some (.int off), some (.tup (js.map jumpD)), some (.ref k1), none, some (.ref k2), none, none, none, none, none] ∧ S2[k2]? = some (.lst ((off :: js.map (·.2)).map .int)) ∧ Lq S1 S2) ?_ ?_
  · simp only [ex, M_bind, M_map]
    rw [show ∀ (e1 e2 : E) (env : Sl) (S : Hd), ev (run T n) (.bin .add e1 e2) env S = (ev (run T n) e1 env S).bind fun x => (ev (run T n) e2 env x.2).bind fun y => binD .add x.1 y.1 y.2 from fun _ _ _ _ => rfl]
    simp only [M_bind]
    rw [show ev (run T n) (.lst (.cons (.var 1) .nil)) [some (zoneD os sp), some (.int off), some (.tup (js.map jumpD)), some (.ref k1), none, none, none, none, none, none, none] S1 = some (.ref S1.length, S1 ++ [.lst [.int off]]) from by simp only [ev, List.getElem?_cons_succ, List.getElem?_cons_zero, Option.bind_some, argsOf, Option.map_some, List.length_cons, List.length_nil, show (0 + 1 : Nat) ≤ most by decide, if_true, al_eq]]
    simp only [M_some]
    refine M_proj (js := js) (f := (·.2)) rfl (by simp) hz (fun j => atI_1) fun k S2 hk l => ?_
    have hm := most_big
    simp only [q_addL (l _ _ get_new) hk (by simp; omega), al_eq, M_some, asgG, List.set_cons_succ, List.set_cons_zero]
    exact ⟨trivial, _, rfl, by rw [get_new]; rfl, ((Lq.app _ _).trans l).trans (Lq.app _ _)⟩
  rintro _ S2 ⟨k2, rfl, g2, l2⟩
  refine seq_M (fun env S3 => env = [some (zoneD os sp), some (.int off), some (.tup (js.map jumpD)), some (.ref k1), none, some (.ref k2), some (.bl true), none, none, none, none] ∧ Lq S2 S3) ?_ ?_
  · simp only [ex, M_bind, M_map]
    refine M_adj (R := fun x y => x + sp ≤ y) (L := js.map (·.1)) rfl (l2 _ _ g1) (by simp; omega) hc.far (fun x y S3 h l => ?_) fun S3 l => ?_
    · unfold zoneD
      simp only [wipeD, ex, ev, M_bind, M_map, M_some, M_ite, t_eq, a_tup, al_eq, List.getElem?_cons_zero, List.getElem?_cons_succ, Option.bind_some, Option.map_some, q_add, q_sub, q_lt, q_le, q_gt, q_ge, q_eqI, q_neI, q_eqB, q_neB, q_isN, q_notN, Ix.isNon, q_ixT, q_ixR, atI_0, atI_1, atI_2, atI_3, atI_4, atI_5, atI_6, atI_7, q_slT, q_slR, q_revT, q_seqT, q_int, q_intB, q_max, q_min, q_abs, q_tupT, n_tup, n_int, n_bl, n_non, n_str, isi_ii, isi_ib, isi_tt, isi_itl, isi_btl, isi_ttl, isi_tl, isi_bb, u_bl, u_int, u_non, u_tup, g_name, g_tup, g_nil, g_cons, o_ret, o_nx, i_seq, List.set_cons_zero, List.set_cons_succ, decide_eq_true_eq, Bool.not_eq_true', decide_eq_false_iff_not, evP, Bool.false_eq_true, if_true, if_false, ite_true, ite_false, reduceIte, Bool.not_true, Bool.not_false, Option.some.injEq, q_pow10, Int.reduceToNat, Int.reducePow, Int.reduceAdd, Int.reduceSub, Int.reduceMul, Int.reduceNeg, Int.reduceLT, Int.reduceLE, Nat.reducePow, Nat.reduceLT, Nat.reduceLeDiff, Nat.reduceAdd, List.length_cons, List.length_nil, Int.neg_neg, show decide (sp ≤ y - x) = true by simp; omega]
      exact ⟨trivial, Lq.refl _⟩
    · simp only [asgG, M_some, List.set_cons_succ, List.set_cons_zero]
      exact ⟨trivial, trivial, l⟩
  rintro _ S3 ⟨rfl, l3⟩
  simp only [ex, M_map]
  refine M_and (M.imp (P := fun x => x = (.bl true, S3)) (by simp? only []) ?_)
  rintro _ rfl
  refine ⟨rfl, ?_⟩
  refine M_adj (R := fun x y => x ≠ y) (L := off :: js.map (·.2)) rfl (l3 _ _ g2) (by simp; omega) hc.alt (fun x y S4 h l => ?_) fun S4 l => ?_
  · simp only [wipeD, ex, ev, M_bind, M_map, M_some, M_ite, t_eq, a_tup, al_eq, List.getElem?_cons_zero, List.getElem?_cons_succ, Option.bind_some, Option.map_some, q_add, q_sub, q_lt, q_le, q_gt, q_ge, q_eqI, q_neI, q_eqB, q_neB, q_isN, q_notN, Ix.isNon, q_ixT, q_ixR, atI_0, atI_1, atI_2, atI_3, atI_4, atI_5, atI_6, atI_7, q_slT, q_slR, q_revT, q_seqT, q_int, q_intB, q_max, q_min, q_abs, q_tupT, n_tup, n_int, n_bl, n_non, n_str, isi_ii, isi_ib, isi_tt, isi_itl, isi_btl, isi_ttl, isi_tl, isi_bb, u_bl, u_int, u_non, u_tup, g_name, g_tup, g_nil, g_cons, o_ret, o_nx, i_seq, List.set_cons_zero, List.set_cons_succ, decide_eq_true_eq, Bool.not_eq_true', decide_eq_false_iff_not, evP, Bool.false_eq_true, if_true, if_false, ite_true, ite_false, reduceIte, Bool.not_true, Bool.not_false, Option.some.injEq, q_pow10, Int.reduceToNat, Int.reducePow, Int.reduceAdd, Int.reduceSub, Int.reduceMul, Int.reduceNeg, Int.reduceLT, Int.reduceLE, Nat.reducePow, Nat.reduceLT, Nat.reduceLeDiff, Nat.reduceAdd, List.length_cons, List.length_nil, Int.neg_neg, show decide (x = y) = false by simpa using h]
    exact ⟨trivial, Lq.refl _⟩
  · simp? only []
    exact ⟨trivial, l1.trans (l2.trans (l3.trans l))⟩
theorem fits_as_table_ok {n : Nat} {S : Hd} {os : List Int} {sp off : Int} {js : List (Int × Int)} (hc : Chart os sp off js) (hz : js.length ≤ 900) : Pu (run T (n + 5) 12 [zoneD os sp, chartD off js] S) (.bl true) S := by
  refine Pu.run T_fits_as_table rfl ?_
  show M (ex (run T (n + 4)) b_fits_as_table [some (zoneD os sp), some (chartD off js), none, none] S) _
  unfold b_fits_as_table chartD
  refine seq_M (fun env S1 => env = [some (zoneD os sp), some (.tup [.int off, .tup (js.map jumpD)]), none, none] ∧ Lq S S1) ?_ ?_
  · refine ite_M ?_
    simp? only []
    refine is_pair_ok.use fun S1 l1 => ?_
    simp? only []
    exact ⟨trivial, trivial, l1⟩
  rintro _ S1 ⟨rfl, l1⟩
  refine seq_M (fun env S2 => env = [some (zoneD os sp), some (.tup [.int off, .tup (js.map jumpD)]), some (.int off), some (.tup (js.map jumpD))] ∧ S1 = S2) ?_ ?_
  · simp? only []
    exact ⟨trivial, trivial, trivial⟩
  rintro _ _ ⟨rfl, rfl⟩
  refine seq_M (fun env S2 => env = [some (zoneD os sp), some (.tup [.int off, .tup (js.map jumpD)]), some (.int off), some (.tup (js.map jumpD))] ∧ Lq S S2) ?_ ?_
  · refine ite_M ?_
    simp? only []
    refine (is_offset_ok hc.first).use fun S2 l2 => ?_
    simp? only []
    refine (are_marks_ok hc.mem hz).use fun S3 l3 => ?_
    simp? only []
    exact ⟨trivial, trivial, l1.trans (l2.trans l3)⟩
  rintro _ S2 ⟨rfl, l2⟩
  simp? only []
  refine (are_jumps_ok hc hz).use fun S3 l3 => ?_
  simp? only []
  exact ⟨trivial, l2.trans l3⟩
end Lw

namespace Lw
open PySem L2 Ix
/-! ### which offset holds -/
def heldF (off : Int) (js : List (Int × Int)) (m : Int) : Int := js.foldl (fun h j => if j.1 ≤ m then j.2 else h) off
theorem heldF_succ {off m : Int} {js : List (Int × Int)} {i : Nat} {j : Int × Int} (h : js[i]? = some j) : heldF off (js.take (i + 1)) m = if j.1 ≤ m then j.2 else heldF off (js.take i) m := by
  unfold heldF
  rw [List.take_add_one, h]
  simp [List.foldl_append]
theorem far_asc {sp : Int} {L : List Int} (h : Adj (fun x y => x + sp ≤ y) L) (h0 : 0 < sp) : ∀ (d i : Nat) (x y : Int), L[i]? = some x → L[i + d]? = some y → x + (d : Int) * sp ≤ y
  | 0, i, x, y, h1, h2 => by
    rw [Nat.add_zero, h1] at h2
    cases h2
    simp
  | d + 1, i, x, y, h1, h2 => by
    have hd : i + d < L.length := by
      have := (List.getElem?_eq_some_iff.mp h2).1
      omega
    have ih := far_asc h h0 d i x _ h1 (List.getElem?_eq_getElem hd)
    have := h (i + d) _ y (List.getElem?_eq_getElem hd) h2
    have e : ((d + 1 : Nat) : Int) * sp = (d : Int) * sp + sp := by
      rw [Int.natCast_add, Int.add_mul]
      simp
    omega
/-- behind the first jump that is behind the moment nothing changes -/
theorem heldF_stop {off m sp : Int} {js : List (Int × Int)} (hf : Adj (fun x y => x + sp ≤ y) (js.map (·.1))) (h0 : 0 < sp) {i : Nat} {j : Int × Int} (h : js[i]? = some j) (hm : m < j.1) : heldF off js m = heldF off (js.take i) m := by
  have key : ∀ d, i + d ≤ js.length → heldF off (js.take (i + d)) m = heldF off (js.take i) m := by
    intro d
    induction d with
    | zero => intro _; rfl
    | succ d ih =>
      intro hd
      have hlt : i + d < js.length := by omega
      have e : js[i + d]? = some js[i + d] := List.getElem?_eq_getElem hlt
      rw [show i + (d + 1) = i + d + 1 by omega, heldF_succ e, ih (by omega)]
      have := far_asc hf h0 d i j.1 (js[i + d]).1 (by rw [List.getElem?_map, h]; rfl) (by rw [List.getElem?_map, e]; rfl)
      have hp : 0 ≤ (d : Int) * sp := Int.mul_nonneg (by omega) (by omega)
      rw [if_neg (by omega)]
  have hi := (List.getElem?_eq_some_iff.mp h).1
  have := key (js.length - i) (by omega)
  rw [show i + (js.length - i) = js.length by omega, List.take_length] at this
  exact this
theorem jump_get {js : List (Int × Int)} {i : Nat} {d : D} (h : (js.map jumpD)[i]? = some d) : ∃ j, js[i]? = some j ∧ d = .tup [.int j.1, .int j.2] := by
  rw [List.getElem?_map] at h
  cases hx : js[i]? with
  | none => rw [hx] at h; cases h
  | some j =>
    rw [hx] at h
    simp only [Option.map_some, Option.some.injEq] at h
    exact ⟨j, rfl, h.symm⟩
theorem held_offset_ok {n : Nat} {S : Hd} {sp off m : Int} {js : List (Int × Int)} (hf : Adj (fun x y => x + sp ≤ y) (js.map (·.1))) (h0 : 0 < sp) : Pu (run T (n + 1) 14 [chartD off js, .int m] S) (.int (heldF off js m)) S := by
  refine Pu.run T_held_offset rfl ?_
  show M (ex (run T n) b_held_offset [some (chartD off js), some (.int m), none, none, none, none] S) _
  unfold b_held_offset chartD
  refine seq_M (fun env S1 => env = [some (.tup [.int off, .tup (js.map jumpD)]), some (.int m), some (.int off), some (.tup (js.map jumpD)), none, none] ∧ S = S1) ?_ ?_
  · simp? only []
    exact ⟨trivial, trivial, trivial⟩
  rintro _ _ ⟨rfl, rfl⟩
  refine seq_M (fun env S1 => ∃ v4 v5 : Option D, env = [some (.tup [.int off, .tup (js.map jumpD)]), some (.int m), some (.int (heldF off js m)), some (.tup (js.map jumpD)), v4, v5] ∧ S = S1) ?_ ?_
  · refine for_M ?_
    simp? only []
    refine ⟨_, _, rfl, rfl, ?_⟩
    refine M_loopS (m := 0) (fun i env S1 => S = S1 ∧ ∃ v4 v5 : Option D, env = [some (.tup [.int off, .tup (js.map jumpD)]), some (.int m), some (.int (heldF off (js.take i) m)), some (.tup (js.map jumpD)), v4, v5]) ⟨rfl, none, none, rfl⟩ ?_ ?_
    · rintro i d env S1 hi ⟨rfl, v4, v5, rfl⟩
      obtain ⟨j, hj, rfl⟩ := jump_get hi
      simp? only [Nat.zero_add]
      by_cases hm : m < j.1
      · simp only [if_pos hm]
        exact ⟨trivial, _, _, by rw [← heldF_stop hf h0 hj hm], trivial⟩
      · simp only [if_neg hm]
        exact ⟨trivial, trivial, _, _, by rw [heldF_succ hj, if_pos (by omega)]⟩
    · rintro env S1 ⟨rfl, v4, v5, rfl⟩
      refine ⟨rfl, v4, v5, ?_, rfl⟩
      simp
  rintro _ _ ⟨v4, v5, rfl, rfl⟩
  simp? only []
  exact ⟨trivial, Lq.refl _⟩
end Lw

namespace Lw
open PySem L2 Ix
/-! ### the moments of a reading -/
theorem heldF_mem {os : List Int} {m : Int} : ∀ {js : List (Int × Int)} {off : Int}, off ∈ os → (∀ j ∈ js, j.2 ∈ os) → heldF off js m ∈ os
  | [], off, h, _ => h
  | j :: js, off, h, k => by
    show heldF (if j.1 ≤ m then j.2 else off) js m ∈ os
    refine heldF_mem ?_ fun i hi => k i (List.mem_cons_of_mem _ hi)
    split
    · exact k j List.mem_cons_self
    · exact h
/-! ### the functions that tell them -/
end Lw

namespace Lw
open PySem L2 Ix
/-! ### hours_of, and whether two values are the same -/
/-- two values are the same to a depth -/
def Sa : Nat → Hd → D → D → Prop
  | 0, _, _, _ => False
  | n + 1, S, .tup xs, .tup ys => xs.length = ys.length ∧ xs.length ≤ 1000 ∧ ∀ (i : Nat) (x y : D), xs[i]? = some x → ys[i]? = some y → Sa n S x y
  | n + 1, S, .ref a, .ref b => ∃ xs ys, S[a]? = some (.lst xs) ∧ S[b]? = some (.lst ys) ∧ xs.length = ys.length ∧ xs.length ≤ 1000 ∧ ∀ (i : Nat) (x y : D), xs[i]? = some x → ys[i]? = some y → Sa n S x y
  | _ + 1, _, .int i, .int j => i = j
  | _ + 1, _, .bl i, .bl j => i = j
  | _ + 1, _, .str i, .str j => i = j
  | _ + 1, _, .non, .non => True
  | _ + 1, _, _, _ => False
theorem Sa.mono {S S' : Hd} (l : Lq S S') : ∀ {n : Nat} {x y : D}, Sa n S x y → Sa n S' x y
  | 0, _, _, h => h.elim
  | n + 1, x, y, h => by
    cases x <;> cases y <;> simp only [Sa] at h ⊢ <;> try exact h
    · obtain ⟨xs, ys, a, b, c, d, e⟩ := h
      exact ⟨xs, ys, l _ _ a, l _ _ b, c, d, fun i x y a b => Sa.mono l (e i x y a b)⟩
    · exact ⟨h.1, h.2.1, fun i x y a b => Sa.mono l (h.2.2 i x y a b)⟩
theorem isi_ss {i : Str} {S : Hd} : bltD .isi [.str i, .ty "str"] S = some (.bl true, S) := by
  rw [q_isi (c := "str") (n := "str") (by decide) rfl]
  rfl
end Lw

namespace Lw
open PySem L2 Ix
/-! ### several pots -/
def PotS (P : Nat → Prop) (S : Hd) : Prop := ∀ k, P k → Pot k S
def LeP (P : Nat → Prop) (S S' : Hd) : Prop := ∀ (k : Nat) (o : O), ¬ P k → S[k]? = some o → S'[k]? = some o
section
variable {P : Nat → Prop} {S S1 S2 : Hd}
theorem LeP.refl : LeP P S S := fun _ _ _ h => h
theorem LeP.trans (a : LeP P S S1) (b : LeP P S1 S2) : LeP P S S2 := fun k o n h => b k o n (a k o n h)
theorem Lq.leP (a : Lq S S1) : LeP P S S1 := fun k o _ h => a k o h
theorem Le.leP {p : Nat} (hp : P p) (a : Le p S S1) : LeP P S S1 := fun k o n h => a k o (fun e => n (e ▸ hp)) h
theorem LeP.app (T : Hd) : LeP P S (S ++ T) := Lq.leP (Lq.app S T)
theorem LeP.at (a : LeP P S S1) {k : Nat} {o : O} (n : ¬ P k) (h : S[k]? = some o) : S1[k]? = some o := a k o n h
theorem PotS.app (h : PotS P S) (T : Hd) : PotS P (S ++ T) := fun k hk => (h k hk).app T
theorem PotS.lq (h : PotS P S) (l : Lq S S1) : PotS P S1 := fun k hk => (h k hk).lq l
theorem PotS.le {p : Nat} (h : PotS P S) (hp : Pot p S1) (l : Le p S S1) : PotS P S1 := fun k hk => by
  by_cases e : k = p
  · rw [e]; exact hp
  · obtain ⟨q, g⟩ := h k hk
    exact ⟨q, l k _ e g⟩
theorem PotS.set (h : PotS P S) {k : Nat} (hk : ¬ P k) (o : O) : PotS P (S.set k o) := fun j hj => by
  obtain ⟨q, g⟩ := h j hj
  exact ⟨q, by rw [List.getElem?_set_ne (fun e => hk (by rw [e]; exact hj))]; exact g⟩
theorem LeP.len (h : PotS P S) (hs : PotS P S1) (a : LeP P S S1) : S.length ≤ S1.length := by
  rcases Nat.lt_or_ge S1.length S.length with l | l
  · by_cases hp : P S1.length
    · have := (hs _ hp).lt
      omega
    · have e := a S1.length _ hp (List.getElem?_eq_getElem l)
      have := lt_of_get e
      omega
  · exact l
end
/-! ### looks -/
structure Looks (os : List Int) (ls : List (Int × Int)) : Prop where
  mem : ∀ l ∈ ls, l.2 ∈ os
  asc : Adj (fun x y => x < y) (ls.map (·.1))
end Lw

namespace Lw
open PySem L2 Ix
/-! ### how crowded looks are -/
def atL (ls : List (Int × Int)) (k : Nat) : Int × Int := ls.getD k (0, 0)
def chg (ls : List (Int × Int)) : Nat → Int
  | 0 => 0
  | k + 1 => chg ls k + (if (atL ls (k + 1)).2 = (atL ls k).2 then 0 else 1)
def loadK (sp : Int) (ls : List (Int × Int)) (k : Nat) : Int := chg ls k * sp - (atL ls k).1
/-- the stretch from the look a to the look b is crowded -/
def Cw (sp : Int) (ls : List (Int × Int)) (a b : Nat) : Prop := sp ≤ loadK sp ls b - loadK sp ls a
theorem intsD_map {ns : List Int} : intsD (ns.map D.int) = some ns := by
  induction ns with
  | nil => rfl
  | cons i is ih => simp only [List.map_cons, intsD, ih, Option.map_some]
end Lw

namespace Lw
open PySem L2 Ix
theorem Looks.all {os : List Int} {ls : List (Int × Int)} (h : Looks os ls) : ∀ j ∈ ls, j.2 ∈ os := h.mem
end Lw

namespace Lw
open PySem L2 Ix
/-! ### the greatest spacing that lets the looks be -/
def Lim (ls : List (Int × Int)) (P : Nat → Nat → Prop) (L : Int) : Prop := ∀ s : Int, 0 < s → s ≤ 1000000 → (s ≤ L ↔ ∀ a b, P a b → a < b → b < ls.length → ¬ Cw s ls a b)
theorem Lim.congr {ls : List (Int × Int)} {P R : Nat → Nat → Prop} {L : Int} (h : Lim ls P L) (e : ∀ a b, a < b → b < ls.length → (P a b ↔ R a b)) : Lim ls R L := fun s h0 h1 => (h s h0 h1).trans ⟨fun q a b r h1 h2 => q a b ((e a b h1 h2).mpr r) h1 h2, fun q a b r h1 h2 => q a b ((e a b h1 h2).mp r) h1 h2⟩
/-! ### a zone with further offsets -/
end Lw

namespace Ix
open PySem L2
theorem tst_M {Γ : Fs} {e : E} {env : Sl} {S : Hd} {Q : Bool × Hd → Prop} (h : M (ev Γ e env S) fun x => ∃ b, x.1 = .bl b ∧ Q (b, x.2)) : M (tst (ev Γ e env S)) Q := by
  obtain ⟨⟨d, S1⟩, e1, b, e2, q⟩ := h
  have e2 : d = .bl b := e2
  subst e2
  exact ⟨(b, S1), by rw [e1]; rfl, q⟩
theorem M_or {Γ : Fs} {a b : E} {env : Sl} {S : Hd} {Q : D × Hd → Prop} (h : M (ev Γ a env S) fun x => (x.1 = .bl false ∧ M (ev Γ b env x.2) Q) ∨ (x.1 = .bl true ∧ Q (.bl true, x.2))) : M (ev Γ (.or_ a b) env S) Q := by
  simp only [ev, M_bind]
  refine h.imp fun x q => ?_
  rcases q with ⟨e, m⟩ | ⟨e, m⟩
  · rw [e]
    exact m
  · obtain ⟨d, S1⟩ := x
    have e : d = .bl true := e
    subst e
    simp only [M_some]
    exact m
theorem M_andb {Γ : Fs} {a b : E} {env : Sl} {S : Hd} {Q : D × Hd → Prop} (h : M (ev Γ a env S) fun x => (x.1 = .bl true ∧ M (ev Γ b env x.2) Q) ∨ (x.1 = .bl false ∧ Q (.bl false, x.2))) : M (ev Γ (.and_ a b) env S) Q := by
  simp only [ev, M_bind]
  refine h.imp fun x q => ?_
  rcases q with ⟨e, m⟩ | ⟨e, m⟩
  · rw [e]
    exact m
  · obtain ⟨d, S1⟩ := x
    have e : d = .bl false := e
    subst e
    simp only [M_some]
    exact m
theorem M_not {Γ : Fs} {a : E} {env : Sl} {S : Hd} {Q : D × Hd → Prop} (h : M (ev Γ a env S) fun x => ∃ b, x.1 = .bl b ∧ Q (.bl (!b), x.2)) : M (ev Γ (.not_ a) env S) Q := by
  simp only [ev, M_map]
  exact tst_M h
theorem M_call1 {Γ : Fs} {f : Nat} {a : E} {env : Sl} {S : Hd} {Q : D × Hd → Prop} (h : M (ev Γ a env S) fun x => M (Γ f [x.1] x.2) Q) : M (ev Γ (.call f (.cons a .nil)) env S) Q := by
  simp only [ev, M_bind, M_map, M_some, argsOf, Option.map_some, Option.bind_some]
  exact h
theorem M_call2 {Γ : Fs} {f : Nat} {a b : E} {env : Sl} {S : Hd} {Q : D × Hd → Prop} (h : M (ev Γ a env S) fun x => M (ev Γ b env x.2) fun y => M (Γ f [x.1, y.1] y.2) Q) : M (ev Γ (.call f (.cons a (.cons b .nil))) env S) Q := by
  simp only [ev, M_bind, M_map, M_some, argsOf, Option.map_some, Option.bind_some]
  exact h
theorem M_cmp {Γ : Fs} {o : Co} {a b : E} {env : Sl} {S : Hd} {Q : D × Hd → Prop} (h : M (ev Γ a env S) fun x => M (ev Γ b env x.2) fun y => M (cmpD o x.1 y.1 y.2) Q) : M (ev Γ (.cmp o a b) env S) Q := by
  simp only [ev, M_bind]
  exact h
theorem M_cmpd {Γ : Fs} {o : Cd} {a b : E} {env : Sl} {S : Hd} {Q : D × Hd → Prop} (h : M (ev Γ a env S) fun x => M (ev Γ b env x.2) fun y => M (cmpdD o x.1 y.1 y.2) Q) : M (ev Γ (.cmpd o a b) env S) Q := by
  simp only [ev, M_bind]
  exact h
theorem M_bin {Γ : Fs} {o : Bo} {a b : E} {env : Sl} {S : Hd} {Q : D × Hd → Prop} (h : M (ev Γ a env S) fun x => M (ev Γ b env x.2) fun y => M (binD o x.1 y.1 y.2) Q) : M (ev Γ (.bin o a b) env S) Q := by
  simp only [ev, M_bind]
  exact h
theorem M_is {β : Type} {r : Option β} {v : β} {Q : β → Prop} (h : r = some v) (q : Q v) : M r Q := ⟨v, h, q⟩
theorem M_args1 {Γ : Fs} {e : E} {env : Sl} {S : Hd} {Q : D × Hd → Prop} (h : M (ev Γ e env S) fun x => Q (.tup [x.1], x.2)) : M (ev Γ (.cons e .nil) env S) Q := by
  simp only [ev, M_bind, M_map, M_some, argsOf, Option.map_some, Option.bind_some]
  exact h
theorem ret_M {Γ : Fs} {e : E} {env : Sl} {S : Hd} {Q : Out × Sl × Hd → Prop} (h : M (ev Γ e env S) fun x => Q (.ret x.1, env, x.2)) : M (ex Γ (.ret e) env S) Q := by
  simp only [ex, M_map]
  exact h
theorem asg_M {Γ : Fs} {i : Nat} {e : E} {env : Sl} {S : Hd} {Q : Out × Sl × Hd → Prop} (h : M (ev Γ e env S) fun x => Q (.nx, env.set i (some x.1), x.2)) : M (ex Γ (.asg (.name i) e) env S) Q := by
  simp only [ex, M_bind, asgG, Option.map_some, M_some]
  exact h
theorem var_M {Γ : Fs} {i : Nat} {env : Sl} {S : Hd} {d : D} {Q : D × Hd → Prop} (h : env[i]? = some (some d)) (q : Q (d, S)) : M (ev Γ (.var i) env S) Q := by
  simp only [ev, h, M_some]
  exact q
/-! lists of numbers as the library compares them -/
theorem pyL_ints {n : Nat} {S : Hd} : ∀ ns : List Int, pyL (py (n + 1) S) (ns.map D.int) = some (ns.map PyData.int)
  | [] => rfl
  | i :: ns => by
    have := pyL_ints (n := n) (S := S) ns
    simp only [List.map_cons, pyL, py, Option.bind_some, this, Option.map_some]
theorem py_ints {S : Hd} {k : Nat} {ns : List Int} (h : S[k]? = some (.lst (ns.map .int))) : py 9 S (.ref k) = some (.list (ns.map .int)) := by
  simp only [py, h, pyL_ints, Option.map_some]
theorem lay_ints : ∀ ns : List Int, PyData.canLayAll0 (ns.map PyData.int) = true
  | [] => by simp [PyData.canLayAll0]
  | i :: ns => by
    have := lay_ints ns
    simp only [List.map_cons, PyData.canLayAll0, PyData.canLay0, this, Bool.and_self]
theorem dep_ints : ∀ ns : List Int, PyData.depthAll (ns.map PyData.int) = 0
  | [] => by simp [PyData.depthAll]
  | i :: ns => by
    have := dep_ints ns
    simp only [List.map_cons, PyData.depthAll, PyData.depth, this, Nat.max_self]
theorem shaped_ints (ns : List Int) : SeqAt.shaped (.list (ns.map PyData.int)) = true := by
  show (PyData.canLay0 (.list (ns.map PyData.int)) && decide (PyData.depth (.list (ns.map PyData.int)) ≤ 64)) = true
  rw [Bool.and_eq_true]
  refine ⟨by simp only [PyData.canLay0]; exact lay_ints ns, decide_eq_true ?_⟩
  simp only [PyData.depth, dep_ints]
  omega
theorem eqv_ints : ∀ xs ys : List Int, PyData.eqvAll (xs.map PyData.int) (ys.map PyData.int) = decide (xs = ys)
  | [], [] => by simp [PyData.eqvAll]
  | [], y :: ys => by simp [PyData.eqvAll]
  | x :: xs, [] => by simp [PyData.eqvAll]
  | x :: xs, y :: ys => by
    have := eqv_ints xs ys
    simp only [List.map_cons, PyData.eqvAll, PyData.eqv, this]
    by_cases h : x = y
    · subst h
      simp
    · simp [h]
theorem ned_ints {S : Hd} {j k : Nat} {xs ys : List Int} (h1 : S[j]? = some (.lst (xs.map .int))) (h2 : S[k]? = some (.lst (ys.map .int))) : cmpdD .ne (.ref j) (.ref k) S = some (.bl (!decide (xs = ys)), S) := by
  simp only [cmpdD, py_ints h1, py_ints h2, Option.bind_some, shaped_ints, and_self, if_true, PyData.eqv, eqv_ints]
end Ix
namespace Lw
open PySem L2 Ix
end Lw

namespace Lw
open PySem L2 Ix
/-! ### finding -/
def foldS : Nat → D
  | 0 => .str "early"
  | 1 => .str "late"
  | _ => .str "refuse"
def gapS : Nat → D
  | 0 => .str "ahead"
  | 1 => .str "behind"
  | _ => .str "refuse"
theorem is_rule_ok {n : Nat} {S : Hd} {a b c : Str} (i : Nat) : Pu (run T (n + 1) 65 [match i with | 0 => .str a | 1 => .str b | _ => .str c, .tup [.str a, .str b, .str c]] S) (.bl true) S := by
  refine Pu.run T_is_rule rfl ?_
  show M (ex (run T n) b_is_rule [some (match i with | 0 => .str a | 1 => .str b | _ => .str c), some (.tup [.str a, .str b, .str c])] S) _
  unfold b_is_rule
  match i with
  | 0 =>
    simp? only [isi_ss, q_in (x := .str a) rfl (q_seqT (xs := [.str a, .str b, .str c])) rfl]
    exact ⟨by simp [eqF], Lq.refl _⟩
  | 1 =>
    simp? only [isi_ss, q_in (x := .str b) rfl (q_seqT (xs := [.str a, .str b, .str c])) rfl]
    exact ⟨by simp [eqF], Lq.refl _⟩
  | i + 2 =>
    simp? only [isi_ss, q_in (x := .str c) rfl (q_seqT (xs := [.str a, .str b, .str c])) rfl]
    exact ⟨by simp [eqF], Lq.refl _⟩
end Lw

namespace Lw
open PySem L2 Ix
/-! ### turned about: the runs -/
theorem M_blt1 {Γ : Fs} {o : Bl} {a : E} {env : Sl} {S : Hd} {Q : D × Hd → Prop} (h : M (ev Γ a env S) fun x => M (bltD o [x.1] x.2) Q) : M (ev Γ (.blt o (.cons a .nil)) env S) Q := by
  simp only [ev, M_bind, M_some, M_map, argsOf, Option.bind_some]
  exact h
end Lw

namespace Lw
open PySem L2 Ix
/-! ### draws from a bag: [digits, seed, count] -/
def Bag (p n : Nat) (S : Hd) : Prop := ∃ a b c : Int, S[p]? = some (.lst [.int a, .int b, .int c]) ∧ 0 ≤ b ∧ b < 2305843009213693951 ∧ 0 ≤ c ∧ c ≤ (n : Int)
theorem Bag.lt {p n : Nat} {S : Hd} (h : Bag p n S) : p < S.length := by
  obtain ⟨a, b, c, e, _⟩ := h
  exact lt_of_get e
theorem Bag.ne {p n : Nat} {S : Hd} (h : Bag p n S) : S.length ≠ p := by
  have := h.lt
  omega
theorem Bag.lq {p n : Nat} {S S' : Hd} (h : Bag p n S) (l : Lq S S') : Bag p n S' := by
  obtain ⟨a, b, c, e, r⟩ := h
  exact ⟨a, b, c, l _ _ e, r⟩
theorem Bag.app {p n : Nat} {S : Hd} (h : Bag p n S) (T : Hd) : Bag p n (S ++ T) := h.lq (Lq.app S T)
theorem Bag.mono {p n m : Nat} {S : Hd} (h : Bag p n S) (l : n ≤ m) : Bag p m S := by
  obtain ⟨a, b, c, e, r1, r2, r3, r4⟩ := h
  exact ⟨a, b, c, e, r1, r2, r3, by omega⟩
theorem bag_of_ok {n : Nat} {S : Hd} (z : Int) : M (run T (n + 1) 98 [.int z] S) fun r => ∃ p S', r = (.ref p, S') ∧ p = S.length ∧ Bag p 0 S' ∧ Lq S S' := by
  refine run_M T_bag_of rfl ?_
  show M (ex (run T n) b_bag_of [some (.int z)] S) _
  unfold b_bag_of
  have b0 := Int.emod_nonneg z (b := 2305843009213693951) (by decide)
  have b1 := Int.emod_lt_of_pos z (b := 2305843009213693951) (by decide)
  simp? only [q_mod (show (0 : Int) < 2305843009213693951 by decide), show (3 : Nat) ≤ most by decide]
  exact ⟨_, _, rfl, rfl, ⟨_, _, _, get_new, b0, b1, by decide, by decide⟩, Lq.app _ _⟩
theorem pick_ok {n p c : Nat} {S : Hd} {u : Int} (hS : Bag p c S) (hc : c ≤ 1000000) (hu : 0 < u) (hb : u < 2 ^ 62) :
    M (run T (n + 1) 99 [.ref p, .int u] S) fun r => ∃ z S', r = (.int z, S') ∧ 0 ≤ z ∧ z < u ∧ Bag p (c + 1) S' ∧ Le p S S' := by
  obtain ⟨a, b, d, e, b0, b1, d0, d1⟩ := hS
  have hp := lt_of_get e
  refine run_M T_pick rfl ?_
  show M (ex (run T n) b_pick [some (.ref p), some (.int u), none] S) _
  unfold b_pick
  by_cases ha : 0 < a
  · refine seq_Mx (ite_M ?_)
    simp_all? only [q_ixL e, ha, decide_true, if_true]
    simp? only [q_ixL e, q_mod hu, q_fdiv hu (show u < 2 ^ 64 by omega), q_set e (show ixN (3 : Nat) 0 = some 0 from rfl)]
    exact ⟨_, _, rfl, Int.emod_nonneg _ (by omega), Int.emod_lt_of_pos _ hu, ⟨_, _, _, List.getElem?_set_self hp, b0, b1, d0, by omega⟩, Le.set _ _ _⟩
  · refine seq_Mx (ite_M ?_)
    simp_all? only [q_ixL e, ha, decide_false, Bool.false_eq_true, if_false]
    rw [show ∀ env, ex (run T n) .skip env S = some (.nx, env, S) from fun _ => rfl]
    simp only [M_some]
    refine seq_M (fun env S1 => env = [some (.ref p), some (.int u), none] ∧ S1 = S.set p (.lst [.int a, .int b, .int (d + 1)])) ?_ ?_
    · simp? only [q_ixL e, q_set e (show ixN (3 : Nat) 2 = some 2 from rfl)]
      exact ⟨trivial, trivial, trivial⟩
    rintro _ _ ⟨rfl, rfl⟩
    have e1 : (S.set p (.lst [.int a, .int b, .int (d + 1)]))[p]? = some (.lst [.int a, .int b, .int (d + 1)]) := List.getElem?_set_self hp
    have m1 : b + 104729 * (d + 1) < 2 ^ 62 ∧ 0 ≤ b + 104729 * (d + 1) := by omega
    have m2 : b + 15485863 * (d + 1) + 11 < 2 ^ 62 ∧ 0 ≤ b + 15485863 * (d + 1) + 11 := by omega
    generalize hS1 : S.set p (.lst [.int a, .int b, .int (d + 1)]) = S1 at e1
    have le : Le p S S1 := by rw [← hS1]; exact Le.set _ _ _
    refine seq_M (fun env S2 => ∃ x : Int, env = [some (.ref p), some (.int u), some (.int x)] ∧ S1 = S2) ?_ ?_
    · simp? only [q_ixL e1, q_mul (i := 104729) (j := d + 1) (by decide) (by decide) (by omega) (by omega), q_mul (i := 15485863) (j := d + 1) (by decide) (by decide) (by omega) (by omega),
        q_mul (i := b + 104729 * (d + 1)) (j := b + 15485863 * (d + 1) + 11) (by omega) (by omega) (by omega) (by omega)]
      exact ⟨trivial, _, rfl, trivial⟩
    rintro _ _ ⟨x, rfl, rfl⟩
    have x0 := Int.emod_nonneg x (b := 2305843009213693951) (by decide)
    have x1 := Int.emod_lt_of_pos x (b := 2305843009213693951) (by decide)
    refine seq_M (fun env S2 => ∃ x : Int, 0 ≤ x ∧ x < 2305843009213693951 ∧ env = [some (.ref p), some (.int u), some (.int x)] ∧ S1 = S2) ?_ ?_
    · simp? only [q_mod (show (0 : Int) < 2305843009213693951 by decide)]
      exact ⟨trivial, _, x0, x1, rfl, trivial⟩
    rintro _ _ ⟨x, x0, x1, rfl, rfl⟩
    refine seq_M (fun env S2 => ∃ x : Int, env = [some (.ref p), some (.int u), some (.int x)] ∧ S1 = S2) ?_ ?_
    · simp? only [q_ixL e1, q_mul (i := x) (j := x) (by omega) (by omega) (by omega) (by omega), q_mul (i := 7) (j := d + 1) (by decide) (by decide) (by omega) (by omega)]
      exact ⟨trivial, _, rfl, trivial⟩
    rintro _ _ ⟨y, rfl, rfl⟩
    simp? only [q_mod (show (0 : Int) < 2305843009213693951 by decide), q_fdiv (j := 4099) (by decide) (by decide), q_mod hu]
    exact ⟨_, _, rfl, Int.emod_nonneg _ (by omega), Int.emod_lt_of_pos _ hu, ⟨_, _, _, e1, b0, b1, by omega, by omega⟩, le⟩
end Lw

namespace Lw
open PySem L2 Ix
theorem q_sumL {S : Hd} {k : Nat} {ns : List Int} (h : S[k]? = some (.lst (ns.map .int))) : bltD .sum_ [.ref k] S = some (.int ns.sum, S) := by
  have e : intsAt S (.ref k) = some ns := by simp only [intsAt, isTup, seqOf, h, Option.bind_some, intsD_map, Bool.false_eq_true, if_false]
  simp only [bltD, e, Option.map_some]
theorem gaps_ok {n p c : Nat} {W m : Int} {env : Sl} {S : Hd} {Q : D × Hd → Prop} (h0 : env[0]? = some (some (.ref p))) (h2 : env[2]? = some (some (.int m))) (h3 : env[3]? = some (some (.int W))) (hS : Bag p c S) (hc : c ≤ 900000) (w0 : 1 ≤ W) (w1 : W ≤ 1800) (m0 : 1 ≤ m) (m1 : m ≤ 3)
    (hq : ∀ (j : Nat) (gs : List Int) (S2 : Hd), (gs.length : Int) = m - 1 → (∀ g ∈ gs, 1 ≤ g ∧ g ≤ W) → S2[j]? = some (.lst (gs.map .int)) → j ≠ p → Bag p (c + 10) S2 → Le p S S2 → Q (.ref j, S2)) :
    M (ev (run T (n + 1)) (.lc .range1 (.cons (.bin .sub (.var 2) (.c (.int 1))) (.nil)) (.name 5) (.c (.bl true)) (.bin .sub (.var 3) (.bin .mul (.call 99 (.cons (.var 0) (.cons (.var 3) (.nil)))) (.call 99 (.cons (.var 0) (.cons (.c (.int 2)) (.nil)))))) [5]) env S) Q := by
  have hm := most_big
  obtain ⟨N, hN⟩ : ∃ N : Nat, m - 1 = (N : Int) := ⟨(m - 1).toNat, by omega⟩
  have ir : ∀ S2, items .range1 [.int (m - 1)] S2 = some ((List.range N).map fun (i : Nat) => .int (0 + (i : Int))) := fun S2 => by rw [hN, i_rng (by omega) (by omega), Int.toNat_natCast]
  refine M_lcI (List.range N) (fun (i : Nat) => .int (0 + (i : Int))) (fun j i ys S2 => j ≠ p ∧ (∃ gs : List Int, ys = gs.map .int ∧ ∀ g ∈ gs, 1 ≤ g ∧ g ≤ W) ∧ Bag p (c + 2 * i) S2 ∧ Le p S S2) (by decide) ?_ (by rw [List.length_range]; omega) fun j ys S2 yl gj ⟨jp, ⟨gs, hgs, hb⟩, p2, l2⟩ => ?_
  · simp_all? only [h2]
    refine ⟨_, _, rfl, ir _, ⟨hS.ne, ⟨[], rfl, by simp⟩, hS.app _, Le.app _ _ _⟩, fun i x ys S2 hx yl gj ⟨jp, ⟨gs, hgs, hb⟩, p2, l2⟩ => ⟨_, rfl, ?_⟩⟩
    have iN := (List.getElem?_eq_some_iff.mp hx).1
    rw [List.length_range] at iN
    have e : ∀ (k : Nat) (v : Option D), k ≠ 5 → env[k]? = some v → ((wipeD env [5]).set 5 (some (D.int (0 + (x : Int)))))[k]? = some v := fun k v hk he => by
      rw [List.getElem?_set_ne hk.symm]
      show (env.set 5 none)[k]? = _
      rw [List.getElem?_set_ne hk.symm]
      exact he
    simp? only [e 0 _ (by decide) h0, e 3 _ (by decide) h3]
    refine (pick_ok p2 (by omega) (by omega) (by omega)).imp ?_
    rintro _ ⟨y, S3, rfl, y0, y1, p3, l3⟩
    simp? only [e 0 _ (by decide) h0]
    refine (pick_ok p3 (by omega) (by decide) (by decide)).imp ?_
    rintro _ ⟨z, S4, rfl, z0, z1, p4, l4⟩
    have gj' := l4.at jp (l3.at jp gj)
    simp? only [q_mul (i := y) (j := z) (by omega) (by omega) (by omega) (by omega)]
    have yz : 0 ≤ y * z ∧ y * z ≤ y := by
      have : z = 0 ∨ z = 1 := by omega
      rcases this with r | r <;> rw [r] <;> omega
    refine ⟨gj', ir _, jp, ⟨gs ++ [W - y * z], by rw [hgs, List.map_append]; rfl, fun g hg => ?_⟩, ?_, fun k o nk e => ?_⟩
    · rcases List.mem_append.mp hg with r | r
      · exact hb g r
      · rw [List.mem_singleton.mp r]
        omega
    · obtain ⟨a, b, d, e, r1, r2, r3, r4⟩ := p4
      exact ⟨a, b, d, by rw [List.getElem?_set_ne jp]; exact e, r1, r2, r3, by omega⟩
    · have e1 := l4 k o nk (l3 k o nk (l2 k o nk e))
      by_cases hk : S.length = k
      · have := lt_of_get e
        omega
      · rw [List.getElem?_set_ne hk]
        exact e1
  · subst hgs
    rw [List.length_map, List.length_range] at yl
    exact hq j gs S2 (by omega) hb gj jp (p2.mono (by rw [List.length_range]; omega)) l2
def cum : Int → List Int → List Int
  | a, [] => [a]
  | a, g :: gs => a :: cum (a + g) gs
theorem cum_snoc {g : Int} : ∀ {gs : List Int} {a : Int}, cum a (gs ++ [g]) = cum a gs ++ [a + gs.sum + g] ∧ (cum a gs).getLast? = some (a + gs.sum) ∧ (cum a gs).length = gs.length + 1
  | [], a => ⟨by simp [cum], by simp [cum], rfl⟩
  | x :: gs, a => by
    obtain ⟨h1, h2, h3⟩ := cum_snoc (g := g) (gs := gs) (a := a + x)
    refine ⟨?_, ?_, ?_⟩
    · simp only [List.cons_append, cum, h1, List.sum_cons]
      rw [show a + x + gs.sum + g = a + (x + gs.sum) + g by omega]
    · have ne : cum (a + x) gs ≠ [] := fun e => by rw [e] at h3; simp at h3
      simp only [cum]
      rw [List.getLast?_cons_of_ne_nil ne, h2, List.sum_cons, show a + x + gs.sum = a + (x + gs.sum) by omega]
    · simp only [cum, List.length_cons, h3]
theorem cum_zone {a sp : Int} : ∀ {gs : List Int}, gs.length ≤ 2 → (∀ g ∈ gs, 1 ≤ g) → -900 ≤ a → a + gs.sum ≤ 900 → gs.sum < sp → sp ≤ 1000000 → Zone (cum a gs) sp := fun {gs} hl hg h0 h1 h2 h3 => by
  match gs, hl, hg with
  | [], _, _ =>
    simp at h1 h2
    exact ⟨by simp [cum], by simp [cum], by simp [cum], by simp [cum]; omega, by simp [cum]; omega, by simp [cum]; omega, h3⟩
  | [g], _, hg =>
    have := hg g (by simp)
    simp at h1 h2
    exact ⟨by simp [cum], by simp [cum], by simp [cum]; omega, by simp [cum]; omega, by simp [cum]; omega, by simp [cum]; omega, h3⟩
  | [g, k], _, hg =>
    have h4 := hg g (by simp)
    have h5 := hg k (by simp)
    simp at h1 h2
    exact ⟨by simp [cum], by simp [cum], by simp [cum]; omega, by simp [cum]; omega, by simp [cum]; omega, by simp [cum]; omega, h3⟩
  | _ :: _ :: _ :: _, hl, _ => simp at hl
theorem any_belt_ok {n p c : Nat} {S : Hd} (hS : Bag p c S) (hc : c ≤ 800000) : M (run T (n + 2) 100 [.ref p, .int 3] S) fun r => ∃ os sp S', r = (zoneD os sp, S') ∧ Zone os sp ∧ Bag p (c + 20) S' ∧ Le p S S' := by
  have hm := most_big
  refine run_M T_any_belt rfl ?_
  show M (ex (run T (n + 1)) b_any_belt [some (.ref p), some (.int 3), none, none, none, none, none, none, none, none] S) _
  unfold b_any_belt
  refine seq_M (fun env S1 => ∃ m : Int, env = [some (.ref p), some (.int 3), some (.int m), none, none, none, none, none, none, none] ∧ 1 ≤ m ∧ m ≤ 3 ∧ Bag p (c + 1) S1 ∧ Le p S S1) ?_ ?_
  · simp? only [show (6 : Nat) ≤ most by decide]
    refine (pick_ok (hS.app _) (by omega) (by decide) (by decide)).imp ?_
    rintro _ ⟨z, S1, rfl, z0, z1, p1, l1⟩
    have g := l1.at hS.ne get_new
    obtain ⟨v, _, vm, hv⟩ := atI_ints (ns := [2, 3, 2, 1, 3, 2]) z0 z1
    simp only [List.map] at hv
    simp only [List.mem_cons, List.not_mem_nil, or_false] at vm
    simp? only [q_ixL g, hv]
    refine ⟨trivial, _, rfl, ?_, ?_, p1, (Le.app _ _ _).trans l1⟩
    · split <;> omega
    · split <;> omega
  rintro _ S1 ⟨m, rfl, m0, m1, p1, l1⟩
  refine seq_M (fun env S2 => ∃ w : Int, env = [some (.ref p), some (.int 3), some (.int m), some (.int w), none, none, none, none, none, none] ∧ 1 ≤ w ∧ w ≤ 1800 ∧ Bag p (c + 2) S2 ∧ Le p S S2) ?_ ?_
  · simp? only [show (6 : Nat) ≤ most by decide]
    refine (pick_ok (p1.app _) (by omega) (by decide) (by decide)).imp ?_
    rintro _ ⟨z, S2, rfl, z0, z1, p2, l2⟩
    have g := l2.at p1.ne get_new
    obtain ⟨v, _, vm, hv⟩ := atI_ints (ns := [1, 60, 3, 600, 20, 1800]) z0 z1
    simp only [List.map] at hv
    simp only [List.mem_cons, List.not_mem_nil, or_false] at vm
    simp? only [q_ixL g, hv]
    exact ⟨trivial, _, rfl, by omega, by omega, p2, l1.trans ((Le.app _ _ _).trans l2)⟩
  rintro _ S2 ⟨w, rfl, w0, w1, p2, l2⟩
  refine seq_M (fun env S3 => ∃ W : Int, env = [some (.ref p), some (.int 3), some (.int m), some (.int W), none, none, none, none, none, none] ∧ 1 ≤ W ∧ (m - 1) * W ≤ 1800 ∧ W ≤ 1800 ∧ S2 = S3) ?_ ?_
  · obtain ⟨k, hk, kk⟩ : ∃ k : Int, (if m - 1 > 1 then m - 1 else 1) = k ∧ ((k = 1 ∧ m ≤ 2) ∨ (k = 2 ∧ m = 3)) := ⟨_, rfl, by split <;> omega⟩
    simp? only [hk, q_fdiv (i := w) (j := k) (by omega) (by omega)]
    refine ⟨trivial, _, rfl, ?_, ?_, ?_, trivial⟩
    · split <;> omega
    · rcases kk with ⟨rfl, h⟩ | ⟨rfl, rfl⟩
      · have mm : m = 1 ∨ m = 2 := by omega
        rcases mm with rfl | rfl <;> split <;> omega
      · split <;> omega
    · rcases kk with ⟨rfl, h⟩ | ⟨rfl, rfl⟩ <;> split <;> omega
  rintro _ _ ⟨W, rfl, W0, W1, W2, rfl⟩
  refine seq_M (fun env S3 => ∃ (j : Nat) (gs : List Int), env = [some (.ref p), some (.int 3), some (.int m), some (.int W), some (.ref j), none, none, none, none, none] ∧ (gs.length : Int) = m - 1 ∧ (∀ g ∈ gs, 1 ≤ g ∧ g ≤ W) ∧ S3[j]? = some (.lst (gs.map .int)) ∧ j ≠ p ∧ Bag p (c + 12) S3 ∧ Le p S S3) ?_ ?_
  · refine asg_M (gaps_ok rfl rfl rfl p2 (by omega) W0 W2 m0 m1 fun j gs S3 h1 h2 g jp p3 l3 => ?_)
    exact ⟨rfl, j, gs, rfl, h1, h2, g, jp, p3, l2.trans l3⟩
  rintro _ S3 ⟨j, gs, rfl, hgl, hg, gj, jp, p3, l3⟩
  have sumB : 0 ≤ gs.sum ∧ gs.sum ≤ 1800 := by
    match gs, hgl, hg with
    | [], _, _ => simp
    | [a], hgl, hg =>
      have := hg a (by simp)
      simp at hgl ⊢
      have : m = 2 := by omega
      subst this
      omega
    | [a, b], hgl, hg =>
      have h1 := hg a (by simp)
      have h2 := hg b (by simp)
      simp at hgl ⊢
      have : m = 3 := by omega
      subst this
      omega
    | _ :: _ :: _ :: _, hgl, _ => simp at hgl; omega
  have gl : gs.length ≤ 2 := by omega
  refine seq_M (fun env S4 => ∃ (q : Nat) (a : Int), env = [some (.ref p), some (.int 3), some (.int m), some (.int W), some (.ref j), none, some (.ref q), none, none, none] ∧ -900 ≤ a ∧ a + gs.sum ≤ 900 ∧ S4[q]? = some (.lst [.int a]) ∧ S4[j]? = some (.lst (gs.map .int)) ∧ q ≠ p ∧ q ≠ j ∧ S.length ≤ q ∧ Bag p (c + 13) S4 ∧ Le p S S4) ?_ ?_
  · simp? only [q_sumL gj]
    refine (pick_ok p3 (by omega) (by omega) (by omega)).imp ?_
    rintro _ ⟨z, S4, rfl, z0, z1, p4, l4⟩
    simp? only [show (1 : Nat) ≤ most by decide]
    have gj4 := l4.at jp gj
    have jl := lt_of_get gj4
    have ll := (l3.trans l4)
    refine ⟨trivial, _, _, rfl, ?_, ?_, get_new, Lq.app _ _ _ _ gj4, p4.ne, ?_, ?_, p4.app _, ll.trans (Le.app _ _ _)⟩
    · omega
    · omega
    · omega
    · have pl := hS.lt
      refine Nat.le_of_not_lt fun z => ?_
      obtain ⟨o, ho⟩ : ∃ o, S[S4.length]? = some o := ⟨_, List.getElem?_eq_getElem z⟩
      have := lt_of_get (ll _ o p4.ne ho)
      omega
  rintro _ S4 ⟨q, a, rfl, a0, a1, gq, gj4, qp, qj, qS, p4, l4⟩
  have free : ∀ k o, S[k]? = some o → k ≠ p → k ≠ q := fun k o e _ z => by
    have := lt_of_get e
    omega
  refine seq_M (fun env S5 => ∃ v7 : Option D, env = [some (.ref p), some (.int 3), some (.int m), some (.int W), some (.ref j), none, some (.ref q), v7, none, none] ∧ S5[q]? = some (.lst ((cum a gs).map .int)) ∧ S5[j]? = some (.lst (gs.map .int)) ∧ Bag p (c + 13) S5 ∧ Le p S S5) ?_ ?_
  · refine for_M ?_
    simp_all? only []
    refine ⟨_, _, rfl, q_seqL gj4, ?_⟩
    refine M_loopS (m := 0) (fun i env S5 => ∃ v7 : Option D, env = [some (.ref p), some (.int 3), some (.int m), some (.int W), some (.ref j), none, some (.ref q), v7, none, none] ∧ S5[q]? = some (.lst ((cum a (gs.take i)).map .int)) ∧ S5[j]? = some (.lst (gs.map .int)) ∧ Bag p (c + 13) S5 ∧ Le p S S5) ⟨none, rfl, gq, gj4, p4, l4⟩ ?_ ?_
    · rintro i d env S5 hi ⟨v7, rfl, g5, gj5, p5, l5⟩
      obtain ⟨g, hgi, _, rfl⟩ := map_get hi
      have il := (List.getElem?_eq_some_iff.mp hgi).1
      have tk : gs.take (i + 1) = gs.take i ++ [g] := by rw [List.take_add_one, hgi]; rfl
      obtain ⟨c1, c2, c3⟩ := cum_snoc (g := g) (gs := gs.take i) (a := a)
      have lst : atI ((cum a (gs.take i)).map D.int) (-1) = some (.int (a + (gs.take i).sum)) := by
        have ne : (cum a (gs.take i)).map D.int ≠ [] := fun e => by
          have := congrArg List.length e
          rw [List.length_map, c3] at this
          simp at this
        rw [atI_last ne]
        have e : ((cum a (gs.take i)).map D.int).getLast? = some (.int (a + (gs.take i).sum)) := by rw [List.getLast?_map, c2]; rfl
        rw [List.getLast?_eq_some_getLast ne] at e
        exact e
      have cl : ((cum a (gs.take i)).map D.int).length < most := by rw [List.length_map, c3, List.length_take]; omega
      simp only [Nat.zero_add] at g5 ⊢
      simp? only [q_ixL g5, lst, q_isL g5, q_app g5 cl]
      have gj6 : ∀ o, (S5.set q o)[j]? = some (.lst (gs.map .int)) := fun o => by rw [List.getElem?_set_ne qj]; exact gj5
      refine ⟨q_seqL (gj6 _), _, rfl, ?_, gj6 _, ?_, fun k o e nk => ?_⟩
      · rw [tk, c1, List.map_append]
        exact List.getElem?_set_self (lt_of_get g5)
      · obtain ⟨x, y, z, e, r⟩ := p5
        exact ⟨x, y, z, by rw [List.getElem?_set_ne qp]; exact e, r⟩
      · rw [List.getElem?_set_ne (fun z => free k o nk e z.symm)]
        exact l5 k o e nk
    · rintro env S5 ⟨v7, rfl, g5, gj5, p5, l5⟩
      simp only [Nat.zero_add, List.length_map, List.take_length] at g5
      exact ⟨rfl, _, rfl, g5, gj5, p5, l5⟩
  rintro _ S5 ⟨v7, rfl, g5, gj5, p5, l5⟩
  have z1 := hg
  refine seq_M (fun env S6 => env = [some (.ref p), some (.int 3), some (.int m), some (.int W), some (.ref j), none, some (.ref q), v7, some (.int (gs.sum + 1)), none] ∧ S5 = S6) ?_ ?_
  · simp? only [q_sumL gj5]
    exact ⟨trivial, trivial, trivial⟩
  rintro _ _ ⟨rfl, rfl⟩
  refine seq_M (fun env S6 => ∃ (k : Nat) (y z : Int), env = [some (.ref p), some (.int 3), some (.int m), some (.int W), some (.ref j), none, some (.ref q), v7, some (.int (gs.sum + 1)), some (.ref k)] ∧ 0 ≤ y ∧ y < 2000 ∧ 0 ≤ z ∧ z < 1000001 - (gs.sum + 1) ∧ k ≠ p ∧ S6[k]? = some (.lst ([0, 1, 40, 1000000 - (gs.sum + 1), y, 100, z].map .int)) ∧ S6[q]? = some (.lst ((cum a gs).map .int)) ∧ Bag p (c + 15) S6 ∧ Le p S S6) ?_ ?_
  · simp? only []
    refine (pick_ok p5 (by omega) (by decide) (by decide)).imp ?_
    rintro _ ⟨y, S6, rfl, y0, y1, p6, l6⟩
    simp? only []
    refine (pick_ok p6 (by omega) (by omega) (by omega)).imp ?_
    rintro _ ⟨z, S7, rfl, z0, z1, p7, l7⟩
    simp? only [show (7 : Nat) ≤ most by decide]
    exact ⟨trivial, _, y, z, rfl, y0, y1, z0, z1, p7.ne, get_new, Lq.app _ _ _ _ (l7.at qp (l6.at qp g5)), p7.app _, l5.trans (l6.trans (l7.trans (Le.app _ _ _)))⟩
  rintro _ S6 ⟨k, y, z, rfl, y0, y1, z0, z1', kp, gk, g6, p6, l6⟩
  simp? only [q_tupL g6]
  refine (pick_ok p6 (by omega) (by decide) (by decide)).imp ?_
  rintro _ ⟨x, S7, rfl, x0, x1, p7, l7⟩
  have gk7 := l7.at kp gk
  obtain ⟨v, _, vm, hv⟩ := atI_ints (ns := [0, 1, 40, 1000000 - (gs.sum + 1), y, 100, z]) x0 x1
  simp only [List.mem_cons, List.not_mem_nil, or_false] at vm
  simp? only [q_ixL gk7, hv, show (2 : Nat) ≤ most by decide]
  exact ⟨cum a gs, gs.sum + 1 + v, S7, rfl, cum_zone gl (fun g h => (hg g h).1) a0 a1 (by omega) (by omega), p7.mono (by omega), l6.trans l7⟩
end Lw

namespace Lw
open PySem L2 Ix
abbrev Zs := List (List Int × Int)
def beltsD (zs : Zs) : D := .tup (zs.map fun z => zoneD z.1 z.2)
structure Belts (zs : Zs) : Prop where
  l1 : 1 ≤ zs.length
  l2 : zs.length ≤ 2
  zone : ∀ z ∈ zs, Zone z.1 z.2
theorem any_belts_ok {n p c : Nat} {S : Hd} (hS : Bag p c S) (hc : c ≤ 700000) : M (run T (n + 3) 101 [.ref p, .int 3] S) fun r => ∃ zs S', r = (beltsD zs, S') ∧ Belts zs ∧ Bag p (c + 50) S' ∧ Le p S S' := by
  have hm := most_big
  refine run_M T_any_belts rfl ?_
  show M (ex (run T (n + 2)) b_any_belts [some (.ref p), some (.int 3), none] S) _
  unfold b_any_belts
  refine M.imp (P := fun x => ∃ zs S', x = (.ret (beltsD zs), [some (.ref p), some (.int 3), none], S') ∧ Belts zs ∧ Bag p (c + 50) S' ∧ Le p S S') (ret_M (M_blt1 ?_)) ?_
  · have pk := pick_ok (n := n + 1) (u := 2) hS (by omega) (by decide) (by decide)
    obtain ⟨⟨d, S1⟩, ep, z, S1', e1, z0, z1, p1, l1⟩ := pk
    cases e1
    obtain ⟨N, hN⟩ : ∃ N : Nat, 1 + z = (N : Int) := ⟨(1 + z).toNat, by omega⟩
    have ir : ∀ S2, items .range1 [.int (1 + z)] S2 = some ((List.range N).map fun (i : Nat) => .int (0 + (i : Int))) := fun S2 => by rw [hN, i_rng (by omega) (by omega), Int.toNat_natCast]
    refine M_lcI (List.range N) (fun (i : Nat) => .int (0 + (i : Int))) (fun j i ys S2 => j ≠ p ∧ (∃ zs : Zs, ys = zs.map (fun z => zoneD z.1 z.2) ∧ ∀ z ∈ zs, Zone z.1 z.2) ∧ Bag p (c + 1 + 20 * i) S2 ∧ Le p S S2) (by decide) ?_ (by rw [List.length_range]; omega) fun j ys S2 yl gj ⟨jp, ⟨zs, hzs, hz⟩, p2, l2⟩ => ?_
    · simp_all? only [ep]
      refine ⟨_, _, rfl, ir _, ⟨p1.ne, ⟨[], rfl, by simp⟩, p1.app _, l1.trans (Le.app _ _ _)⟩, fun i x ys S2 hx yl gj ⟨jp, ⟨zs, hzs, hz⟩, p2, l2⟩ => ⟨_, rfl, ?_⟩⟩
      have iN := (List.getElem?_eq_some_iff.mp hx).1
      rw [List.length_range] at iN
      simp? only [wipeD]
      refine (any_belt_ok p2 (by omega)).imp ?_
      rintro _ ⟨os, sp, S3, rfl, hz', p3, l3⟩
      have gj' := l3.at jp gj
      refine ⟨gj', ir _, jp, ⟨zs ++ [(os, sp)], by rw [hzs, List.map_append]; rfl, fun z hz1 => ?_⟩, ?_, fun k o nk e => ?_⟩
      · rcases List.mem_append.mp hz1 with r | r
        · exact hz z r
        · rw [List.mem_singleton.mp r]; exact hz'
      · obtain ⟨a, b, d, e, r1, r2, r3, r4⟩ := p3
        exact ⟨a, b, d, by rw [List.getElem?_set_ne jp]; exact e, r1, r2, r3, by omega⟩
      · have e1 := l1 k o nk e
        have e3 := l3 k o nk (l2 k o nk e)
        by_cases hk : S1.length = k
        · have := lt_of_get e1
          omega
        · rw [List.getElem?_set_ne hk]
          exact e3
    · subst hzs
      rw [List.length_map, List.length_range] at yl
      rw [q_tupL gj, M_some]
      exact ⟨zs, S2, rfl, ⟨by omega, by omega, hz⟩, p2.mono (by rw [List.length_range]; omega), l2⟩
  rintro _ ⟨zs, S', rfl, hz, p', l'⟩
  simp? only []
  exact ⟨zs, S', rfl, hz, p', l'⟩
theorem spot_ok {n p c r : Nat} {S : Hd} {ks : List Str} {kd : Str} (hS : Bag p c S) (hc : c ≤ 900000) (rp : r ≠ p) (g : S[r]? = some (.lst (ks.map .str))) (hl : ks.length ≤ 20) (hk : kd ∈ ks) (np : kd ≠ "point") :
    M (run T (n + 2) 103 [.ref p, .ref r, .str kd] S) fun x => ∃ (v : Nat) (S' : Hd), x = (.int (v : Int), S') ∧ ks[v]? = some kd ∧ Bag p (c + 2) S' ∧ Le p S S' := by
  have hm := most_big
  refine run_M T_spot rfl ?_
  show M (ex (run T (n + 1)) b_spot [some (.ref p), some (.ref r), some (.str kd), none, none] S) _
  unfold b_spot
  have np' : (kd = "point") = False := eq_false np
  let L := (List.range ks.length).filter fun i => decide (ks[i]? = some kd)
  have Lmem : ∀ v ∈ L, ks[v]? = some kd := fun v hv => by simpa using (List.mem_filter.mp hv).2
  have Lne : L ≠ [] := fun e => by
    obtain ⟨i, hi, ei⟩ := List.getElem_of_mem hk
    have : i ∈ L := List.mem_filter.mpr ⟨List.mem_range.mpr hi, by simpa using (List.getElem?_eq_getElem hi).trans (congrArg some ei)⟩
    rw [e] at this
    cases this
  have Llen : L.length ≤ 20 := Nat.le_trans (List.length_filter_le _ _) (by rw [List.length_range]; exact hl)
  refine seq_M (fun env S1 => ∃ j : Nat, env = [some (.ref p), some (.ref r), some (.str kd), some (.ref j), none] ∧ S1[j]? = some (.lst (L.map fun (v : Nat) => .int (v : Int))) ∧ j ≠ p ∧ Bag p c S1 ∧ Le p S S1) ?_ ?_
  · refine asg_M (M_lcx (List.range ks.length) (fun (i : Nat) => .int (0 + (i : Int))) (fun i => decide (ks[i]? = some kd)) (fun (i : Nat) => .int (i : Int)) (by decide) ?_ (by rw [List.length_range]; omega) (fun i S2 hi l2 => ?_) fun j S2 hj gj l2 => ?_)
    · simp_all? only [q_len (q_seqL g), List.length_map]
      refine ⟨_, _, rfl, Lq.refl _, fun S2 _ => ?_⟩
      rw [i_rng (by omega) (by omega), Int.toNat_natCast]
    · have il := List.mem_range.mp hi
      obtain ⟨x, hx⟩ : ∃ x, ks[i]? = some x := ⟨_, List.getElem?_eq_getElem il⟩
      have ai : atI (ks.map D.str) (0 + (i : Int)) = some (.str x) := by
        rw [Int.zero_add, atI_lt (by omega) (by rw [List.length_map]; omega), Int.toNat_natCast, List.getElem?_map, hx]
        rfl
      refine ⟨_, rfl, ?_⟩
      have g2 := l2 _ _ g
      by_cases e : x = kd
      · subst e
        simp only [wipeD, ev, M_bind, M_map, M_some, M_ite, t_eq, a_tup, al_eq, List.getElem?_cons_zero, List.getElem?_cons_succ, Option.bind_some, Option.map_some, q_add, q_sub, q_lt, q_le, q_gt, q_ge, q_eqI, q_neI, q_eqB, q_neB, q_isN, q_notN, Ix.isNon, q_ixT, q_ixR, atI_0, atI_1, atI_2, atI_3, atI_4, atI_5, atI_6, atI_7, q_slT, q_slR, q_revT, q_seqT, q_int, q_intB, q_max, q_min, q_abs, q_tupT, n_tup, n_int, n_bl, n_non, n_str, isi_ii, isi_ib, isi_tt, isi_itl, isi_btl, isi_ttl, isi_tl, isi_bb, u_bl, u_int, u_non, u_tup, g_name, g_tup, g_nil, g_cons, o_ret, o_nx, i_seq, List.set_cons_zero, List.set_cons_succ, decide_eq_true_eq, Bool.not_eq_true', decide_eq_false_iff_not, evP, Bool.false_eq_true, if_true, if_false, ite_true, ite_false, reduceIte, Bool.not_true, Bool.not_false, Option.some.injEq, q_pow10, Int.reduceToNat, Int.reducePow, Int.reduceAdd, Int.reduceSub, Int.reduceMul, Int.reduceNeg, Int.reduceLT, Int.reduceLE, Nat.reducePow, Nat.reduceLT, Nat.reduceLeDiff, Nat.reduceAdd, List.length_cons, List.length_nil, Int.neg_neg, q_ixL g2, ai, q_eqS, decide_true]
        simp only [hx, decide_true]
        refine ⟨trivial, Lq.refl _, fun _ => ?_⟩
        simp? only [Int.zero_add]
        exact ⟨trivial, Lq.refl _⟩
      · simp only [wipeD, ev, M_bind, M_map, M_some, M_ite, t_eq, a_tup, al_eq, List.getElem?_cons_zero, List.getElem?_cons_succ, Option.bind_some, Option.map_some, q_add, q_sub, q_lt, q_le, q_gt, q_ge, q_eqI, q_neI, q_eqB, q_neB, q_isN, q_notN, Ix.isNon, q_ixT, q_ixR, atI_0, atI_1, atI_2, atI_3, atI_4, atI_5, atI_6, atI_7, q_slT, q_slR, q_revT, q_seqT, q_int, q_intB, q_max, q_min, q_abs, q_tupT, n_tup, n_int, n_bl, n_non, n_str, isi_ii, isi_ib, isi_tt, isi_itl, isi_btl, isi_ttl, isi_tl, isi_bb, u_bl, u_int, u_non, u_tup, g_name, g_tup, g_nil, g_cons, o_ret, o_nx, i_seq, List.set_cons_zero, List.set_cons_succ, decide_eq_true_eq, Bool.not_eq_true', decide_eq_false_iff_not, evP, Bool.false_eq_true, if_true, if_false, ite_true, ite_false, reduceIte, Bool.not_true, Bool.not_false, Option.some.injEq, q_pow10, Int.reduceToNat, Int.reducePow, Int.reduceAdd, Int.reduceSub, Int.reduceMul, Int.reduceNeg, Int.reduceLT, Int.reduceLE, Nat.reducePow, Nat.reduceLT, Nat.reduceLeDiff, Nat.reduceAdd, List.length_cons, List.length_nil, Int.neg_neg, q_ixL g2, ai, q_eqS, e, np', decide_false]
        simp only [hx, Option.some.injEq, e, decide_false]
        exact ⟨trivial, Lq.refl _, fun z => by cases z⟩
    · exact ⟨rfl, j, rfl, gj, by have := hS.lt; omega, hS.lq l2, l2.le⟩
  rintro _ S1 ⟨j, rfl, gj, jp, p1, l1⟩
  have LL : (L.map fun (v : Nat) => D.int (v : Int)).length = L.length := List.length_map _
  refine seq_Mx (ite_M ?_)
  simp_all? only []
  refine (pick_ok p1 (by omega) (by decide) (by decide)).imp ?_
  rintro _ ⟨z, S2, rfl, z0, z1, p2, l2⟩
  have gj2 := l2.at jp gj
  simp_all? only []
  by_cases hz : z = 0
  · simp only [hz, decide_true, if_true]
    obtain ⟨v, hv⟩ : ∃ v, L.getLast? = some v := ⟨_, List.getLast?_eq_some_getLast Lne⟩
    have ne : (L.map fun (v : Nat) => D.int (v : Int)) ≠ [] := fun e => by
      have := congrArg List.length e
      rw [LL] at this
      exact Lne (List.eq_nil_of_length_eq_zero this)
    have al : atI (L.map fun (v : Nat) => D.int (v : Int)) (-1) = some (.int (v : Int)) := by
      rw [atI_last ne]
      have e : (L.map fun (v : Nat) => D.int (v : Int)).getLast? = some (.int (v : Int)) := by rw [List.getLast?_map, hv]; rfl
      rw [List.getLast?_eq_some_getLast ne] at e
      exact e
    simp? only [q_ixL gj2, al]
    exact ⟨v, S2, rfl, Lmem v (List.mem_of_getLast? hv), p2.mono (by omega), l1.trans l2⟩
  · simp only [hz, decide_false, Bool.false_eq_true, if_false]
    rw [show ∀ env, ex (run T (n + 1)) .skip env S2 = some (.nx, env, S2) from fun _ => rfl]
    simp only [M_some]
    have Lp : 0 < L.length := List.length_pos_iff.mpr Lne
    simp? only [q_len (q_seqL gj2), LL]
    refine (pick_ok p2 (by omega) (by omega) (by omega)).imp ?_
    rintro _ ⟨y, S3, rfl, y0, y1, p3, l3⟩
    have gj3 := l3.at jp gj2
    obtain ⟨v, hv⟩ : ∃ v, L[y.toNat]? = some v := ⟨_, List.getElem?_eq_getElem (by omega)⟩
    have al : atI (L.map fun (v : Nat) => D.int (v : Int)) y = some (.int (v : Int)) := by
      rw [atI_lt y0 (by rw [LL]; omega), List.getElem?_map, hv]
      rfl
    simp? only [q_ixL gj3, al]
    exact ⟨v, S3, rfl, Lmem v (List.mem_of_getElem? hv), p3, l1.trans (l2.trans l3)⟩
end Lw

namespace Lw
open PySem L2 Ix
theorem q_neS {a b : Str} {S : Hd} : cmpD .ne (.str a) (.str b) S = some (.bl (!decide (a = b)), S) := rfl
theorem in_strs {S : Hd} {r : Nat} {ks : List Str} {kd : Str} (g : S[r]? = some (.lst (ks.map .str))) : cmpD .in_ (.str kd) (.ref r) S = some (.bl (decide (kd ∈ ks)), S) := by
  rw [q_in (x := .str kd) rfl (q_seqL g) (by rw [List.all_map, List.all_eq_true]; intro _ _; rfl)]
  congr 3
  rw [List.any_map, Bool.eq_iff_iff, List.any_eq_true, decide_eq_true_iff]
  constructor
  · rintro ⟨x, hx, e⟩
    have : x = kd := by simpa [eqF] using e
    rw [← this]; exact hx
  · intro h
    exact ⟨kd, h, by simp [eqF]⟩
theorem and_ev {Γ : Fs} {a b : E} {env : Sl} {S : Hd} {x y : Bool} (h1 : ev Γ a env S = some (.bl x, S)) (h2 : ev Γ b env S = some (.bl y, S)) : ev Γ (.and_ a b) env S = some (.bl (x && y), S) := by
  obtain ⟨v, e, q⟩ := M_andb (Γ := Γ) (a := a) (b := b) (env := env) (S := S) (Q := fun r => r = (.bl (x && y), S)) (M_is h1 (by
    cases x with
    | false => exact .inr ⟨rfl, rfl⟩
    | true => exact .inl ⟨rfl, M_is h2 rfl⟩))
  rw [e, q]
theorem ite_B {Γ : Fs} {c : E} {s t : Sx} {env : Sl} {S : Hd} {B : Bool} {Q : Out × Sl × Hd → Prop} (h : ev Γ c env S = some (.bl B, S)) (h1 : B = true → M (ex Γ s env S) Q) (h2 : B = false → M (ex Γ t env S) Q) : M (ex Γ (.ite c s t) env S) Q := by
  refine ite_M (tst_M (M_is h ⟨B, rfl, ?_⟩))
  cases B with
  | false => exact h2 rfl
  | true => exact h1 rfl
inductive Dd where
  | add (v : Nat) (m : Int) | plus (v s : Nat) | less (v s : Nat) | read (v p : Nat) | offset (v p : Nat) | edition (v p : Nat) | find (v p i j : Nat)
def ddD : Dd → D
  | .add v m => .tup [.str "add", .int (v : Int), .int m]
  | .plus v s => .tup [.str "plus", .int (v : Int), .int (s : Int)]
  | .less v s => .tup [.str "less", .int (v : Int), .int (s : Int)]
  | .read v p => .tup [.str "read", .int (v : Int), .int (p : Int)]
  | .offset v p => .tup [.str "offset", .int (v : Int), .int (p : Int)]
  | .edition v p => .tup [.str "edition", .int (v : Int), .int (p : Int)]
  | .find v p i j => .tup [.str "find", .int (v : Int), .int (p : Int), foldS i, gapS j]
def okD (nz : Nat) (ks : List Str) : Dd → Prop
  | .add v m => (∃ k, ks[v]? = some k ∧ k ≠ "span") ∧ -100000 ≤ m ∧ m ≤ 100000
  | .plus v s => ks[v]? = some "moment" ∧ ks[s]? = some "span"
  | .less v s => ks[v]? = some "reading" ∧ ks[s]? = some "span"
  | .read v p => ks[v]? = some "moment" ∧ p < nz
  | .offset v p => ks[v]? = some "moment" ∧ p < nz
  | .edition v p => ks[v]? = some "moment" ∧ p < nz
  | .find v p _ _ => ks[v]? = some "reading" ∧ p < nz
def kdO (ks : List Str) : Dd → Str
  | .add v _ => ks.getD v ""
  | .plus _ _ => "reading"
  | .less _ _ => "moment"
  | .read _ _ => "reading"
  | .offset _ _ => "span"
  | .edition _ _ => "moment"
  | .find _ _ _ _ => "moment"
def isEd : Dd → Bool
  | .edition _ _ => true
  | _ => false
theorem minutes_ok {n p c : Nat} {S : Hd} {zs : Zs} (hz : Belts zs) (hS : Bag p c S) (hc : c ≤ 900000) : M (run T (n + 2) 104 [.ref p, beltsD zs, .int 0] S) fun x => ∃ (v : Int) (S' : Hd), x = (.int v, S') ∧ -100000 ≤ v ∧ v ≤ 100000 ∧ Bag p (c + 5) S' ∧ Le p S S' := by
  have zl1 := hz.l1
  have zl2 := hz.l2
  refine run_M T_minutes rfl ?_
  show M (ex (run T (n + 1)) b_minutes [some (.ref p), some (beltsD zs), some (.int 0), none, none, none, none, none] S) _
  unfold b_minutes
  refine seq_Mx (ite_B (B := false) (by simp_all? only []; rfl) (fun h => by cases h) fun _ => ?_)
  rw [show ∀ env, ex (run T (n + 1)) .skip env S = some (.nx, env, S) from fun _ => rfl]
  simp only [M_some]
  refine seq_M (fun env S1 => ∃ (os : List Int) (sp : Int), env = [some (.ref p), some (beltsD zs), some (.int 0), some (.tup (os.map .int)), some (.int sp), none, none, none] ∧ Zone os sp ∧ Bag p (c + 1) S1 ∧ Le p S S1) ?_ ?_
  · have eb : ∀ S2, seqOf S2 (beltsD zs) = some (zs.map fun z => zoneD z.1 z.2) := fun S2 => rfl
    simp? only [q_len (eb _), List.length_map]
    refine (pick_ok hS (by omega) (by omega) (by omega)).imp ?_
    rintro _ ⟨y, S1, rfl, y0, y1, p1, l1⟩
    obtain ⟨z, hz1⟩ : ∃ z, zs[y.toNat]? = some z := ⟨_, List.getElem?_eq_getElem (by omega)⟩
    have ai : ixD (beltsD zs) (.int y) S1 = some (zoneD z.1 z.2, S1) := by
      show (atI (zs.map fun z => zoneD z.1 z.2) y).map _ = _
      rw [atI_lt y0 (by rw [List.length_map]; omega), List.getElem?_map, hz1]
      rfl
    simp? only [ai]
    unfold zoneD
    simp? only []
    exact ⟨trivial, z.1, z.2, rfl, hz.zone z (List.mem_of_getElem? hz1), p1, l1⟩
  rintro _ S1 ⟨os, sp, rfl, hzo, p1, l1⟩
  obtain ⟨a, b, ha, hb, e0, e1, hab⟩ := ends hzo.len1 hzo.len3 hzo.asc
  have gp := hzo.gap a ha b hb
  have ab := hab a ha
  have la := hzo.lo a ha
  have ub := hzo.hi b hb
  have tp := hzo.top
  refine seq_M (fun env S2 => env = [some (.ref p), some (beltsD zs), some (.int 0), some (.tup (os.map .int)), some (.int sp), some (.int (b - a)), none, none] ∧ S1 = S2) ?_ ?_
  · simp? only [e0, e1]
    exact ⟨trivial, trivial, trivial⟩
  rintro _ _ ⟨rfl, rfl⟩
  refine seq_M (fun env S2 => ∃ (k : Nat) (y : Int), env = [some (.ref p), some (beltsD zs), some (.int 0), some (.tup (os.map .int)), some (.int sp), some (.int (b - a)), some (.ref k), none] ∧ 0 ≤ y ∧ k ≠ p ∧ S2[k]? = some (.lst ([1, sp, b - a, 60, 100000, y, 300, sp - (b - a), sp + (b - a)].map .int)) ∧ Bag p (c + 2) S2 ∧ Le p S S2) ?_ ?_
  · simp? only []
    refine (pick_ok p1 (by omega) (by decide) (by decide)).imp ?_
    rintro _ ⟨y, S2, rfl, y0, y1, p2, l2⟩
    simp? only [show (9 : Nat) ≤ most by decide]
    exact ⟨trivial, _, y, rfl, y0, p2.ne, get_new, p2.app _, l1.trans (l2.trans (Le.app _ _ _))⟩
  rintro _ S2 ⟨k, y, rfl, y0, kp, gk, p2, l2⟩
  refine seq_M (fun env S3 => ∃ (v : Int), env = [some (.ref p), some (beltsD zs), some (.int 0), some (.tup (os.map .int)), some (.int sp), some (.int (b - a)), some (.ref k), some (.int v)] ∧ -1 ≤ v ∧ v ≤ 100000 ∧ Bag p (c + 4) S3 ∧ Le p S S3) ?_ ?_
  · simp? only []
    refine (pick_ok p2 (by omega) (by decide) (by decide)).imp ?_
    rintro _ ⟨x, S3, rfl, x0, x1, p3, l3⟩
    have gk3 := l3.at kp gk
    obtain ⟨v, _, vm, hv⟩ := atI_ints (ns := [1, sp, b - a, 60, 100000, y, 300, sp - (b - a), sp + (b - a)]) x0 x1
    simp only [List.mem_cons, List.not_mem_nil, or_false] at vm
    simp? only [q_ixL gk3, hv]
    refine (pick_ok p3 (by omega) (by decide) (by decide)).imp ?_
    rintro _ ⟨t, S4, rfl, t0, t1, p4, l4⟩
    simp? only []
    refine ⟨trivial, _, rfl, ?_, ?_, p4, l2.trans (l3.trans l4)⟩
    · split <;> omega
    · split <;> omega
  rintro _ S3 ⟨v, rfl, v0, v1, p3, l3⟩
  simp? only []
  refine (pick_ok p3 (by omega) (by decide) (by decide)).imp ?_
  rintro _ ⟨t, S4, rfl, t0, t1, p4, l4⟩
  simp? only [q_mul (i := 2) (j := t) (by decide) (by decide) (by omega) (by omega), q_mul (i := v) (j := 1 - 2 * t) (by omega) (by omega) (by omega) (by omega)]
  have tt : t = 0 ∨ t = 1 := by omega
  refine ⟨_, S4, rfl, ?_, ?_, p4, l3.trans l4⟩
  · rcases tt with rfl | rfl <;> omega
  · rcases tt with rfl | rfl <;> omega
end Lw

namespace Lw
open PySem L2 Ix
def wd : Dd → Str
  | .add _ _ => "add"
  | .plus _ _ => "plus"
  | .less _ _ => "less"
  | .read _ _ => "read"
  | .offset _ _ => "offset"
  | .edition _ _ => "edition"
  | .find _ _ _ _ => "find"
theorem dd_0 {S : Hd} (d : Dd) : ixD (ddD d) (.int 0) S = some (.str (wd d), S) := by cases d <;> rfl
theorem wd_ed : ∀ d : Dd, decide (wd d = "edition") = isEd d
  | .add _ _ => decide_eq_false (show ¬ ("add" : Str) = "edition" by decide)
  | .plus _ _ => decide_eq_false (show ¬ ("plus" : Str) = "edition" by decide)
  | .less _ _ => decide_eq_false (show ¬ ("less" : Str) = "edition" by decide)
  | .read _ _ => decide_eq_false (show ¬ ("read" : Str) = "edition" by decide)
  | .offset _ _ => decide_eq_false (show ¬ ("offset" : Str) = "edition" by decide)
  | .edition _ _ => decide_eq_true rfl
  | .find _ _ _ _ => decide_eq_false (show ¬ ("find" : Str) = "edition" by decide)
end Lw

namespace Lw
open PySem L2 Ix
def rowOf (plan : List Dd) : List Str := plan.foldl (fun ks d => ks ++ [kdO ks d]) ["moment"]
theorem rowOf_snoc {plan : List Dd} {d : Dd} : rowOf (plan ++ [d]) = rowOf plan ++ [kdO (rowOf plan) d] := by simp [rowOf, List.foldl_append]
theorem row_len : ∀ (plan : List Dd) (ks : List Str), (plan.foldl (fun ks d => ks ++ [kdO ks d]) ks).length = ks.length + plan.length
  | [], ks => rfl
  | d :: plan, ks => by
    rw [List.foldl_cons, row_len plan]
    simp
    omega
theorem row_mem {x : Str} : ∀ (plan : List Dd) (ks : List Str), x ∈ ks → x ∈ plan.foldl (fun ks d => ks ++ [kdO ks d]) ks
  | [], ks, h => h
  | d :: plan, ks, h => row_mem plan _ (List.mem_append_left _ h)
theorem rowOf_len (plan : List Dd) : (rowOf plan).length = plan.length + 1 := by
  unfold rowOf
  rw [row_len, List.length_singleton]
  omega
theorem rowOf_mom (plan : List Dd) : ("moment" : Str) ∈ rowOf plan := row_mem plan _ (List.mem_singleton.mpr rfl)
structure Valid (nz : Nat) (plan : List Dd) : Prop where
  ok : ∀ (t : Nat) (d : Dd), plan[t]? = some d → okD nz (rowOf (plan.take t)) d
  short : plan.length ≤ 8
  one : (plan.filter isEd).length ≤ 1
theorem valid_snoc {nz : Nat} {plan : List Dd} {d : Dd} (h : ∀ (t : Nat) (d : Dd), plan[t]? = some d → okD nz (rowOf (plan.take t)) d) (hd : okD nz (rowOf plan) d) : ∀ (t : Nat) (x : Dd), (plan ++ [d])[t]? = some x → okD nz (rowOf ((plan ++ [d]).take t)) x := fun t x hx => by
  by_cases q : t < plan.length
  · rw [List.getElem?_append_left q] at hx
    rw [List.take_append_of_le_length (by omega)]
    exact h t x hx
  · have tl := (List.getElem?_eq_some_iff.mp hx).1
    rw [List.length_append, List.length_singleton] at tl
    have e : t = plan.length := by omega
    subst e
    rw [List.getElem?_append_right (Nat.le_refl _), Nat.sub_self] at hx
    cases hx
    rw [List.take_append_of_le_length (Nat.le_refl _), List.take_length]
    exact hd
def planD (plan : List Dd) : D := .tup (plan.map ddD)
end Lw

namespace Lw
open PySem L2 Ix
theorem isi_fst {S : Hd} {z : Str} : bltD .isi [.str z, .ty "str"] S = some (.bl true, S) := isi_ss
theorem dd_len (d : Dd) : ∃ m : Nat, ∀ S, bltD .len [ddD d] S = some (.int ((m + 1 : Nat) : Int), S) := by
  cases d with
  | find v p i j => exact ⟨4, fun _ => rfl⟩
  | _ => exact ⟨2, fun _ => rfl⟩
theorem dd_tup (d : Dd) (S : Hd) : bltD .isi [ddD d, .ty "tuple"] S = some (.bl true, S) := by cases d <;> exact isi_tt
theorem first_word_ok {n : Nat} {S : Hd} (d : Dd) : Pu (run T (n + 1) 84 [ddD d] S) (.str (wd d)) S := by
  refine Pu.run T_first_word rfl ?_
  show M (ex (run T n) b_first_word [some (ddD d)] S) _
  unfold b_first_word
  obtain ⟨m, hm⟩ := dd_len d
  refine seq_Mx (ite_B (B := true) (and_ev (x := true) (y := true) (by simp_all? only [dd_tup]) (and_ev (x := true) (y := true) (by simp_all? only [hm]; rw [decide_eq_true (show (0 : Int) < ((m + 1 : Nat) : Int) by omega)]) (by simp_all? only [dd_0, isi_fst]))) (fun _ => ?_) (fun h => by cases h))
  simp? only [dd_0]
  exact ⟨trivial, Lq.refl _⟩
theorem is_zones_ok {n : Nat} {S : Hd} {zs : Zs} (hz : Belts zs) : Pu (run T (n + 5) 85 [beltsD zs] S) (.bl true) S := by
  have hm := most_big
  have l1 := hz.l1
  have l2 := hz.l2
  refine Pu.run T_is_zones rfl ?_
  show M (ex (run T (n + 4)) b_is_zones [some (beltsD zs), none] S) _
  unfold b_is_zones
  have eb : ∀ S2, seqOf S2 (beltsD zs) = some (zs.map fun z => zoneD z.1 z.2) := fun S2 => rfl
  have et : ∀ S2, bltD .isi [beltsD zs, .ty "tuple"] S2 = some (.bl true, S2) := fun S2 => isi_tt
  refine seq_Mx (ite_B (B := false) (by simp_all? only [et, q_len (eb _), List.length_map, show ((1 : Int) ≤ (zs.length : Int)) = True from eq_true (by omega), show ((zs.length : Int) ≤ 2) = True from eq_true (by omega), decide_true]) (fun h => by cases h) fun _ => ?_)
  rw [show ∀ env, ex (run T (n + 4)) .skip env S = some (.nx, env, S) from fun _ => rfl]
  simp only [M_some]
  refine M.imp (P := fun x => ∃ S', x = (.ret (.bl true), [some (beltsD zs), none], S') ∧ Lq S S') (ret_M (M_allT (S1 := S) (ds := [beltsD zs]) (its := zs.map fun z => zoneD z.1 z.2) (by decide) (by simp_all? only []) (Lq.refl _) rfl (by rw [List.length_map]; omega) (fun i d S9 hi l9 => ?_) (fun _ _ => rfl) fun S9 l9 => ⟨S9, rfl, l9⟩)) ?_
  · obtain ⟨z, hzi, hzm, rfl⟩ := map_get hi
    refine ⟨_, rfl, ?_⟩
    simp? only [wipeD]
    refine (is_zone_ok (hz.zone z hzm)).use fun S10 l10 => ?_
    exact ⟨rfl, l10⟩
  rintro _ ⟨S', rfl, l⟩
  simp? only []
  exact ⟨trivial, l⟩
theorem check_zones_ok {n : Nat} {S : Hd} {zs : Zs} (hz : Belts zs) : Pu (run T (n + 6) 86 [beltsD zs] S) .non S := by
  refine Pu.run T_check_zones rfl ?_
  show M (ex (run T (n + 5)) b_check_zones [some (beltsD zs)] S) _
  unfold b_check_zones
  refine ite_M ?_
  simp_all? only []
  refine (is_zones_ok hz).use fun S1 l1 => ?_
  simp_all? only []
  simp? only []
  exact ⟨trivial, l1⟩
theorem is_place_ok {n y : Nat} {S : Hd} {zs : Zs} (hy : y < zs.length) : Pu (run T (n + 2) 87 [beltsD zs, .int (y : Int)] S) (.bl true) S := by
  refine Pu.run T_is_place rfl ?_
  show M (ex (run T (n + 1)) b_is_place [some (beltsD zs), some (.int (y : Int))] S) _
  unfold b_is_place
  have eb : ∀ S2, seqOf S2 (beltsD zs) = some (zs.map fun z => zoneD z.1 z.2) := fun S2 => rfl
  simp? only []
  refine is_number_ok.use fun S1 l1 => ?_
  simp? only [q_len (eb _), List.length_map, show ((0 : Int) ≤ (y : Int)) = True from eq_true (by omega), show ((y : Int) < (zs.length : Int)) = True from eq_true (by omega), decide_true]
  exact ⟨trivial, l1⟩
theorem is_index_ok {n v r : Nat} {S : Hd} {ks : List Str} (g : S[r]? = some (.lst (ks.map .str))) (hv : v < ks.length) : Pu (run T (n + 2) 88 [.ref r, .int (v : Int)] S) (.bl true) S := by
  refine Pu.run T_is_index rfl ?_
  show M (ex (run T (n + 1)) b_is_index [some (.ref r), some (.int (v : Int))] S) _
  unfold b_is_index
  simp? only []
  refine is_number_ok.use fun S1 l1 => ?_
  simp? only [q_len (q_seqL (l1 _ _ g)), List.length_map, show ((0 : Int) ≤ (v : Int)) = True from eq_true (by omega), show ((v : Int) < (ks.length : Int)) = True from eq_true (by omega), decide_true]
  exact ⟨trivial, l1⟩
theorem str_at {ks : List Str} {v : Nat} {k : Str} (h : ks[v]? = some k) : atI (ks.map D.str) (v : Int) = some (.str k) := by
  have := (List.getElem?_eq_some_iff.mp h).1
  rw [atI_lt (by omega) (by rw [List.length_map]; omega), Int.toNat_natCast, List.getElem?_map, h]
  rfl
theorem is_time_ok {n v r : Nat} {S : Hd} {ks : List Str} {k : Str} (g : S[r]? = some (.lst (ks.map .str))) (hv : ks[v]? = some k) (hk : k ≠ "span") : Pu (run T (n + 3) 89 [.ref r, .int (v : Int)] S) (.bl true) S := by
  have lv := (List.getElem?_eq_some_iff.mp hv).1
  refine Pu.run T_is_time rfl ?_
  show M (ex (run T (n + 2)) b_is_time [some (.ref r), some (.int (v : Int))] S) _
  unfold b_is_time
  simp? only []
  refine (is_index_ok g lv).use fun S1 l1 => ?_
  simp? only [q_ixL (l1 _ _ g), str_at hv, q_neS, hk, decide_false]
  exact ⟨trivial, l1⟩
end Lw

namespace Lw
open PySem L2 Ix
inductive RoleOk (nz : Nat) (ks : List Str) : Str → D → Prop where
  | place (y : Nat) (h : y < nz) : RoleOk nz ks "place" (.int (y : Int))
  | fold (i : Nat) : RoleOk nz ks "fold" (foldS i)
  | gap (i : Nat) : RoleOk nz ks "gap" (gapS i)
  | minutes (m : Int) (h1 : -100000 ≤ m) (h2 : m ≤ 100000) : RoleOk nz ks "minutes" (.int m)
  | time (v : Nat) (k : Str) (h : ks[v]? = some k) (hk : k ≠ "span") : RoleOk nz ks "time" (.int (v : Int))
  | mom (v : Nat) (h : ks[v]? = some "moment") : RoleOk nz ks "moment" (.int (v : Int))
  | rea (v : Nat) (h : ks[v]? = some "reading") : RoleOk nz ks "reading" (.int (v : Int))
  | spa (v : Nat) (h : ks[v]? = some "span") : RoleOk nz ks "span" (.int (v : Int))
theorem fits_role_ok {n r : Nat} {S : Hd} {zs : Zs} {ks : List Str} {role : Str} {item : D} (g : S[r]? = some (.lst (ks.map .str))) (h : RoleOk zs.length ks role item) : Pu (run T (n + 4) 90 [beltsD zs, .ref r, .str role, item] S) (.bl true) S := by
  refine Pu.run T_fits_role rfl ?_
  show M (ex (run T (n + 3)) b_fits_role [some (beltsD zs), some (.ref r), some (.str role), some item] S) _
  unfold b_fits_role
  cases h with
  | place y h =>
    refine seq_Mx (ite_B (B := true) (by simp_all? only [q_eqS, decide_true]) (fun _ => ?_) (fun h => by cases h))
    simp? only []
    refine (is_place_ok h).use fun S1 l1 => ?_
    simp? only []
    exact ⟨trivial, l1⟩
  | fold i =>
    refine seq_Mx (ite_B (B := false) (by simp_all? only [q_eqS]; rw [decide_eq_false (by decide)]) (fun h => by cases h) fun _ => ?_)
    rw [show ∀ env S, ex (run T (n + 3)) .skip env S = some (.nx, env, S) from fun _ _ => rfl]
    simp only [M_some]
    have ef : foldS i = match i with | 0 => .str "early" | 1 => .str "late" | _ => .str "refuse" := by
      match i with
      | 0 => rfl
      | 1 => rfl
      | i + 2 => rfl
    rw [ef]
    refine seq_Mx (ite_B (B := true) (by simp_all? only [q_eqS, decide_true]) (fun _ => ?_) (fun h => by cases h))
    simp? only []
    refine (is_rule_ok i).use fun S1 l1 => ?_
    simp? only []
    exact ⟨trivial, l1⟩
  | gap i =>
    refine seq_Mx (ite_B (B := false) (by simp_all? only [q_eqS]; rw [decide_eq_false (by decide)]) (fun h => by cases h) fun _ => ?_)
    rw [show ∀ env S, ex (run T (n + 3)) .skip env S = some (.nx, env, S) from fun _ _ => rfl]
    simp only [M_some]
    refine seq_Mx (ite_B (B := false) (by simp_all? only [q_eqS]; rw [decide_eq_false (by decide)]) (fun h => by cases h) fun _ => ?_)
    rw [show ∀ env S, ex (run T (n + 3)) .skip env S = some (.nx, env, S) from fun _ _ => rfl]
    simp only [M_some]
    have ef : gapS i = match i with | 0 => .str "ahead" | 1 => .str "behind" | _ => .str "refuse" := by
      match i with
      | 0 => rfl
      | 1 => rfl
      | i + 2 => rfl
    rw [ef]
    refine seq_Mx (ite_B (B := true) (by simp_all? only [q_eqS, decide_true]) (fun _ => ?_) (fun h => by cases h))
    simp? only []
    refine (is_rule_ok i).use fun S1 l1 => ?_
    simp? only []
    exact ⟨trivial, l1⟩
  | minutes m h1 h2 =>
    refine seq_Mx (ite_B (B := false) (by simp_all? only [q_eqS]; rw [decide_eq_false (by decide)]) (fun h => by cases h) fun _ => ?_)
    rw [show ∀ env S, ex (run T (n + 3)) .skip env S = some (.nx, env, S) from fun _ _ => rfl]
    simp only [M_some]
    refine seq_Mx (ite_B (B := false) (by simp_all? only [q_eqS]; rw [decide_eq_false (by decide)]) (fun h => by cases h) fun _ => ?_)
    rw [show ∀ env S, ex (run T (n + 3)) .skip env S = some (.nx, env, S) from fun _ _ => rfl]
    simp only [M_some]
    refine seq_Mx (ite_B (B := false) (by simp_all? only [q_eqS]; rw [decide_eq_false (by decide)]) (fun h => by cases h) fun _ => ?_)
    rw [show ∀ env S, ex (run T (n + 3)) .skip env S = some (.nx, env, S) from fun _ _ => rfl]
    simp only [M_some]
    refine seq_Mx (ite_B (B := true) (by simp_all? only [q_eqS, decide_true]) (fun _ => ?_) (fun h => by cases h))
    simp? only []
    refine is_number_ok.use fun S1 l1 => ?_
    simp? only [h1, h2, decide_true]
    exact ⟨trivial, l1⟩
  | time v k h hk =>
    refine seq_Mx (ite_B (B := false) (by simp_all? only [q_eqS]; rw [decide_eq_false (by decide)]) (fun h => by cases h) fun _ => ?_)
    rw [show ∀ env S, ex (run T (n + 3)) .skip env S = some (.nx, env, S) from fun _ _ => rfl]
    simp only [M_some]
    refine seq_Mx (ite_B (B := false) (by simp_all? only [q_eqS]; rw [decide_eq_false (by decide)]) (fun h => by cases h) fun _ => ?_)
    rw [show ∀ env S, ex (run T (n + 3)) .skip env S = some (.nx, env, S) from fun _ _ => rfl]
    simp only [M_some]
    refine seq_Mx (ite_B (B := false) (by simp_all? only [q_eqS]; rw [decide_eq_false (by decide)]) (fun h => by cases h) fun _ => ?_)
    rw [show ∀ env S, ex (run T (n + 3)) .skip env S = some (.nx, env, S) from fun _ _ => rfl]
    simp only [M_some]
    refine seq_Mx (ite_B (B := false) (by simp_all? only [q_eqS]; rw [decide_eq_false (by decide)]) (fun h => by cases h) fun _ => ?_)
    rw [show ∀ env S, ex (run T (n + 3)) .skip env S = some (.nx, env, S) from fun _ _ => rfl]
    simp only [M_some]
    refine seq_Mx (ite_B (B := true) (by simp_all? only [q_eqS, decide_true]) (fun _ => ?_) (fun h => by cases h))
    simp? only []
    refine (is_time_ok g h hk).use fun S1 l1 => ?_
    simp? only []
    exact ⟨trivial, l1⟩
  | mom v h =>
    refine seq_Mx (ite_B (B := false) (by simp_all? only [q_eqS]; rw [decide_eq_false (by decide)]) (fun h => by cases h) fun _ => ?_)
    rw [show ∀ env S, ex (run T (n + 3)) .skip env S = some (.nx, env, S) from fun _ _ => rfl]
    simp only [M_some]
    refine seq_Mx (ite_B (B := false) (by simp_all? only [q_eqS]; rw [decide_eq_false (by decide)]) (fun h => by cases h) fun _ => ?_)
    rw [show ∀ env S, ex (run T (n + 3)) .skip env S = some (.nx, env, S) from fun _ _ => rfl]
    simp only [M_some]
    refine seq_Mx (ite_B (B := false) (by simp_all? only [q_eqS]; rw [decide_eq_false (by decide)]) (fun h => by cases h) fun _ => ?_)
    rw [show ∀ env S, ex (run T (n + 3)) .skip env S = some (.nx, env, S) from fun _ _ => rfl]
    simp only [M_some]
    refine seq_Mx (ite_B (B := false) (by simp_all? only [q_eqS]; rw [decide_eq_false (by decide)]) (fun h => by cases h) fun _ => ?_)
    rw [show ∀ env S, ex (run T (n + 3)) .skip env S = some (.nx, env, S) from fun _ _ => rfl]
    simp only [M_some]
    refine seq_Mx (ite_B (B := false) (by simp_all? only [q_eqS]; rw [decide_eq_false (by decide)]) (fun h => by cases h) fun _ => ?_)
    rw [show ∀ env S, ex (run T (n + 3)) .skip env S = some (.nx, env, S) from fun _ _ => rfl]
    simp only [M_some]
    have lv := (List.getElem?_eq_some_iff.mp h).1
    simp? only []
    refine (is_index_ok g lv).use fun S1 l1 => ?_
    simp? only [q_ixL (l1 _ _ g), str_at h, q_eqS, decide_true]
    exact ⟨trivial, l1⟩
  | rea v h =>
    refine seq_Mx (ite_B (B := false) (by simp_all? only [q_eqS]; rw [decide_eq_false (by decide)]) (fun h => by cases h) fun _ => ?_)
    rw [show ∀ env S, ex (run T (n + 3)) .skip env S = some (.nx, env, S) from fun _ _ => rfl]
    simp only [M_some]
    refine seq_Mx (ite_B (B := false) (by simp_all? only [q_eqS]; rw [decide_eq_false (by decide)]) (fun h => by cases h) fun _ => ?_)
    rw [show ∀ env S, ex (run T (n + 3)) .skip env S = some (.nx, env, S) from fun _ _ => rfl]
    simp only [M_some]
    refine seq_Mx (ite_B (B := false) (by simp_all? only [q_eqS]; rw [decide_eq_false (by decide)]) (fun h => by cases h) fun _ => ?_)
    rw [show ∀ env S, ex (run T (n + 3)) .skip env S = some (.nx, env, S) from fun _ _ => rfl]
    simp only [M_some]
    refine seq_Mx (ite_B (B := false) (by simp_all? only [q_eqS]; rw [decide_eq_false (by decide)]) (fun h => by cases h) fun _ => ?_)
    rw [show ∀ env S, ex (run T (n + 3)) .skip env S = some (.nx, env, S) from fun _ _ => rfl]
    simp only [M_some]
    refine seq_Mx (ite_B (B := false) (by simp_all? only [q_eqS]; rw [decide_eq_false (by decide)]) (fun h => by cases h) fun _ => ?_)
    rw [show ∀ env S, ex (run T (n + 3)) .skip env S = some (.nx, env, S) from fun _ _ => rfl]
    simp only [M_some]
    have lv := (List.getElem?_eq_some_iff.mp h).1
    simp? only []
    refine (is_index_ok g lv).use fun S1 l1 => ?_
    simp? only [q_ixL (l1 _ _ g), str_at h, q_eqS, decide_true]
    exact ⟨trivial, l1⟩
  | spa v h =>
    refine seq_Mx (ite_B (B := false) (by simp_all? only [q_eqS]; rw [decide_eq_false (by decide)]) (fun h => by cases h) fun _ => ?_)
    rw [show ∀ env S, ex (run T (n + 3)) .skip env S = some (.nx, env, S) from fun _ _ => rfl]
    simp only [M_some]
    refine seq_Mx (ite_B (B := false) (by simp_all? only [q_eqS]; rw [decide_eq_false (by decide)]) (fun h => by cases h) fun _ => ?_)
    rw [show ∀ env S, ex (run T (n + 3)) .skip env S = some (.nx, env, S) from fun _ _ => rfl]
    simp only [M_some]
    refine seq_Mx (ite_B (B := false) (by simp_all? only [q_eqS]; rw [decide_eq_false (by decide)]) (fun h => by cases h) fun _ => ?_)
    rw [show ∀ env S, ex (run T (n + 3)) .skip env S = some (.nx, env, S) from fun _ _ => rfl]
    simp only [M_some]
    refine seq_Mx (ite_B (B := false) (by simp_all? only [q_eqS]; rw [decide_eq_false (by decide)]) (fun h => by cases h) fun _ => ?_)
    rw [show ∀ env S, ex (run T (n + 3)) .skip env S = some (.nx, env, S) from fun _ _ => rfl]
    simp only [M_some]
    refine seq_Mx (ite_B (B := false) (by simp_all? only [q_eqS]; rw [decide_eq_false (by decide)]) (fun h => by cases h) fun _ => ?_)
    rw [show ∀ env S, ex (run T (n + 3)) .skip env S = some (.nx, env, S) from fun _ _ => rfl]
    simp only [M_some]
    have lv := (List.getElem?_eq_some_iff.mp h).1
    simp? only []
    refine (is_index_ok g lv).use fun S1 l1 => ?_
    simp? only [q_ixL (l1 _ _ g), str_at h, q_eqS, decide_true]
    exact ⟨trivial, l1⟩
def rolesD : Dd → List Str
  | .add _ _ => ["time", "minutes"]
  | .plus _ _ => ["moment", "span"]
  | .less _ _ => ["reading", "span"]
  | .read _ _ => ["moment", "place"]
  | .offset _ _ => ["moment", "place"]
  | .edition _ _ => ["moment", "place"]
  | .find _ _ _ _ => ["reading", "place", "fold", "gap"]
def restD : Dd → List D
  | .add v m => [.int (v : Int), .int m]
  | .plus v s => [.int (v : Int), .int (s : Int)]
  | .less v s => [.int (v : Int), .int (s : Int)]
  | .read v p => [.int (v : Int), .int (p : Int)]
  | .offset v p => [.int (v : Int), .int (p : Int)]
  | .edition v p => [.int (v : Int), .int (p : Int)]
  | .find v p i j => [.int (v : Int), .int (p : Int), foldS i, gapS j]
theorem dd_rest (d : Dd) : ddD d = .tup (.str (wd d) :: restD d) := by cases d <;> rfl
theorem roles_len (d : Dd) : (rolesD d).length = (restD d).length ∧ (restD d).length ≤ 4 := by cases d <;> exact ⟨rfl, by simp [restD]⟩
abbrev stepT : List (Str × D) := [("read", .tup [.str "moment", .str "place"]), ("find", .tup [.str "reading", .str "place", .str "fold", .str "gap"]), ("offset", .tup [.str "moment", .str "place"]), ("edition", .tup [.str "moment", .str "place"]), ("plus", .tup [.str "moment", .str "span"]), ("less", .tup [.str "reading", .str "span"]), ("add", .tup [.str "time", .str "minutes"])]
theorem step_look (d : Dd) : lookC stepT (wd d) = some (.tup ((rolesD d).map .str)) := by cases d <;> rfl
theorem role_ok {nz : Nat} {ks : List Str} {d : Dd} (h : okD nz ks d) : ∀ (i : Nat) (role : Str) (item : D), (rolesD d)[i]? = some role → (restD d)[i]? = some item → RoleOk nz ks role item := fun i role item h1 h2 => by
  cases d with
  | add v m =>
    obtain ⟨⟨k, hk, ns⟩, m1, m2⟩ := h
    match i, h1, h2 with
    | 0, h1, h2 => cases h1; cases h2; exact .time v k hk ns
    | 1, h1, h2 => cases h1; cases h2; exact .minutes m m1 m2
    | _ + 2, h1, _ => cases h1
  | plus v s =>
    match i, h1, h2 with
    | 0, h1, h2 => cases h1; cases h2; exact .mom v h.1
    | 1, h1, h2 => cases h1; cases h2; exact .spa s h.2
    | _ + 2, h1, _ => cases h1
  | less v s =>
    match i, h1, h2 with
    | 0, h1, h2 => cases h1; cases h2; exact .rea v h.1
    | 1, h1, h2 => cases h1; cases h2; exact .spa s h.2
    | _ + 2, h1, _ => cases h1
  | find v p a b =>
    match i, h1, h2 with
    | 0, h1, h2 => cases h1; cases h2; exact .rea v h.1
    | 1, h1, h2 => cases h1; cases h2; exact .place p h.2
    | 2, h1, h2 => cases h1; cases h2; exact .fold a
    | 3, h1, h2 => cases h1; cases h2; exact .gap b
    | _ + 4, h1, _ => cases h1
  | read v p =>
    match i, h1, h2 with
    | 0, h1, h2 => cases h1; cases h2; exact .mom v h.1
    | 1, h1, h2 => cases h1; cases h2; exact .place p h.2
    | _ + 2, h1, _ => cases h1
  | offset v p =>
    match i, h1, h2 with
    | 0, h1, h2 => cases h1; cases h2; exact .mom v h.1
    | 1, h1, h2 => cases h1; cases h2; exact .place p h.2
    | _ + 2, h1, _ => cases h1
  | edition v p =>
    match i, h1, h2 with
    | 0, h1, h2 => cases h1; cases h2; exact .mom v h.1
    | 1, h1, h2 => cases h1; cases h2; exact .place p h.2
    | _ + 2, h1, _ => cases h1
end Lw

namespace Lw
open PySem L2 Ix
theorem is_step_ok {n r : Nat} {S : Hd} {zs : Zs} {ks : List Str} {d : Dd} (g : S[r]? = some (.lst (ks.map .str))) (h : okD zs.length ks d) : Pu (run T (n + 5) 91 [beltsD zs, .ref r, ddD d] S) (.bl true) S := by
  have hm := most_big
  obtain ⟨rl, r4⟩ := roles_len d
  refine Pu.run T_is_step rfl ?_
  show M (ex (run T (n + 4)) b_is_step [some (beltsD zs), some (.ref r), some (ddD d), none, none, none] S) _
  unfold b_is_step
  refine seq_M (fun env S1 => env = [some (beltsD zs), some (.ref r), some (ddD d), some (.tup ((rolesD d).map .str)), none, none] ∧ Lq S S1) ?_ ?_
  · simp? only []
    refine (first_word_ok d).use fun S1 l1 => ?_
    refine M_is (v := (.tup ((rolesD d).map .str), S1)) ?_ ⟨trivial, rfl, l1⟩
    show some ((lookC stepT (wd d)).getD .non, S1) = _
    rw [step_look]
    rfl
  rintro _ S1 ⟨rfl, l1⟩
  have ln : ∀ S, bltD .len [ddD d] S = some (.int ((restD d).length + 1 : Nat), S) := fun S => by
    rw [dd_rest]
    rfl
  have lr : ∀ S, bltD .len [D.tup ((rolesD d).map .str)] S = some (.int ((rolesD d).length : Nat), S) := fun S => by
    rw [q_len q_seqT, List.length_map]
  refine seq_Mx (ite_M (tst_M (M_or (M_is (v := (.bl false, S1)) (by simp_all? only []) (.inl ⟨rfl, M_is (v := (.bl false, S1)) (by simp_all? only [ln, lr, q_neI]; rw [decide_eq_true (by omega)]; rfl) ⟨false, rfl, ?_⟩⟩)))))
  simp only [Bool.false_eq_true, if_false]
  rw [show ∀ env, ex (run T (n + 4)) .skip env S1 = some (.nx, env, S1) from fun _ => rfl]
  simp only [M_some]
  have sl : ∀ S, slD (ddD d) (some 1) none S = some (.tup (restD d), S) := fun S => by
    rw [dd_rest, q_slT, cut_1]
    rfl
  have zl : (List.zipWith (fun a b => D.tup [a, b]) ((rolesD d).map .str) (restD d)).length ≤ 4 := by rw [List.length_zipWith]; omega
  refine M.imp (P := fun x => ∃ S', x = (.ret (.bl true), [some (beltsD zs), some (.ref r), some (ddD d), some (.tup ((rolesD d).map .str)), none, none], S') ∧ Lq S S') (ret_M (M_allT (S1 := S1) (ds := [.tup ((rolesD d).map .str), .tup (restD d)]) (its := List.zipWith (fun a b => D.tup [a, b]) ((rolesD d).map .str) (restD d)) (by decide) (by simp_all? only [sl]) (Lq.refl _) rfl (by omega) (fun i x S9 hi l9 => ?_) (fun _ _ => rfl) fun S9 l9 => ⟨S9, rfl, l1.trans l9⟩)) ?_
  · rw [List.getElem?_zipWith] at hi
    cases h1 : (rolesD d)[i]? with
    | none => simp [h1] at hi
    | some role =>
      cases h2 : (restD d)[i]? with
      | none => simp [h1, h2] at hi
      | some item =>
        simp [h1, h2] at hi
        subst hi
        refine ⟨_, rfl, ?_⟩
        simp? only [wipeD]
        refine (fits_role_ok (n := n) ((l1.trans l9) _ _ g) (role_ok h i role item h1 h2)).use fun S10 l10 => ?_
        exact ⟨rfl, l10⟩
  rintro _ ⟨S', rfl, l⟩
  simp? only []
  exact ⟨trivial, l⟩
theorem made_kind_ok {n r nz : Nat} {S : Hd} {ks : List Str} {d : Dd} (g : S[r]? = some (.lst (ks.map .str))) (h : okD nz ks d) : Pu (run T (n + 1) 92 [.ref r, ddD d] S) (.str (kdO ks d)) S := by
  refine Pu.run T_made_kind rfl ?_
  show M (ex (run T n) b_made_kind [some (.ref r), some (ddD d)] S) _
  unfold b_made_kind
  cases d with
  | add v m =>
    obtain ⟨⟨k, hk, _⟩, _, _⟩ := h
    have e0 : ∀ S, ixD (ddD (.add v m)) (.int 0) S = some (.str "add", S) := fun _ => rfl
    have e1 : ∀ S, ixD (ddD (.add v m)) (.int 1) S = some (.int (v : Int), S) := fun _ => rfl
    refine seq_Mx (ite_B (B := true) (by simp_all? only [e0, q_eqS, decide_true]) (fun _ => ?_) (fun h => by cases h))
    simp? only [e1, q_ixL g, str_at hk]
    exact ⟨by simp [kdO, hk], Lq.refl _⟩
  | _ =>
    refine seq_Mx (ite_B (B := false) (by simp_all? only [dd_0, wd, q_eqS]; rw [decide_eq_false (by decide)]) (fun h => by cases h) fun _ => ?_)
    rw [show ∀ env, ex (run T n) .skip env S = some (.nx, env, S) from fun _ => rfl]
    simp only [M_some]
    simp? only [dd_0, wd]
    first | exact ⟨_, rfl, rfl, Lq.refl _⟩ | exact ⟨rfl, Lq.refl _⟩ | exact ⟨_, rfl, trivial, Lq.refl _⟩
end Lw

namespace Lw
open PySem L2 Ix
/-! ### lists of words as repr tells them -/
theorem same_rpr {n : Nat} {S : Hd} {x y : D} {t : Str} (h1 : rprD x S = some (.str t, S)) (h2 : rprD y S = some (.str t, S)) : Pu (run T (n + 1) 102 [x, y] S) (.bl true) S := by
  refine Pu.run T_same_2 rfl ?_
  show M (ex (run T n) b_same_2 [some x, some y] S) _
  unfold b_same_2
  simp? only [h1, h2, q_eqS, decide_true]
  exact ⟨trivial, Lq.refl _⟩
theorem count_ed : ∀ plan : List Dd, PySem.Spec.countIn (.str "edition") ((plan.map wd).map PyData.str) = ((plan.filter isEd).length : Int)
  | [] => rfl
  | d :: plan => by
    have ih := count_ed plan
    simp only [List.map_cons, PySem.Spec.countIn, ih]
    cases d with
    | edition v p =>
      simp [wd, isEd, PySem.Spec.same, List.filter_cons]
      omega
    | _ =>
      simp only [wd, isEd, PySem.Spec.same, List.filter_cons, Bool.false_eq_true, if_false, beq_iff_eq]
      rw [if_neg (by decide), Int.zero_add]
theorem strsD_map : ∀ ks : List Str, strsD (ks.map D.str) = some ks
  | [] => rfl
  | k :: ks => by simp only [List.map_cons, strsD, strsD_map ks, Option.map_some]
theorem kinds_loop {n r : Nat} {nz : Nat} {plan : List Dd} {S : Hd} {v : D} {i : Nat} {d : Dd} (hv : ∀ (t : Nat) (d : Dd), plan[t]? = some d → okD nz (rowOf (plan.take t)) d) (g : S[r]? = some (.lst ((rowOf (plan.take i)).map .str))) (hi : plan[i]? = some d) (hl : plan.length ≤ 8) {env : Sl} {a b : Nat} (ha : env[a]? = some (some (.ref r))) (hb : env[b]? = some (some (ddD d))) :
    M (ex (run T (n + 1)) (.drop (.meth .append (.var a) (.cons (.call 92 (.cons (.var a) (.cons (.var b) (.nil)))) (.nil)))) env S) fun x => ∃ S', x = (.nx, env, S') ∧ S'[r]? = some (.lst ((rowOf (plan.take (i + 1))).map .str)) ∧ ∀ (k : Nat) (o : O), k ≠ r → S[k]? = some o → S'[k]? = some o := by
  have hm := most_big
  have il := (List.getElem?_eq_some_iff.mp hi).1
  simp? only [ha, hb, q_isL g]
  refine (made_kind_ok g (hv i d hi)).use fun S1 l1 => ?_
  have rl := rowOf_len (plan.take i)
  rw [List.length_take] at rl
  have g1 := l1 _ _ g
  simp? only [q_app g1 (by rw [List.length_map]; omega)]
  refine ⟨_, rfl, ?_, fun k o nk e => ?_⟩
  · rw [List.take_add_one, hi, List.getElem?_set_self (lt_of_get g1)]
    show _ = some (O.lst ((rowOf (plan.take i ++ [d])).map D.str))
    rw [rowOf_snoc, List.map_append]
    rfl
  · rw [List.getElem?_set_ne nk.symm]
    exact l1 _ _ e
theorem M_cnts {Γ : Fs} {a b : E} {env : Sl} {S : Hd} {Q : D × Hd → Prop} (h : M (ev Γ a env S) fun x => isLst x.2 x.1 = true ∧ M (ev Γ b env x.2) fun y => M (cntD x.1 y.1 y.2) Q) : M (ev Γ (.cnts a b) env S) Q := by
  simp only [ev, M_bind]
  refine h.imp fun x ⟨e, m⟩ => ?_
  rw [if_pos e, M_bind]
  exact m
theorem fits_as_program_ok {n : Nat} {S : Hd} {zs : Zs} {plan : List Dd} (hv : Valid zs.length plan) : Pu (run T (n + 6) 93 [beltsD zs, planD plan] S) (.bl true) S := by
  have hm := most_big
  have h8 := hv.short
  have h1 := hv.one
  refine Pu.run T_fits_as_program rfl ?_
  show M (ex (run T (n + 5)) b_fits_as_program [some (beltsD zs), some (planD plan), none, none] S) _
  unfold b_fits_as_program
  have ep : ∀ S2, seqOf S2 (planD plan) = some (plan.map ddD) := fun _ => rfl
  have et : ∀ S2, bltD .isi [planD plan, .ty "tuple"] S2 = some (.bl true, S2) := fun S2 => isi_tt
  have el : ∀ S2, bltD .len [planD plan] S2 = some (.int (plan.length : Nat), S2) := fun S2 => by rw [q_len (ep _), List.length_map]
  refine seq_Mx (ite_M (tst_M (M_or (M_is (v := (.bl false, S)) (by simp_all? only [et]) (.inl ⟨rfl, M_is (v := (.bl false, S)) (by simp_all? only [el]; rw [decide_eq_false (by omega)]) ⟨false, rfl, ?_⟩⟩)))))
  simp only [Bool.false_eq_true, if_false]
  rw [show ∀ env, ex (run T (n + 5)) .skip env S = some (.nx, env, S) from fun _ => rfl]
  simp only [M_some]
  refine seq_M (fun env S1 => env = [some (beltsD zs), some (planD plan), some (.ref S.length), none] ∧ S1 = S ++ [.lst [.str "moment"]]) ?_ ?_
  · simp? only [show (1 : Nat) ≤ most by decide]
    exact ⟨trivial, trivial, trivial⟩
  rintro _ _ ⟨rfl, rfl⟩
  refine seq_M (fun env S1 => ∃ v3 : Option D, env = [some (beltsD zs), some (planD plan), some (.ref S.length), v3] ∧ Lq S S1) ?_ ?_
  · refine for_M ?_
    simp_all? only []
    refine ⟨_, _, rfl, ep (S ++ [.lst [.str "moment"]]), ?_⟩
    refine M_loopS (m := 0) (fun i env S2 => ∃ v3 : Option D, env = [some (beltsD zs), some (planD plan), some (.ref S.length), v3] ∧ S2[S.length]? = some (.lst ((rowOf (plan.take i)).map .str)) ∧ Lq S S2) ⟨none, rfl, by rw [get_new]; rfl, Lq.app _ _⟩ ?_ ?_
    · rintro i x env S2 hi ⟨v3, rfl, g, l⟩
      obtain ⟨d, hd, _, rfl⟩ := map_get hi
      simp only [Nat.zero_add] at g ⊢
      simp only [asgG, Option.bind_some, List.set_cons_succ, List.set_cons_zero]
      refine seq_M (fun env S3 => env = [some (beltsD zs), some (planD plan), some (.ref S.length), some (ddD d)] ∧ Lq S2 S3) ?_ ?_
      · refine ite_M (tst_M (M_not ?_))
        simp_all? only []
        refine (is_step_ok (n := n) g (hv.ok i d hd)).use fun S3 l3 => ?_
        refine ⟨true, rfl, _, rfl, ?_⟩
        simp only [Bool.not_true, Bool.false_eq_true, if_false]
        exact ⟨_, rfl, rfl, rfl, l3⟩
      rintro _ S3 ⟨rfl, l3⟩
      refine (kinds_loop (n := n + 4) (v := .non) (a := 2) (b := 3) hv.ok (l3 _ _ g) hd h8 rfl rfl).imp ?_
      rintro _ ⟨S4, rfl, g4, k4⟩
      refine ⟨ep S4, _, rfl, g4, fun k o e => k4 k o (by have := lt_of_get e; omega) (l3 _ _ (l _ _ e))⟩
    · rintro env S2 ⟨v3, rfl, g, l⟩
      exact ⟨rfl, v3, rfl, l⟩
  rintro _ S1 ⟨v3, rfl, l1⟩
  refine M.imp (P := fun x => ∃ S' env', x = (.ret (.bl true), env', S') ∧ Lq S S') (ret_M (M_cmp ?_)) ?_
  · refine M_cnts ?_
    refine M_lcx plan ddD (fun _ => true) (fun d => .str (wd d)) (by decide) ?_ (by omega) (fun d S2 hd l2 => ⟨_, rfl, ?_⟩) fun j S2 hj g l2 => ?_
    · simp_all? only []
      exact ⟨_, _, rfl, Lq.refl _, fun S2 _ => ep S2⟩
    · simp_all? only [wipeD, dd_0]
      exact ⟨trivial, Lq.refl _, fun _ => ⟨trivial, Lq.refl _⟩⟩
    · rw [filt_true] at g
      have g' : S2[j]? = some (.lst ((plan.map wd).map .str)) := by rw [g, List.map_map]; rfl
      refine ⟨q_isL g', ?_⟩
      simp_all? only [cntD, g', strsD_map, Option.map_some, count_ed]
      rw [decide_eq_true (by omega)]
      exact ⟨S2, _, rfl, l1.trans l2⟩
  rintro _ ⟨S', env', rfl, l⟩
  simp? only []
  exact ⟨trivial, l⟩
theorem check_program_ok {n : Nat} {S : Hd} {zs : Zs} {plan : List Dd} (hv : Valid zs.length plan) : Pu (run T (n + 7) 95 [beltsD zs, planD plan] S) .non S := by
  refine Pu.run T_check_program rfl ?_
  show M (ex (run T (n + 6)) b_check_program [some (beltsD zs), some (planD plan)] S) _
  unfold b_check_program
  refine ite_M (tst_M (M_not ?_))
  simp_all? only []
  refine (fits_as_program_ok hv).use fun S1 l1 => ?_
  refine ⟨true, rfl, _, rfl, ?_⟩
  simp only [Bool.not_true, Bool.false_eq_true, if_false]
  refine ⟨_, rfl, ?_⟩
  simp? only []
  exact ⟨trivial, l1⟩
end Lw

namespace Lw
open PySem L2 Ix
/-! ### numbers by their bits -/
def Sz (m : Nat) (i : Int) : Prop := i.natAbs < 2 ^ m
instance (m : Nat) (i : Int) : Decidable (Sz m i) := inferInstanceAs (Decidable (i.natAbs < 2 ^ m))
theorem Sz.mono {m k : Nat} {i : Int} (h : Sz m i) (l : m ≤ k) : Sz k i := Nat.lt_of_lt_of_le h (Nat.pow_le_pow_right (by decide) l)
theorem Sz.mul {m k : Nat} {i j : Int} (h : Sz m i) (g : Sz k j) : Sz (m + k) (i * j) := by
  unfold Sz at *
  rw [Int.natAbs_mul, Nat.pow_add]
  exact Nat.mul_lt_mul'' h g
theorem Sz.add {m k : Nat} {i j : Int} (h : Sz m i) (g : Sz k j) : Sz (max m k + 1) (i + j) := by
  have a : i.natAbs < 2 ^ max m k := Nat.lt_of_lt_of_le h (Nat.pow_le_pow_right (by decide) (Nat.le_max_left _ _))
  have b : j.natAbs < 2 ^ max m k := Nat.lt_of_lt_of_le g (Nat.pow_le_pow_right (by decide) (Nat.le_max_right _ _))
  unfold Sz
  rw [Nat.pow_succ]
  omega
theorem Sz.q {m k : Nat} {i j : Int} {S : Hd} (h : Sz m i) (g : Sz k j) (l : m + k < 999000 := by decide) (m0 : 0 < m := by decide) (k0 : 0 < k := by decide) : binD .mul (.int i) (.int j) S = some (.int (i * j), S) := q_mulW (by
  have a := log2_le m h m0
  have b := log2_le k g k0
  omega)
end Lw

namespace Lw
open PySem L2 Ix
theorem Bag.set {p c k : Nat} {S : Hd} {o : O} (h : Bag p c S) (n : k ≠ p) : Bag p c (S.set k o) := by
  obtain ⟨x, y, z, e, r⟩ := h
  exact ⟨x, y, z, by rw [List.getElem?_set_ne n]; exact e, r⟩
theorem _root_.Ix.Le.setN {p k : Nat} {S0 S : Hd} {o : O} (l : Le p S0 S) (h : S0.length ≤ k) : Le p S0 (S.set k o) := fun j u nj e => by
  have := lt_of_get e
  rw [List.getElem?_set_ne (by omega)]
  exact l j u nj e
theorem _root_.Ix.Le.len {p : Nat} {S S' : Hd} (l : Le p S S') (hp : p < S'.length) : S.length ≤ S'.length := by
  rcases Nat.lt_or_ge S'.length S.length with h | h
  · have e := l S'.length _ (by omega) (List.getElem?_eq_getElem h)
    have := lt_of_get e
    omega
  · exact h
end Lw

namespace Lw
open PySem L2 Ix
/-! ### the words of a row -/
def strOf : D → Str
  | .str z => z
  | .int i => toString i
  | _ => ""
def partsD (d : Dd) : List D := .str (wd d) :: restD d
theorem lt_get {β : Type} {ks : List β} {v : Nat} {k : β} (h : ks[v]? = some k) : v < ks.length := (List.getElem?_eq_some_iff.mp h).1
end Lw

namespace Lw
open PySem L2 Ix
/-! ### wishes -/
def tIx (ks : List Str) (v : Nat) : Prop := ∃ k, ks[v]? = some k ∧ k ≠ "span"
/-! ### checks of wishes -/
end Lw

namespace Lw
open PySem L2 Ix
/-! ### the words of a text, read -/
theorem in_tup {S : Hd} {ks : List Str} {kd : Str} : cmpD .in_ (.str kd) (.tup (ks.map .str)) S = some (.bl (decide (kd ∈ ks)), S) := by
  rw [q_in (x := .str kd) rfl q_seqT (by rw [List.all_map, List.all_eq_true]; intro _ _; rfl)]
  congr 3
  rw [List.any_map, Bool.eq_iff_iff, List.any_eq_true, decide_eq_true_iff]
  constructor
  · rintro ⟨x, hx, e⟩
    have : x = kd := by simpa [eqF] using e
    rw [← this]; exact hx
  · intro h
    exact ⟨kd, h, by simp [eqF]⟩
end Lw

namespace Lw
open PySem L2 Ix
/-! ### a tale read back from its words -/
def wordsOf (d : Dd) : List Str := (partsD d).map strOf
def flat : List Dd → List Str
  | [] => []
  | [d] => wordsOf d
  | d :: e :: r => wordsOf d ++ ("then" : Str) :: flat (e :: r)
end Lw

namespace Lw
open PySem L2 Ix
/-! ### repr of tales and wishes -/
def pD : D → PyData
  | .str z => .str z
  | .int i => .int i
  | _ => .none
def Pw (d : D) : Prop := (∃ z : Str, d = .str z ∧ PyData.canLay0 (.str z) = true ∧ z.length ≤ 20) ∨ ∃ i : Int, d = .int i ∧ i.natAbs < 10 ^ 12
theorem pw_part {d : D} (h : Pw d) {n : Nat} {S : Hd} : py (n + 1) S d = some (pD d) ∧ PyData.canLay0 (pD d) = true ∧ PyData.weight (pD d) ≤ 60 ∧ PyData.depth (pD d) = 0 ∧ PyData.showable (pD d) = true ∧ PyData.hasDict (pD d) = false ∧ PyData.intsShort 13 (pD d) = true := by
  rcases h with ⟨z, rfl, h, hz⟩ | ⟨i, rfl, h⟩
  · exact ⟨rfl, h, by show z.cps.size ≤ 60; have : z.cps.size = z.length := rfl; omega, rfl, rfl, rfl, rfl⟩
  · have l : i.natAbs.log2 ≤ 40 := by
      have := log2_le (n := i.natAbs) 40 (Nat.lt_of_lt_of_le h (by decide)) (by decide)
      omega
    refine ⟨rfl, ?_, ?_, rfl, ?_, rfl, ?_⟩
    · simp only [pD, PyData.canLay0]
    · simp only [pD, PyData.weight]
      split <;> omega
    · simp only [pD, PyData.showable]
      exact decide_eq_true (by omega)
    · simp only [pD, PyData.intsShort]
      refine decide_eq_true ?_
      rw [PyData.shown_int]
      exact PyData.shown_int_le h
theorem row_part {n : Nat} {S : Hd} : ∀ {xs : List D}, (∀ x ∈ xs, Pw x) → pyL (py (n + 1) S) xs = some (xs.map pD) ∧ PyData.canLayAll0 (xs.map pD) = true ∧ PyData.weightAll (xs.map pD) ≤ 61 * xs.length ∧ PyData.depthAll (xs.map pD) = 0 ∧ PyData.showableAll (xs.map pD) = true ∧ PyData.hasDictAll (xs.map pD) = false ∧ PyData.intsShortAll 13 (xs.map pD) = true
  | [], _ => by simp [pyL, PyData.canLayAll0, PyData.weightAll, PyData.depthAll, PyData.showableAll, PyData.hasDictAll, PyData.intsShortAll]
  | x :: xs, h => by
    obtain ⟨a1, a2, a3, a4, a5, a6, a7⟩ := pw_part (n := n) (S := S) (h x List.mem_cons_self)
    obtain ⟨b1, b2, b3, b4, b5, b6, b7⟩ := row_part (n := n) (S := S) (xs := xs) fun y hy => h y (List.mem_cons_of_mem _ hy)
    simp only [List.map_cons, pyL, PyData.canLayAll0, PyData.weightAll, PyData.depthAll, PyData.showableAll, PyData.hasDictAll, PyData.intsShortAll, a1, a2, a4, a5, a6, a7, b1, b2, b4, b5, b6, b7, Option.bind_some, Option.map_some, Bool.and_self, Bool.or_self, Nat.max_self, List.length_cons]
    refine ⟨trivial, trivial, ?_, trivial, trivial, trivial, trivial⟩
    omega
theorem lay_of {d : PyData} (h1 : PyData.canLay0 d = true) (h2 : PyData.depth d ≤ 64) (h3 : PyData.weight d ≤ 2 ^ 20) : PyData.layable0 d = true := by
  show (PyData.canLay0 d && decide (PyData.depth d ≤ 64) && decide (PyData.weight d ≤ 2 ^ 20)) = true
  rw [h1, decide_eq_true h2, decide_eq_true h3]
  rfl
end Lw

namespace Lw
open PySem L2 Ix
/-! ### worlds -/
abbrev Cht := Int × List (Int × Int)
def chtD (c : Cht) : D := chartD c.1 c.2
structure Earth (zs : Zs) (cs : List Cht) : Prop where
  len : cs.length = zs.length
  ok : ∀ (p : Nat) (z : List Int × Int) (c : Cht), zs[p]? = some z → cs[p]? = some c → Chart z.1 z.2 c.1 c.2
  few : ∀ c ∈ cs, c.2.length ≤ 900
def chtsD (cs : List Cht) : D := .tup (cs.map chtD)
def wldD (a b : List Cht) : D := .tup [chtsD a, chtsD b]
theorem are_tables_ok {n : Nat} {S : Hd} {zs : Zs} {cs : List Cht} (hz : Belts zs) (he : Earth zs cs) : Pu (run T (n + 6) 146 [beltsD zs, chtsD cs] S) (.bl true) S := by
  have hm := most_big
  have z2 := hz.l2
  have hl := he.len
  refine Pu.run T_are_tables rfl ?_
  show M (ex (run T (n + 5)) b_are_tables [some (beltsD zs), some (chtsD cs), none, none] S) _
  unfold b_are_tables
  have ez : ∀ S, bltD .len [beltsD zs] S = some (.int (zs.length : Nat), S) := fun S => by
    unfold beltsD
    rw [q_len q_seqT, List.length_map]
  have ec : ∀ S, bltD .len [chtsD cs] S = some (.int (cs.length : Nat), S) := fun S => by
    unfold chtsD
    rw [q_len q_seqT, List.length_map]
  have et : ∀ S, bltD .isi [chtsD cs, .ty "tuple"] S = some (.bl true, S) := fun S => isi_tt
  refine seq_Mx (ite_M (tst_M (M_or (M_is (v := (.bl false, S)) (by simp_all? only [et]) (.inl ⟨rfl, M_is (v := (.bl false, S)) (by simp_all? only [ez, ec, q_neI]; rw [decide_eq_true (by omega)]; rfl) ⟨false, rfl, ?_⟩⟩)))))
  simp only [Bool.false_eq_true, if_false]
  rw [show ∀ env, ex (run T (n + 5)) .skip env S = some (.nx, env, S) from fun _ => rfl]
  simp only [M_some]
  have zl : (List.zipWith (fun a b => D.tup [a, b]) (zs.map fun z => zoneD z.1 z.2) (cs.map chtD)).length ≤ 4 := by rw [List.length_zipWith, List.length_map]; omega
  refine M.imp (P := fun x => ∃ S', x = (.ret (.bl true), [some (beltsD zs), some (chtsD cs), none, none], S') ∧ Lq S S') (ret_M (M_allT (S1 := S) (ds := [beltsD zs, chtsD cs]) (its := List.zipWith (fun a b => D.tup [a, b]) (zs.map fun z => zoneD z.1 z.2) (cs.map chtD)) (by decide) (by simp_all? only []) (Lq.refl _) rfl (by omega) (fun i x S9 hi l9 => ?_) (fun _ _ => rfl) fun S9 l9 => ⟨S9, rfl, l9⟩)) ?_
  · rw [List.getElem?_zipWith, List.getElem?_map, List.getElem?_map] at hi
    cases h1 : zs[i]? with
    | none => simp [h1] at hi
    | some z =>
      cases h2 : cs[i]? with
      | none => simp [h1, h2] at hi
      | some c =>
        simp [h1, h2] at hi
        subst hi
        refine ⟨_, rfl, ?_⟩
        simp? only [wipeD]
        refine (fits_as_table_ok (n := n) (he.ok i z c h1 h2) (he.few c (List.mem_of_getElem? h2))).use fun S10 l10 => ?_
        exact ⟨rfl, l10⟩
  rintro _ ⟨S', rfl, l⟩
  simp? only []
  exact ⟨trivial, l⟩
theorem fits_as_world_ok {n : Nat} {S : Hd} {zs : Zs} {a b : List Cht} (hz : Belts zs) (ha : Earth zs a) (hb : Earth zs b) : Pu (run T (n + 7) 147 [beltsD zs, wldD a b] S) (.bl true) S := by
  refine Pu.run T_fits_as_world rfl ?_
  show M (ex (run T (n + 6)) b_fits_as_world [some (beltsD zs), some (wldD a b), none] S) _
  unfold b_fits_as_world
  refine M.imp (P := fun x => ∃ S', x = (.ret (.bl true), [some (beltsD zs), some (wldD a b), none], S') ∧ Lq S S') (ret_M (M_andb (M_call1 (var_M rfl ?_)))) ?_
  · refine (is_pair_ok (n := n + 5)).use fun S1 l1 => .inl ⟨rfl, ?_⟩
    refine M_allT (S1 := S1) (ds := [wldD a b]) (its := [chtsD a, chtsD b]) (by decide) (by simp_all? only []) (Lq.refl _) rfl (by show 2 < most; decide) (fun i x S9 hi l9 => ?_) (fun _ _ => rfl) fun S9 l9 => ⟨S9, rfl, l1.trans l9⟩
    refine ⟨_, rfl, ?_⟩
    simp? only [wipeD]
    match i, hi with
    | 0, hi =>
      cases hi
      refine (are_tables_ok (n := n) hz ha).use fun S10 l10 => ?_
      exact ⟨rfl, l10⟩
    | 1, hi =>
      cases hi
      refine (are_tables_ok (n := n) hz hb).use fun S10 l10 => ?_
      exact ⟨rfl, l10⟩
    | _ + 2, hi => cases hi
  rintro _ ⟨S', rfl, l⟩
  simp? only []
  exact ⟨trivial, l⟩
theorem check_world_ok {n : Nat} {S : Hd} {zs : Zs} {a b : List Cht} (hz : Belts zs) (ha : Earth zs a) (hb : Earth zs b) : Pu (run T (n + 8) 148 [beltsD zs, wldD a b] S) .non S := by
  refine Pu.run T_check_world rfl ?_
  show M (ex (run T (n + 7)) b_check_world [some (beltsD zs), some (wldD a b)] S) _
  unfold b_check_world
  refine ite_M (tst_M (M_not ?_))
  simp_all? only []
  refine (fits_as_world_ok (n := n) hz ha hb).use fun S1 l1 => ?_
  refine ⟨true, rfl, _, rfl, ?_⟩
  simp only [Bool.not_true, Bool.false_eq_true, if_false]
  refine ⟨_, rfl, ?_⟩
  simp? only []
  exact ⟨trivial, l1⟩
end Lw

namespace Lw
open PySem L2 Ix
/-! ### what a step looks at, and its value -/
def Plain : Dd → Prop
  | .find _ _ _ _ => False
  | .edition _ _ => False
  | _ => True
def Plains (plan : List Dd) : Prop := ∀ d ∈ plan, Plain d
theorem plain_ed {d : Dd} (h : Plain d) : isEd d = false := by
  cases d with
  | edition v p => exact h.elim
  | _ => rfl
def dv : Dd → Nat
  | .add v _ => v | .plus v _ => v | .less v _ => v | .read v _ => v | .offset v _ => v | .edition v _ => v | .find v _ _ _ => v
theorem dd_1 {S : Hd} (d : Dd) : ixD (ddD d) (.int 1) S = some (.int (dv d : Int), S) := by cases d <;> rfl
theorem num_at {vs : List Int} {v : Nat} {x : Int} (h : vs[v]? = some x) : atI (vs.map D.int) (v : Int) = some (.int x) := by
  have hv := (List.getElem?_eq_some_iff.mp h).1
  rw [atI_lt (by omega) (by rw [List.length_map]; omega), Int.toNat_natCast, List.getElem?_map, h]
  rfl
theorem sl_ref {S : Hd} {k : Nat} {xs : List D} {l h : Option Int} (g : S[k]? = some (.lst xs)) : slD (.ref k) l h S = some (.ref S.length, S ++ [.lst (cutD xs l h)]) := by
  show (seqOf S (.ref k)).map _ = _
  rw [q_seqL g]
  rfl
theorem edition_moment_ok {n k : Nat} {S : Hd} {plan : List Dd} {vs : List Int} {p : D} (hp : Plains plan) (h8 : plan.length ≤ 8) (g : S[k]? = some (.lst (vs.map .int))) : Pu (run T (n + 1) 153 [planD plan, .ref k, p] S) .non S := by
  have hm := most_big
  refine Pu.run T_edition_moment rfl ?_
  show M (ex (run T n) b_edition_moment [some (planD plan), some (.ref k), some p, none, none] S) _
  unfold b_edition_moment
  have it : ∀ {S2 : Hd} {q : Nat} {ys : List D}, S2[q]? = some (.lst ys) → items .zip [planD plan, .ref q] S2 = some (List.zipWith (fun a b => D.tup [a, b]) (plan.map ddD) ys) := fun {S2 q ys} h => by
    simp only [items]
    rw [if_pos (.inr rfl), q_seqL h]
    rfl
  refine seq_M (fun env S1 => ∃ v3 v4 : Option D, env = [some (planD plan), some (.ref k), some p, v3, v4] ∧ Lq S S1) ?_ ?_
  · refine for_M ?_
    simp_all? only [sl_ref g]
    refine ⟨_, _, rfl, it get_new, ?_⟩
    refine M_loopS (m := 0) (fun _ env S1 => ∃ v3 v4 : Option D, env = [some (planD plan), some (.ref k), some p, v3, v4] ∧ Lq (S ++ [.lst (cutD (vs.map .int) (some 1) none)]) S1) ⟨none, none, rfl, Lq.refl _⟩ ?_ ?_
    · rintro i x env S1 hi ⟨v3, v4, rfl, l1⟩
      rw [List.getElem?_zipWith, List.getElem?_map] at hi
      cases h1 : plan[i]? with
      | none => simp [h1] at hi
      | some d =>
        cases h2 : (cutD (vs.map D.int) (some 1) none)[i]? with
        | none => simp [h1, h2] at hi
        | some y =>
          simp [h1, h2] at hi
          subst hi
          have hd := plain_ed (hp d (List.mem_of_getElem? h1))
          simp only [asgG, Option.bind_some, List.set_cons_succ, List.set_cons_zero]
          refine ite_M (tst_M (M_andb (M_is (v := (.bl false, S1)) (by simp_all? only [dd_0, q_eqS, wd_ed, hd]) (.inr ⟨rfl, false, rfl, ?_⟩))))
          simp only [Bool.false_eq_true, if_false]
          exact ⟨_, rfl, it (l1 _ _ get_new), _, _, rfl, l1⟩
    · rintro env S1 ⟨v3, v4, rfl, l1⟩
      exact ⟨rfl, v3, v4, rfl, (Lq.app _ _).trans l1⟩
  rintro _ S1 ⟨v3, v4, rfl, l1⟩
  simp? only []
  exact ⟨trivial, l1⟩
theorem wd_find {d : Dd} (h : Plain d) : decide (wd d = "find") = false := by
  cases d with
  | find v p i j => exact h.elim
  | _ => exact decide_eq_false (by simp only [wd]; decide)
theorem moments_of_step_ok {n k : Nat} {S : Hd} {zd : D} {d : Dd} {vs : List Int} {x : Int} (hd : Plain d) (g : S[k]? = some (.lst (vs.map .int))) (hx : vs[dv d]? = some x) :
    M (run T (n + 1) 154 [zd, ddD d, .ref k] S) fun r => r = (.ref S.length, S ++ [.lst [.int x]]) := by
  refine run_M T_moments_of_step rfl ?_
  show M (ex (run T n) b_moments_of_step [some zd, some (ddD d), some (.ref k), none] S) _
  unfold b_moments_of_step
  refine seq_M (fun env S1 => env = [some zd, some (ddD d), some (.ref k), some (.int x)] ∧ S = S1) ?_ ?_
  · simp? only [dd_1, q_ixL g, num_at hx]
    exact ⟨trivial, trivial, trivial⟩
  rintro _ _ ⟨rfl, rfl⟩
  refine seq_Mx (ite_B (B := false) (by simp_all? only [dd_0, q_eqS, wd_find hd]) (fun h => by cases h) fun _ => ?_)
  rw [show ∀ env, ex (run T n) .skip env S = some (.nx, env, S) from fun _ => rfl]
  simp only [M_some]
  refine seq_Mx (ite_B (B := false) (by simp_all? only [dd_0, q_eqS, wd_ed, plain_ed hd]) (fun h => by cases h) fun _ => ?_)
  rw [show ∀ env, ex (run T n) .skip env S = some (.nx, env, S) from fun _ => rfl]
  simp only [M_some, ex, ev, M_bind, M_map, M_some, M_ite, t_eq, a_tup, al_eq, List.getElem?_cons_zero, List.getElem?_cons_succ, Option.bind_some, Option.map_some, q_add, q_sub, q_lt, q_le, q_gt, q_ge, q_eqI, q_neI, q_eqB, q_neB, q_isN, q_notN, Ix.isNon, q_ixT, q_ixR, atI_0, atI_1, atI_2, atI_3, atI_4, atI_5, atI_6, atI_7, q_slT, q_slR, q_revT, q_seqT, q_int, q_intB, q_max, q_min, q_abs, q_tupT, n_tup, n_int, n_bl, n_non, n_str, isi_ii, isi_ib, isi_tt, isi_itl, isi_btl, isi_ttl, isi_tl, isi_bb, u_bl, u_int, u_non, u_tup, g_name, g_tup, g_nil, g_cons, o_ret, o_nx, i_seq, List.set_cons_zero, List.set_cons_succ, decide_eq_true_eq, Bool.not_eq_true', decide_eq_false_iff_not, evP, Bool.false_eq_true, if_true, if_false, ite_true, ite_false, reduceIte, Bool.not_true, Bool.not_false, Option.some.injEq, q_pow10, Int.reduceToNat, Int.reducePow, Int.reduceAdd, Int.reduceSub, Int.reduceMul, Int.reduceNeg, Int.reduceLT, Int.reduceLE, Nat.reducePow, Nat.reduceLT, Nat.reduceLeDiff, Nat.reduceAdd, List.length_cons, List.length_nil, Int.neg_neg, show (1 : Nat) ≤ most by decide, al_eq]
theorem notin_tup {S : Hd} {ks : List Str} {kd : Str} : cmpD .notin (.str kd) (.tup (ks.map D.str)) S = some (.bl (!decide (kd ∈ ks)), S) := by
  have e := in_tup (S := S) (ks := ks) (kd := kd)
  have fl : (ks.map D.str).all Ix.flat = true := by rw [List.all_map, List.all_eq_true]; intro _ _; rfl
  rw [q_in (x := .str kd) rfl q_seqT fl] at e
  simp only [Option.some.injEq, Prod.mk.injEq, D.bl.injEq, and_true] at e
  simp only [cmpD]
  rw [if_pos (show Ix.flat (D.str kd) = true from rfl), q_seqT, Option.bind_some, if_pos fl, e]
theorem ev_rolesD {Γ : Fs} {i : Nat} {env : Sl} {S : Hd} {d : Dd} (he : env[i]? = some (some (ddD d))) : ev Γ (.cix stepT (.ix (.var i) (.c (.int 0)))) env S = some (.tup ((rolesD d).map D.str), S) := by
  show ((ev Γ (.ix (.var i) (.c (.int 0))) env S).bind fun x => match x.1 with
    | .str z => (lookC stepT z).map fun d => (d, x.2)
    | _ => none) = _
  have e3 : ev Γ (.ix (.var i) (.c (.int 0))) env S = some (.str (wd d), S) := by simp_all? only [he, dd_0]
  rw [e3, Option.bind_some]
  show (lookC stepT (wd d)).map (fun x => (x, S)) = _
  rw [step_look]
  rfl
theorem ev_place {Γ : Fs} {i : Nat} {env : Sl} {S : Hd} {d : Dd} (he : env[i]? = some (some (ddD d))) : ev Γ (.cmp .notin (.c (.str "place")) (.cix stepT (.ix (.var i) (.c (.int 0))))) env S = some (.bl (!decide (("place" : Str) ∈ rolesD d)), S) := by
  show ((ev Γ (.cix stepT (.ix (.var i) (.c (.int 0)))) env S).bind fun y => cmpD .notin (.str "place") y.1 y.2) = _
  rw [ev_rolesD he, Option.bind_some, notin_tup]
end Lw

namespace Lw
open PySem L2 Ix
def spotD (p : Nat) (x : Int) : D := .tup [.int (p : Int), .int 0, .int x]
def spotsF : Dd → Int → List D
  | .read _ p, x => [spotD p x]
  | .offset _ p, x => [spotD p x]
  | _, _ => []
theorem looked_none {n k : Nat} {S : Hd} {zd : D} {plan : List Dd} {d : Dd} {vs : List Int} (g : S[k]? = some (.lst (vs.map .int))) (h0 : 0 < vs.length) (hd : plan[vs.length - 1]? = some d) (hr : ("place" : Str) ∉ rolesD d) :
    M (run T (n + 2) 155 [zd, planD plan, .ref k] S) fun r => ∃ (q : Nat) (S' : Hd), r = (.ref q, S') ∧ S.length ≤ q ∧ S'[q]? = some (.lst []) ∧ Lq S S' := by
  refine run_M T_looked_at rfl ?_
  show M (ex (run T (n + 1)) b_looked_at [some zd, some (planD plan), some (.ref k), none, none, none, none, none, none] S) _
  unfold b_looked_at
  have e1 : ∀ S, ixD (planD plan) (.int (((vs.length : Nat) : Int) - 1)) S = some (ddD d, S) := fun S => by
    unfold planD
    have hv := (List.getElem?_eq_some_iff.mp hd).1
    rw [q_ixT, show ((vs.length : Nat) : Int) - 1 = ((vs.length - 1 : Nat) : Int) by omega, atI_lt (by omega) (by rw [List.length_map]; omega), Int.toNat_natCast, List.getElem?_map, hd]
    rfl
  refine seq_M (fun env S1 => env = [some zd, some (planD plan), some (.ref k), some (ddD d), none, none, none, none, none] ∧ S = S1) ?_ ?_
  · simp? only [q_len (q_seqL g), List.length_map, e1]
    exact ⟨trivial, trivial, trivial⟩
  rintro _ _ ⟨rfl, rfl⟩
  refine seq_Mx (ite_B (B := true) (by rw [ev_place (d := d) rfl, decide_eq_false hr]; rfl) (fun _ => ?_) (fun h => by cases h))
  simp? only [show (0 : Nat) ≤ most by decide]
  exact ⟨_, _, rfl, Nat.le_refl _, get_new, Lq.app _ _⟩
theorem looked_one {n k p : Nat} {S : Hd} {zd : D} {plan : List Dd} {d : Dd} {vs : List Int} {x : Int} (hp : Plains plan) (h8 : plan.length ≤ 8) (g : S[k]? = some (.lst (vs.map .int))) (h0 : 0 < vs.length) (hd : plan[vs.length - 1]? = some d) (hx : vs[dv d]? = some x) (hr : ("place" : Str) ∈ rolesD d)
    (h2 : ∀ S, ixD (ddD d) (.int 2) S = some (.int (p : Int), S)) :
    M (run T (n + 2) 155 [zd, planD plan, .ref k] S) fun r => ∃ (q : Nat) (S' : Hd), r = (.ref q, S') ∧ S.length ≤ q ∧ S'[q]? = some (.lst [spotD p x]) ∧ Lq S S' := by
  have hm := most_big
  have pd := hp d (List.mem_of_getElem? hd)
  refine run_M T_looked_at rfl ?_
  show M (ex (run T (n + 1)) b_looked_at [some zd, some (planD plan), some (.ref k), none, none, none, none, none, none] S) _
  unfold b_looked_at
  have e1 : ∀ S, ixD (planD plan) (.int (((vs.length : Nat) : Int) - 1)) S = some (ddD d, S) := fun S => by
    unfold planD
    have hv := (List.getElem?_eq_some_iff.mp hd).1
    rw [q_ixT, show ((vs.length : Nat) : Int) - 1 = ((vs.length - 1 : Nat) : Int) by omega, atI_lt (by omega) (by rw [List.length_map]; omega), Int.toNat_natCast, List.getElem?_map, hd]
    rfl
  refine seq_M (fun env S1 => env = [some zd, some (planD plan), some (.ref k), some (ddD d), none, none, none, none, none] ∧ S = S1) ?_ ?_
  · simp? only [q_len (q_seqL g), List.length_map, e1]
    exact ⟨trivial, trivial, trivial⟩
  rintro _ _ ⟨rfl, rfl⟩
  refine seq_Mx (ite_B (B := false) (by rw [ev_place (d := d) rfl, decide_eq_true hr]; rfl) (fun h => by cases h) (fun _ => ?_))
  rw [show ∀ env, ex (run T (n + 1)) .skip env S = some (.nx, env, S) from fun _ => rfl]
  simp only [M_some]
  refine seq_M (fun env S1 => env = [some zd, some (planD plan), some (.ref k), some (ddD d), some (.int (p : Int)), none, none, none, none] ∧ S = S1) ?_ ?_
  · simp? only [h2]
    exact ⟨trivial, trivial, trivial⟩
  rintro _ _ ⟨rfl, rfl⟩
  refine seq_M (fun env S1 => env = [some zd, some (planD plan), some (.ref k), some (ddD d), some (.int (p : Int)), some .non, none, none, none] ∧ Lq S S1) ?_ ?_
  · simp? only []
    refine (edition_moment_ok (n := n) hp h8 g).use fun S1 l1 => ?_
    exact ⟨trivial, rfl, l1⟩
  rintro _ S1 ⟨rfl, l1⟩
  refine seq_M (fun env S2 => env = [some zd, some (planD plan), some (.ref k), some (ddD d), some (.int (p : Int)), some .non, some (.ref S1.length), none, none] ∧ S1 ++ [.lst []] = S2) ?_ ?_
  · simp? only [show (0 : Nat) ≤ most by decide, al_eq]
    exact ⟨trivial, trivial, trivial⟩
  rintro _ _ ⟨rfl, rfl⟩
  have l2 : Lq S (S1 ++ [O.lst []]) := l1.trans (Lq.app _ _)
  refine seq_M (fun env S3 => ∃ v7 v8 : Option D, env = [some zd, some (planD plan), some (.ref k), some (ddD d), some (.int (p : Int)), some .non, some (.ref S1.length), v7, v8] ∧ S3[S1.length]? = some (.lst [spotD p x]) ∧ Lq S S3) ?_ ?_
  · refine for_M (M_args1 ?_)
    simp_all? only []
    refine (moments_of_step_ok (n := n) (S := S1 ++ [O.lst []]) pd (l2 _ _ g) hx).imp ?_
    rintro _ rfl
    refine ⟨_, [.int x], rfl, q_seqL get_new, ?_⟩
    refine M_loopS (m := 0) (fun i env S3 => ∃ v7 v8 : Option D, env = [some zd, some (planD plan), some (.ref k), some (ddD d), some (.int (p : Int)), some .non, some (.ref S1.length), v7, v8] ∧ S3[S1.length]? = some (.lst (if i = 0 then [] else [spotD p x])) ∧ S3[S1.length + 1]? = some (.lst [.int x]) ∧ Lq S S3) ⟨none, none, rfl, ?_, ?_, ?_⟩ ?_ ?_
    · exact Lq.app _ _ _ _ get_new
    · have := get_new (S := S1 ++ [O.lst []]) (o := .lst [D.int x])
      rw [List.length_append] at this
      exact this
    · exact l2.trans (Lq.app _ _)
    · rintro i y env S3 hi ⟨v7, v8, rfl, g3, g4, l3⟩
      match i, hi, g3 with
      | 0, hi, g3 =>
        cases hi
        simp only [if_true] at g3
        simp only [asgG, Option.bind_some, List.set_cons_succ, List.set_cons_zero]
        refine seq_M (fun env S4 => env = [some zd, some (planD plan), some (.ref k), some (ddD d), some (.int (p : Int)), some .non, some (.ref S1.length), some (.int x), some (.bl false)] ∧ S3 = S4) ?_ ?_
        · refine asg_M (M_andb (M_is (v := (.bl false, S3)) ?_ (.inr ⟨rfl, ?_⟩)))
          · simp_all? only []
          · exact ⟨rfl, rfl, rfl⟩
        rintro _ _ ⟨rfl, rfl⟩
        simp? only [q_isL g3, show (3 : Nat) ≤ most by decide]
        rw [q_app g3 (by simp only [List.length_nil]; omega)]
        simp? only []
        refine ⟨?_, _, _, rfl, ?_, ?_, ?_⟩
        · refine q_seqL ?_
          rw [List.length_append, List.getElem?_set_ne (by simp)]
          exact g4
        · simp only [Nat.zero_add, if_neg (show ¬ (1 : Nat) = 0 by decide)]
          rw [List.getElem?_set_self (lt_of_get g3)]
          rfl
        · rw [List.getElem?_set_ne (by omega)]
          exact g4
        · exact l3.set l1.len
      | i + 1, hi, _ => cases hi
    · rintro env S3 ⟨v7, v8, rfl, g3, g4, l3⟩
      exact ⟨rfl, v7, v8, rfl, g3, l3⟩
  rintro _ S3 ⟨v7, v8, rfl, g3, l3⟩
  simp? only []
  exact ⟨_, _, rfl, l1.len, g3, l3⟩
theorem looked_at_ok {n k : Nat} {S : Hd} {zd : D} {plan : List Dd} {d : Dd} {vs : List Int} {x : Int} (hp : Plains plan) (h8 : plan.length ≤ 8) (g : S[k]? = some (.lst (vs.map .int))) (h0 : 0 < vs.length) (hd : plan[vs.length - 1]? = some d) (hx : vs[dv d]? = some x) :
    M (run T (n + 2) 155 [zd, planD plan, .ref k] S) fun r => ∃ (q : Nat) (S' : Hd), r = (.ref q, S') ∧ S.length ≤ q ∧ S'[q]? = some (.lst (spotsF d x)) ∧ Lq S S' := by
  have pd := hp d (List.mem_of_getElem? hd)
  cases d with
  | find v p i j => exact pd.elim
  | edition v p => exact pd.elim
  | add v m => exact looked_none g h0 hd (by simp only [rolesD]; decide)
  | plus v s => exact looked_none g h0 hd (by simp only [rolesD]; decide)
  | less v s => exact looked_none g h0 hd (by simp only [rolesD]; decide)
  | read v p => exact looked_one (p := p) hp h8 g h0 hd hx (by simp only [rolesD]; decide) fun _ => rfl
  | offset v p => exact looked_one (p := p) hp h8 g h0 hd hx (by simp only [rolesD]; decide) fun _ => rfl
end Lw

namespace Lw
open PySem L2 Ix
/-! ### values of steps -/
def heldC (cs : List Cht) (p : Nat) (t : Int) : Int := heldF (cs.getD p (0, [])).1 (cs.getD p (0, [])).2 t
def valF (cs : List Cht) (vs : List Int) : Dd → Int
  | .add v m => vs.getD v 0 + m
  | .plus v s => vs.getD v 0 + vs.getD s 0
  | .less v s => vs.getD v 0 - vs.getD s 0
  | .read v p => vs.getD v 0 + heldC cs p (vs.getD v 0)
  | .offset v p => heldC cs p (vs.getD v 0)
  | .edition v _ => vs.getD v 0
  | .find v _ _ _ => vs.getD v 0
def Fit (nz nv : Nat) : Dd → Prop
  | .add v _ => v < nv
  | .plus v s => v < nv ∧ s < nv
  | .less v s => v < nv ∧ s < nv
  | .read v p => v < nv ∧ p < nz
  | .offset v p => v < nv ∧ p < nz
  | _ => False
theorem fit_dv {nz nv : Nat} {d : Dd} (h : Fit nz nv d) : dv d < nv := by
  cases d with
  | add v m => exact h
  | plus v s => exact h.1
  | less v s => exact h.1
  | read v p => exact h.1
  | offset v p => exact h.1
  | edition v p => exact h.elim
  | find v p i j => exact h.elim
theorem getD_some {vs : List Int} {v : Nat} (h : v < vs.length) : vs[v]? = some (vs.getD v 0) := by
  rw [List.getElem?_eq_getElem h, List.getD_eq_getElem?_getD, List.getElem?_eq_getElem h]
  rfl
theorem cht_some {cs : List Cht} {v : Nat} (h : v < cs.length) : cs[v]? = some (cs.getD v (0, [])) := by
  rw [List.getElem?_eq_getElem h, List.getD_eq_getElem?_getD, List.getElem?_eq_getElem h]
  rfl
theorem cht_at {cs : List Cht} {p : Nat} (h : p < cs.length) : atI (cs.map chtD) (p : Int) = some (chtD (cs.getD p (0, []))) := by
  rw [atI_lt (by omega) (by rw [List.length_map]; omega), Int.toNat_natCast, List.getElem?_map, cht_some h]
  rfl
theorem earth_far {zs : Zs} {cs : List Cht} (hz : Belts zs) (he : Earth zs cs) {p : Nat} (h : p < cs.length) : ∃ sp : Int, 0 < sp ∧ Adj (fun x y => x + sp ≤ y) ((cs.getD p (0, [])).2.map (·.1)) := by
  have hl := he.len
  have hzp : zs[p]? = some zs[p] := List.getElem?_eq_getElem (by omega)
  have c := he.ok p zs[p] _ hzp (cht_some h)
  have z := hz.zone zs[p] (List.getElem_mem (by omega))
  have s0 : 0 < zs[p].2 := by
    have l1 := z.len1
    have := z.gap _ (List.getElem_mem (show 0 < zs[p].1.length by omega)) _ (List.getElem_mem (show 0 < zs[p].1.length by omega))
    omega
  exact ⟨_, s0, c.far⟩
def seenD (cs : List Cht) (p : Nat) (x : Int) : D := .tup [.int x, .int (heldC cs p x)]
def seensF (cs : List Cht) : Dd → Int → List D
  | .read _ p, x => [seenD cs p x]
  | .offset _ p, x => [seenD cs p x]
  | _, _ => []
theorem looks_in_ok {n q : Nat} {S : Hd} {zs : Zs} {a b : List Cht} {d : Dd} {x : Int} {nv : Nat} (hz : Belts zs) (ha : Earth zs a) (hd : Fit a.length nv d) (g : S[q]? = some (.lst (spotsF d x))) :
    M (run T (n + 2) 150 [wldD a b, .ref q] S) fun r => ∃ (k : Nat) (S' : Hd), r = (.ref k, S') ∧ S.length ≤ k ∧ S'[k]? = some (.lst (seensF a d x)) ∧ Lq S S' := by
  have hm := most_big
  refine run_M T_looks_in rfl ?_
  show M (ex (run T (n + 1)) b_looks_in [some (wldD a b), some (.ref q), none, none, none] S) _
  unfold b_looks_in
  have one : ∀ {p : Nat}, p < a.length → S[q]? = some (.lst [spotD p x]) → M (ev (run T (n + 1)) (.lc .seq (.cons (.var 1) .nil) (.tup (.cons (.name 2) (.cons (.name 3) (.cons (.name 4) .nil)))) (.c (.bl true)) (.tup (.cons (.var 4) (.cons (.call 14 (.cons (.ix (.ix (.var 0) (.var 3)) (.var 2)) (.cons (.var 4) (.nil)))) (.nil)))) [2, 3, 4]) [some (wldD a b), some (.ref q), none, none, none] S) fun r => ∃ (k : Nat) (S' : Hd), r = (.ref k, S') ∧ S.length ≤ k ∧ S'[k]? = some (.lst [seenD a p x]) ∧ Lq S S' := fun {p} hp g => by
    obtain ⟨sp, s0, far⟩ := earth_far hz ha hp
    refine M_lcx [spotD p x] id (fun _ => true) (fun _ => seenD a p x) (by decide) ?_ (by show 1 < most; decide) (fun y S2 hy l2 => ?_) fun j S2 hj g2 l2 => ⟨j, S2, rfl, hj, by rw [g2]; rfl, l2⟩
    · simp_all? only []
      exact ⟨_, _, rfl, Lq.refl _, fun S2 l2 => q_seqL (l2 _ _ g)⟩
    · have ew : ∀ S, ixD (wldD a b) (.int 0) S = some (chtsD a, S) := fun S => rfl
      have ec : ∀ S, ixD (chtsD a) (.int (p : Int)) S = some (chtD (a.getD p (0, [])), S) := fun S => by
        unfold chtsD
        rw [q_ixT, cht_at hp]
        rfl
      rw [List.mem_singleton] at hy
      subst hy
      refine ⟨_, rfl, ?_⟩
      simp only [spotD, id, wipeD, ev, M_bind, M_map, M_some, M_ite, t_eq, a_tup, al_eq, List.getElem?_cons_zero, List.getElem?_cons_succ, Option.bind_some, Option.map_some, q_add, q_sub, q_lt, q_le, q_gt, q_ge, q_eqI, q_neI, q_eqB, q_neB, q_isN, q_notN, Ix.isNon, q_ixT, q_ixR, atI_0, atI_1, atI_2, atI_3, atI_4, atI_5, atI_6, atI_7, q_slT, q_slR, q_revT, q_seqT, q_int, q_intB, q_max, q_min, q_abs, q_tupT, n_tup, n_int, n_bl, n_non, n_str, isi_ii, isi_ib, isi_tt, isi_itl, isi_btl, isi_ttl, isi_tl, isi_bb, u_bl, u_int, u_non, u_tup, g_name, g_tup, g_nil, g_cons, o_ret, o_nx, i_seq, List.set_cons_zero, List.set_cons_succ, decide_eq_true_eq, Bool.not_eq_true', decide_eq_false_iff_not, evP, Bool.false_eq_true, if_true, if_false, ite_true, ite_false, reduceIte, Bool.not_true, Bool.not_false, Option.some.injEq, q_pow10, Int.reduceToNat, Int.reducePow, Int.reduceAdd, Int.reduceSub, Int.reduceMul, Int.reduceNeg, Int.reduceLT, Int.reduceLE, Nat.reducePow, Nat.reduceLT, Nat.reduceLeDiff, Nat.reduceAdd, List.length_cons, List.length_nil, Int.neg_neg, ew, ec]
      refine ⟨trivial, Lq.refl _, fun _ => ?_⟩
      unfold chtD
      refine (held_offset_ok (n := n) far s0).use fun S3 l3 => ?_
      simp_all? only [show (2 : Nat) ≤ most by decide]
      exact ⟨rfl, l3⟩
  have non : S[q]? = some (.lst []) → M (ev (run T (n + 1)) (.lc .seq (.cons (.var 1) .nil) (.tup (.cons (.name 2) (.cons (.name 3) (.cons (.name 4) .nil)))) (.c (.bl true)) (.tup (.cons (.var 4) (.cons (.call 14 (.cons (.ix (.ix (.var 0) (.var 3)) (.var 2)) (.cons (.var 4) (.nil)))) (.nil)))) [2, 3, 4]) [some (wldD a b), some (.ref q), none, none, none] S) fun r => ∃ (k : Nat) (S' : Hd), r = (.ref k, S') ∧ S.length ≤ k ∧ S'[k]? = some (.lst []) ∧ Lq S S' := fun g => by
    refine M_lcx ([] : List D) id (fun _ => true) (fun x => x) (by decide) ?_ (by show 0 < most; decide) (fun y S2 hy l2 => by cases hy) fun j S2 hj g2 l2 => ⟨j, S2, rfl, hj, g2, l2⟩
    simp_all? only []
    exact ⟨_, _, rfl, Lq.refl _, fun S2 l2 => q_seqL (l2 _ _ g)⟩
  have fin : ∀ {L : List D}, M (ev (run T (n + 1)) (.lc .seq (.cons (.var 1) .nil) (.tup (.cons (.name 2) (.cons (.name 3) (.cons (.name 4) .nil)))) (.c (.bl true)) (.tup (.cons (.var 4) (.cons (.call 14 (.cons (.ix (.ix (.var 0) (.var 3)) (.var 2)) (.cons (.var 4) (.nil)))) (.nil)))) [2, 3, 4]) [some (wldD a b), some (.ref q), none, none, none] S) (fun r => ∃ (k : Nat) (S' : Hd), r = (.ref k, S') ∧ S.length ≤ k ∧ S'[k]? = some (.lst L) ∧ Lq S S') → L = seensF a d x →
      M (ex (run T (n + 1)) (.ret (.lc .seq (.cons (.var 1) .nil) (.tup (.cons (.name 2) (.cons (.name 3) (.cons (.name 4) .nil)))) (.c (.bl true)) (.tup (.cons (.var 4) (.cons (.call 14 (.cons (.ix (.ix (.var 0) (.var 3)) (.var 2)) (.cons (.var 4) (.nil)))) (.nil)))) [2, 3, 4])) [some (wldD a b), some (.ref q), none, none, none] S) fun r => ∃ (d0 : D), r.1 = .ret d0 ∧ ∃ (k : Nat) (S' : Hd), (d0, r.2.2) = (.ref k, S') ∧ S.length ≤ k ∧ S'[k]? = some (.lst (seensF a d x)) ∧ Lq S S' := fun {L} h e => by
    subst e
    refine ret_M (h.imp ?_)
    rintro _ ⟨k, S', rfl, hk, gk, l⟩
    exact ⟨_, rfl, k, S', rfl, hk, gk, l⟩
  have key : M (ex (run T (n + 1)) (.ret (.lc .seq (.cons (.var 1) .nil) (.tup (.cons (.name 2) (.cons (.name 3) (.cons (.name 4) .nil)))) (.c (.bl true)) (.tup (.cons (.var 4) (.cons (.call 14 (.cons (.ix (.ix (.var 0) (.var 3)) (.var 2)) (.cons (.var 4) (.nil)))) (.nil)))) [2, 3, 4])) [some (wldD a b), some (.ref q), none, none, none] S) fun r => ∃ (d0 : D), r.1 = .ret d0 ∧ ∃ (k : Nat) (S' : Hd), (d0, r.2.2) = (.ref k, S') ∧ S.length ≤ k ∧ S'[k]? = some (.lst (seensF a d x)) ∧ Lq S S' := by
    cases d with
    | add v m => exact fin (non g) rfl
    | plus v s => exact fin (non g) rfl
    | less v s => exact fin (non g) rfl
    | read v p => exact fin (one hd.2 g) rfl
    | offset v p => exact fin (one hd.2 g) rfl
    | edition v p => exact hd.elim
    | find v p i j => exact hd.elim
  refine key.imp ?_
  rintro ⟨o, env, S'⟩ ⟨d0, e, k, S2, e2, hk, gk, l⟩
  have e : o = .ret d0 := e
  subst e
  cases e2
  simp? only []
  exact ⟨k, S', rfl, hk, gk, l⟩
theorem made_value_ok {n k q : Nat} {S : Hd} {cs : List Cht} {d : Dd} {vs : List Int} (hd : Fit cs.length vs.length d) (g : S[k]? = some (.lst (vs.map .int))) (gq : S[q]? = some (.lst (seensF cs d (vs.getD (dv d) 0)))) : Pu (run T (n + 1) 149 [ddD d, .ref k, .ref q] S) (.int (valF cs vs d)) S := by
  refine Pu.run T_made_value rfl ?_
  show M (ex (run T n) b_made_value [some (ddD d), some (.ref k), some (.ref q), none, none] S) _
  unfold b_made_value
  have hx := getD_some (fit_dv hd)
  refine seq_M (fun env S1 => env = [some (ddD d), some (.ref k), some (.ref q), some (.str (wd d)), none] ∧ S = S1) ?_ ?_
  · simp? only [dd_0]
    exact ⟨trivial, trivial, trivial⟩
  rintro _ _ ⟨rfl, rfl⟩
  refine seq_M (fun env S1 => env = [some (ddD d), some (.ref k), some (.ref q), some (.str (wd d)), some (.int (vs.getD (dv d) 0))] ∧ S = S1) ?_ ?_
  · simp? only [dd_1, q_ixL g, num_at hx]
    exact ⟨trivial, trivial, trivial⟩
  rintro _ _ ⟨rfl, rfl⟩
  have sk : ∀ env, ex (run T n) .skip env S = some (.nx, env, S) := fun _ => rfl
  cases d with
  | edition v p => exact hd.elim
  | find v p i j => exact hd.elim
  | read v p =>
    refine seq_Mx (ite_B (B := true) (by simp_all? only [wd, q_eqS, decide_true]) (fun _ => ?_) (fun h => by cases h))
    simp only [seensF, dv] at gq
    simp? only [q_ixL gq, seenD, dv]
    exact ⟨rfl, Lq.refl _⟩
  | offset v p =>
    refine seq_Mx (ite_B (B := false) (by simp_all? only [wd, q_eqS]; rw [decide_eq_false (by decide)]) (fun h => by cases h) fun _ => ?_)
    rw [sk]
    simp only [M_some]
    refine seq_Mx (ite_B (B := true) (by simp_all? only [wd, q_eqS, decide_true]) (fun _ => ?_) (fun h => by cases h))
    simp only [seensF, dv] at gq
    simp? only [q_ixL gq, seenD]
    exact ⟨rfl, Lq.refl _⟩
  | plus v s =>
    have h2 : ∀ S, ixD (ddD (.plus v s)) (.int 2) S = some (.int (s : Int), S) := fun _ => rfl
    iterate 4
      refine seq_Mx (ite_B (B := false) (by simp_all? only [wd, q_eqS]; rw [decide_eq_false (by decide)]) (fun h => by cases h) fun _ => ?_)
      rw [sk]
      simp only [M_some]
    refine seq_Mx (ite_B (B := true) (by simp_all? only [wd, q_eqS, decide_true]) (fun _ => ?_) (fun h => by cases h))
    simp? only [h2, q_ixL g, num_at (getD_some hd.2), dv]
    exact ⟨rfl, Lq.refl _⟩
  | less v s =>
    have h2 : ∀ S, ixD (ddD (.less v s)) (.int 2) S = some (.int (s : Int), S) := fun _ => rfl
    iterate 5
      refine seq_Mx (ite_B (B := false) (by simp_all? only [wd, q_eqS]; rw [decide_eq_false (by decide)]) (fun h => by cases h) fun _ => ?_)
      rw [sk]
      simp only [M_some]
    refine seq_Mx (ite_B (B := true) (by simp_all? only [wd, q_eqS, decide_true]) (fun _ => ?_) (fun h => by cases h))
    simp? only [h2, q_ixL g, num_at (getD_some hd.2), dv]
    exact ⟨rfl, Lq.refl _⟩
  | add v m =>
    have h2 : ∀ S, ixD (ddD (.add v m)) (.int 2) S = some (.int m, S) := fun _ => rfl
    iterate 6
      refine seq_Mx (ite_B (B := false) (by simp_all? only [wd, q_eqS]; rw [decide_eq_false (by decide)]) (fun h => by cases h) fun _ => ?_)
      rw [sk]
      simp only [M_some]
    simp? only [h2, dv]
    exact ⟨rfl, Lq.refl _⟩
end Lw

namespace Lw
open PySem L2 Ix
/-! ### runs -/
def runF (cs : List Cht) (plan : List Dd) (s : Int) : List Int := plan.foldl (fun vs d => vs ++ [valF cs vs d]) [s]
theorem runF_len (cs : List Cht) (s : Int) : ∀ plan : List Dd, (runF cs plan s).length = plan.length + 1 := fun plan => by
  have key : ∀ (plan : List Dd) (vs : List Int), (plan.foldl (fun vs d => vs ++ [valF cs vs d]) vs).length = vs.length + plan.length := by
    intro plan
    induction plan with
    | nil => intro vs; rfl
    | cons d r ih => intro vs; rw [List.foldl_cons, ih, List.length_append, List.length_cons, List.length_cons, List.length_nil]; omega
  unfold runF
  rw [key, List.length_cons, List.length_nil]
  omega
theorem runF_snoc {cs : List Cht} {s : Int} {plan : List Dd} {i : Nat} {d : Dd} (h : plan[i]? = some d) : runF cs (plan.take (i + 1)) s = runF cs (plan.take i) s ++ [valF cs (runF cs (plan.take i) s) d] := by
  unfold runF
  rw [List.take_add_one, h, List.foldl_append]
  rfl
theorem fit_of {nz : Nat} {ks : List Str} {d : Dd} (h : okD nz ks d) (p : Plain d) : Fit nz ks.length d := by
  cases d with
  | add v m => obtain ⟨⟨k, hk, _⟩, _⟩ := h; exact lt_get hk
  | plus v s => exact ⟨lt_get h.1, lt_get h.2⟩
  | less v s => exact ⟨lt_get h.1, lt_get h.2⟩
  | read v q => exact ⟨lt_get h.1, h.2⟩
  | offset v q => exact ⟨lt_get h.1, h.2⟩
  | edition v q => exact p.elim
  | find v q i j => exact p.elim
theorem fit_at {nz : Nat} {plan : List Dd} {i : Nat} {d : Dd} (hv : Valid nz plan) (hp : Plains plan) (h : plan[i]? = some d) : Fit nz (i + 1) d := by
  have hi := (List.getElem?_eq_some_iff.mp h).1
  have := fit_of (hv.ok i d h) (hp d (List.mem_of_getElem? h))
  rw [rowOf_len, List.length_take, Nat.min_eq_left (by omega)] at this
  exact this
theorem run_ok {n : Nat} {S : Hd} {zs : Zs} {plan : List Dd} {a b : List Cht} {s : Int} (hz : Belts zs) (hv : Valid zs.length plan) (hp : Plains plan) (ha : Earth zs a) (hb : Earth zs b) :
    M (run T (n + 9) 156 [beltsD zs, planD plan, wldD a b, .int s] S) fun r => ∃ (k : Nat) (S' : Hd), r = (.ref k, S') ∧ S.length ≤ k ∧ S'[k]? = some (.lst ((runF a plan s).map .int)) ∧ Lq S S' := by
  have hm := most_big
  have h8 := hv.short
  have al := ha.len
  refine run_M T_run rfl ?_
  show M (ex (run T (n + 8)) b_run [some (beltsD zs), some (planD plan), some (wldD a b), some (.int s), none, none, none, none] S) _
  unfold b_run
  refine seq_M (fun env S1 => env = [some (beltsD zs), some (planD plan), some (wldD a b), some (.int s), none, none, none, none] ∧ Lq S S1) ?_ ?_
  · simp? only []
    refine (check_zones_ok (n := n + 2) hz).use fun S1 l1 => ?_
    exact ⟨trivial, trivial, l1⟩
  rintro _ S1 ⟨rfl, l1⟩
  refine seq_M (fun env S2 => env = [some (beltsD zs), some (planD plan), some (wldD a b), some (.int s), none, none, none, none] ∧ Lq S S2) ?_ ?_
  · simp? only []
    refine (check_program_ok (n := n + 1) hv).use fun S2 l2 => ?_
    exact ⟨trivial, trivial, l1.trans l2⟩
  rintro _ S2 ⟨rfl, l2⟩
  refine seq_M (fun env S3 => env = [some (beltsD zs), some (planD plan), some (wldD a b), some (.int s), none, none, none, none] ∧ Lq S S3) ?_ ?_
  · simp? only []
    refine (check_world_ok (n := n) hz ha hb).use fun S3 l3 => ?_
    exact ⟨trivial, trivial, l2.trans l3⟩
  rintro _ S3 ⟨rfl, l3⟩
  refine seq_M (fun env S4 => env = [some (beltsD zs), some (planD plan), some (wldD a b), some (.int s), none, none, none, none] ∧ Lq S S4) ?_ ?_
  · simp? only []
    refine (check_number_ok (n := n + 6)).use fun S4 l4 => ?_
    exact ⟨trivial, trivial, l3.trans l4⟩
  rintro _ S4 ⟨rfl, l4⟩
  refine seq_M (fun env S5 => env = [some (beltsD zs), some (planD plan), some (wldD a b), some (.int s), some (.ref S4.length), none, none, none] ∧ S4 ++ [.lst [.int s]] = S5) ?_ ?_
  · simp? only [show (1 : Nat) ≤ most by decide, al_eq]
    exact ⟨trivial, trivial, trivial⟩
  rintro _ _ ⟨rfl, rfl⟩
  have ep : ∀ S2, seqOf S2 (planD plan) = some (plan.map ddD) := fun _ => rfl
  refine seq_M (fun env S6 => ∃ v5 v6 v7 : Option D, env = [some (beltsD zs), some (planD plan), some (wldD a b), some (.int s), some (.ref S4.length), v5, v6, v7] ∧ S6[S4.length]? = some (.lst ((runF a plan s).map .int)) ∧ Lq S4 S6) ?_ ?_
  · refine for_M ?_
    simp_all? only []
    refine ⟨_, _, rfl, rfl, ?_⟩
    refine M_loopS (m := 0) (fun i env S6 => ∃ v5 v6 v7 : Option D, env = [some (beltsD zs), some (planD plan), some (wldD a b), some (.int s), some (.ref S4.length), v5, v6, v7] ∧ S6[S4.length]? = some (.lst ((runF a (plan.take i) s).map .int)) ∧ Lq S4 S6) ⟨none, none, none, rfl, get_new, Lq.app _ _⟩ ?_ ?_
    · rintro i x env S6 hi ⟨v5, v6, v7, rfl, g, l⟩
      rw [List.getElem?_mapIdx, List.getElem?_map] at hi
      cases h1 : plan[i]? with
      | none => simp [h1] at hi
      | some d =>
        simp [h1] at hi
        subst hi
        simp only [Nat.zero_add] at g ⊢
        have il := (List.getElem?_eq_some_iff.mp h1).1
        have pd := hp d (List.mem_of_getElem? h1)
        have vl := runF_len a s (plan.take i)
        rw [List.length_take, Nat.min_eq_left (by omega)] at vl
        have ft := fit_at hv hp h1
        rw [← vl, ← al] at ft
        have hx := getD_some (fit_dv ft)
        simp only [asgG, Option.bind_some, List.set_cons_succ, List.set_cons_zero]
        refine seq_M (fun env S7 => env = [some (beltsD zs), some (planD plan), some (wldD a b), some (.int s), some (.ref S4.length), some (.int (i : Int)), some (ddD d), v7] ∧ S6 = S7) ?_ ?_
        · refine ite_M (tst_M (M_andb (M_is (v := (.bl false, S6)) (by simp_all? only [dd_0, q_eqS, wd_ed, plain_ed pd]) (.inr ⟨rfl, false, rfl, ?_⟩))))
          simp only [Bool.false_eq_true, if_false]
          exact ⟨_, rfl, rfl, rfl, rfl⟩
        rintro _ _ ⟨rfl, rfl⟩
        refine seq_M (fun env S7 => env = [some (beltsD zs), some (planD plan), some (wldD a b), some (.int s), some (.ref S4.length), some (.int (i : Int)), some (ddD d), some (.int (valF a (runF a (plan.take i) s) d))] ∧ Lq S6 S7) ?_ ?_
        · refine asg_M ?_
          simp_all? only []
          refine (looked_at_ok (n := n + 6) hp h8 g (by omega) (by rw [vl]; exact h1) hx).imp ?_
          rintro _ ⟨q, S7, rfl, hq, gq, l7⟩
          simp_all? only []
          refine (looks_in_ok (n := n + 6) hz ha ft gq).imp ?_
          rintro _ ⟨k, S8, rfl, hk, gk, l8⟩
          simp_all? only []
          refine (made_value_ok (n := n + 7) ft (l8 _ _ (l7 _ _ g)) gk).use fun S9 l9 => ?_
          exact ⟨trivial, rfl, l7.trans (l8.trans l9)⟩
        rintro _ S7 ⟨rfl, l7⟩
        refine seq_M (fun env S8 => env = [some (beltsD zs), some (planD plan), some (wldD a b), some (.int s), some (.ref S4.length), some (.int (i : Int)), some (ddD d), some (.int (valF a (runF a (plan.take i) s) d))] ∧ S7 = S8) ?_ ?_
        · refine ite_B (B := false) (by simp_all? only []) (fun h => by cases h) fun _ => ?_
          exact ⟨_, rfl, rfl, rfl, rfl⟩
        rintro _ _ ⟨rfl, rfl⟩
        have g7 := l7 _ _ g
        simp? only [q_isL g7]
        rw [q_app g7 (by rw [List.length_map, vl]; omega)]
        simp? only []
        refine ⟨rfl, _, _, _, rfl, ?_, (l.trans l7).set (Nat.le_refl _)⟩
        rw [runF_snoc h1, List.map_append]
        exact List.getElem?_set_self (lt_of_get g7)
    · rintro env S6 ⟨v5, v6, v7, rfl, g, l⟩
      rw [Nat.zero_add, List.length_mapIdx, List.length_map, List.take_length] at g
      exact ⟨rfl, v5, v6, v7, rfl, g, l⟩
  rintro _ S6 ⟨v5, v6, v7, rfl, g, l⟩
  simp? only []
  exact ⟨_, _, rfl, l4.len, g, l4.trans l⟩
end Lw

namespace Lw
open PySem L2 Ix
/-! ### the run by the law -/
theorem holds_at {n : Nat} {S : Hd} {off m : Int} {js : List (Int × Int)} : Pu (run T (n + 1) 163 [chartD off js, .int m] S) (.int (heldF off js m)) S := by
  refine Pu.run T_holds rfl ?_
  show M (ex (run T n) b_holds [some (chartD off js), some (.int m), none, none, none] S) _
  unfold b_holds chartD
  refine seq_M (fun env S1 => env = [some (.tup [.int off, .tup (js.map jumpD)]), some (.int m), some (.int off), none, none] ∧ S = S1) ?_ ?_
  · simp? only []
    exact ⟨trivial, trivial, trivial⟩
  rintro _ _ ⟨rfl, rfl⟩
  refine seq_M (fun env S1 => ∃ v4 v5 : Option D, env = [some (.tup [.int off, .tup (js.map jumpD)]), some (.int m), some (.int (heldF off js m)), v4, v5] ∧ S = S1) ?_ ?_
  · refine for_M ?_
    simp? only []
    refine ⟨_, _, rfl, rfl, ?_⟩
    refine M_loopS (m := 0) (fun i env S1 => S = S1 ∧ ∃ v4 v5 : Option D, env = [some (.tup [.int off, .tup (js.map jumpD)]), some (.int m), some (.int (heldF off (js.take i) m)), v4, v5]) ⟨rfl, none, none, rfl⟩ ?_ ?_
    · rintro i d env S1 hi ⟨rfl, v4, v5, rfl⟩
      obtain ⟨j, hj, rfl⟩ := jump_get hi
      simp? only [Nat.zero_add]
      by_cases hm : j.1 ≤ m
      · simp only [if_pos hm]
        exact ⟨trivial, trivial, _, _, by rw [heldF_succ hj, if_pos hm]⟩
      · simp only [if_neg hm]
        exact ⟨trivial, trivial, _, _, by rw [heldF_succ hj, if_neg hm]⟩
    · rintro env S1 ⟨rfl, v4, v5, rfl⟩
      refine ⟨rfl, v4, v5, ?_, rfl⟩
      simp
  rintro _ _ ⟨v4, v5, rfl, rfl⟩
  simp? only []
  exact ⟨trivial, Lq.refl _⟩
theorem holds_ok {n : Nat} {S : Hd} {c : Cht} {t : Int} : Pu (run T (n + 1) 163 [chtD c, .int t] S) (.int (heldF c.1 c.2 t)) S := holds_at
def askF : Dd → Int → List D
  | .read _ _, x => [.int x]
  | .offset _ _, x => [.int x]
  | _, _ => []
theorem asked_at_ok {n k : Nat} {S : Hd} {zd : D} {d : Dd} {vs : List Int} (hd : Plain d) (hv : dv d < vs.length) (g : S[k]? = some (.lst (vs.map .int))) :
    M (run T (n + 1) 165 [zd, ddD d, .ref k] S) fun r => r = (.ref S.length, S ++ [.lst (askF d (vs.getD (dv d) 0))]) := by
  refine run_M T_asked_at rfl ?_
  show M (ex (run T n) b_asked_at [some zd, some (ddD d), some (.ref k), none, none] S) _
  unfold b_asked_at
  refine seq_M (fun env S1 => env = [some zd, some (ddD d), some (.ref k), some (.int (vs.getD (dv d) 0)), none] ∧ S = S1) ?_ ?_
  · simp? only [dd_1, q_ixL g, num_at (getD_some hv)]
    exact ⟨trivial, trivial, trivial⟩
  rintro _ _ ⟨rfl, rfl⟩
  have sk : ∀ env, ex (run T n) .skip env S = some (.nx, env, S) := fun _ => rfl
  refine seq_Mx (ite_B (B := false) (by simp_all? only [dd_0, q_eqS, wd_find hd]) (fun h => by cases h) fun _ => ?_)
  rw [sk]
  simp only [M_some]
  have w1 : ∀ (B : Bool), ((decide (wd d = "read")) || decide (wd d = "offset")) = B → ev (run T n) (.or_ (.cmp .eq (.ix (.var 1) (.c (.int 0))) (.c (.str "read"))) (.cmp .eq (.ix (.var 1) (.c (.int 0))) (.c (.str "offset")))) [some zd, some (ddD d), some (.ref k), some (.int (vs.getD (dv d) 0)), none] S = some (.bl B, S) := fun B h => by
    simp_all? only [dd_0, q_eqS]
    subst h
    by_cases q : wd d = "read"
    · simp [q, tru]
    · simp [q, tru]
  have yes : ((decide (wd d = "read")) || decide (wd d = "offset")) = true → askF d (vs.getD (dv d) 0) = [.int (vs.getD (dv d) 0)] → M (ex (run T n) (.seq (.ite (.or_ (.cmp .eq (.ix (.var 1) (.c (.int 0))) (.c (.str "read"))) (.cmp .eq (.ix (.var 1) (.c (.int 0))) (.c (.str "offset"))))
      (.ret (.lst (.cons (.var 3) (.nil)))) .skip)
      (.seq (.ite (.cmp .eq (.ix (.var 1) (.c (.int 0))) (.c (.str "edition")))
      (.ret (.lst (.cons (.bin .sub (.var 3) (.c (.int 1))) (.nil)))) .skip)
      (.ret (.lst (.nil))))) [some zd, some (ddD d), some (.ref k), some (.int (vs.getD (dv d) 0)), none] S) fun r => M (outD (some r)) fun r => r = (.ref S.length, S ++ [.lst (askF d (vs.getD (dv d) 0))]) := fun h e => by
    refine seq_Mx (ite_B (B := true) (w1 true h) (fun _ => ?_) (fun h => by cases h))
    simp? only [show (1 : Nat) ≤ most by decide, al_eq, e]
  have no : ((decide (wd d = "read")) || decide (wd d = "offset")) = false → askF d (vs.getD (dv d) 0) = [] → M (ex (run T n) (.seq (.ite (.or_ (.cmp .eq (.ix (.var 1) (.c (.int 0))) (.c (.str "read"))) (.cmp .eq (.ix (.var 1) (.c (.int 0))) (.c (.str "offset"))))
      (.ret (.lst (.cons (.var 3) (.nil)))) .skip)
      (.seq (.ite (.cmp .eq (.ix (.var 1) (.c (.int 0))) (.c (.str "edition")))
      (.ret (.lst (.cons (.bin .sub (.var 3) (.c (.int 1))) (.nil)))) .skip)
      (.ret (.lst (.nil))))) [some zd, some (ddD d), some (.ref k), some (.int (vs.getD (dv d) 0)), none] S) fun r => M (outD (some r)) fun r => r = (.ref S.length, S ++ [.lst (askF d (vs.getD (dv d) 0))]) := fun h e => by
    refine seq_Mx (ite_B (B := false) (w1 false h) (fun h => by cases h) fun _ => ?_)
    rw [sk]
    simp only [M_some]
    refine seq_Mx (ite_B (B := false) (by simp_all? only [dd_0, q_eqS, wd_ed, plain_ed hd]) (fun h => by cases h) fun _ => ?_)
    rw [sk]
    simp only [M_some, ex, ev, M_bind, M_map, M_some, M_ite, t_eq, a_tup, al_eq, List.getElem?_cons_zero, List.getElem?_cons_succ, Option.bind_some, Option.map_some, q_add, q_sub, q_lt, q_le, q_gt, q_ge, q_eqI, q_neI, q_eqB, q_neB, q_isN, q_notN, Ix.isNon, q_ixT, q_ixR, atI_0, atI_1, atI_2, atI_3, atI_4, atI_5, atI_6, atI_7, q_slT, q_slR, q_revT, q_seqT, q_int, q_intB, q_max, q_min, q_abs, q_tupT, n_tup, n_int, n_bl, n_non, n_str, isi_ii, isi_ib, isi_tt, isi_itl, isi_btl, isi_ttl, isi_tl, isi_bb, u_bl, u_int, u_non, u_tup, g_name, g_tup, g_nil, g_cons, o_ret, o_nx, i_seq, List.set_cons_zero, List.set_cons_succ, decide_eq_true_eq, Bool.not_eq_true', decide_eq_false_iff_not, evP, Bool.false_eq_true, if_true, if_false, ite_true, ite_false, reduceIte, Bool.not_true, Bool.not_false, Option.some.injEq, q_pow10, Int.reduceToNat, Int.reducePow, Int.reduceAdd, Int.reduceSub, Int.reduceMul, Int.reduceNeg, Int.reduceLT, Int.reduceLE, Nat.reducePow, Nat.reduceLT, Nat.reduceLeDiff, Nat.reduceAdd, List.length_cons, List.length_nil, Int.neg_neg, show (0 : Nat) ≤ most by decide, al_eq, e]
  cases d with
  | read v p => exact yes (by exact (by decide : ((decide (("read" : Str) = "read")) || decide (("read" : Str) = "offset")) = true)) rfl
  | offset v p => exact yes (by exact (by decide : ((decide (("offset" : Str) = "read")) || decide (("offset" : Str) = "offset")) = true)) rfl
  | add v m => exact no (by exact (by decide : ((decide (("add" : Str) = "read")) || decide (("add" : Str) = "offset")) = false)) rfl
  | plus v s => exact no (by exact (by decide : ((decide (("plus" : Str) = "read")) || decide (("plus" : Str) = "offset")) = false)) rfl
  | less v s => exact no (by exact (by decide : ((decide (("less" : Str) = "read")) || decide (("less" : Str) = "offset")) = false)) rfl
  | edition v p => exact hd.elim
  | find v p i j => exact hd.elim
theorem worth_made_ok {n k m : Nat} {S : Hd} {zd : D} {cs : List Cht} {d : Dd} {vs : List Int} (hd : Fit cs.length vs.length d) (g : S[k]? = some (.lst (vs.map .int))) (gm : S[m]? = some (.lst (cs.map chtD))) : Pu (run T (n + 2) 166 [zd, .ref m, ddD d, .ref k] S) (.int (valF cs vs d)) S := by
  refine Pu.run T_worth_made rfl ?_
  show M (ex (run T (n + 1)) b_worth_made [some zd, some (.ref m), some (ddD d), some (.ref k), none] S) _
  unfold b_worth_made
  have hx := getD_some (fit_dv hd)
  refine seq_M (fun env S1 => env = [some zd, some (.ref m), some (ddD d), some (.ref k), some (.int (vs.getD (dv d) 0))] ∧ S = S1) ?_ ?_
  · simp? only [dd_1, q_ixL g, num_at hx]
    exact ⟨trivial, trivial, trivial⟩
  rintro _ _ ⟨rfl, rfl⟩
  have sk : ∀ env, ex (run T (n + 1)) .skip env S = some (.nx, env, S) := fun _ => rfl
  cases d with
  | edition v p => exact hd.elim
  | find v p i j => exact hd.elim
  | read v p =>
    have h2 : ∀ S, ixD (ddD (.read v p)) (.int 2) S = some (.int (p : Int), S) := fun _ => rfl
    iterate 1
      refine seq_Mx (ite_B (B := false) (by simp_all? only [dd_0, wd, q_eqS]; rw [decide_eq_false (by decide)]) (fun h => by cases h) fun _ => ?_)
      rw [sk]
      simp only [M_some]
    refine seq_Mx (ite_B (B := true) (by simp_all? only [dd_0, wd, q_eqS, decide_true]) (fun _ => ?_) (fun h => by cases h))
    simp? only [h2, q_ixL gm, cht_at hd.2, dv]
    refine holds_ok.use fun S1 l1 => ?_
    simp? only []
    exact ⟨rfl, l1⟩
  | offset v p =>
    have h2 : ∀ S, ixD (ddD (.offset v p)) (.int 2) S = some (.int (p : Int), S) := fun _ => rfl
    iterate 2
      refine seq_Mx (ite_B (B := false) (by simp_all? only [dd_0, wd, q_eqS]; rw [decide_eq_false (by decide)]) (fun h => by cases h) fun _ => ?_)
      rw [sk]
      simp only [M_some]
    refine seq_Mx (ite_B (B := true) (by simp_all? only [dd_0, wd, q_eqS, decide_true]) (fun _ => ?_) (fun h => by cases h))
    simp? only [h2, q_ixL gm, cht_at hd.2, dv]
    refine holds_ok.use fun S1 l1 => ?_
    simp? only []
    exact ⟨rfl, l1⟩
  | plus v s =>
    have h2 : ∀ S, ixD (ddD (.plus v s)) (.int 2) S = some (.int (s : Int), S) := fun _ => rfl
    iterate 3
      refine seq_Mx (ite_B (B := false) (by simp_all? only [dd_0, wd, q_eqS]; rw [decide_eq_false (by decide)]) (fun h => by cases h) fun _ => ?_)
      rw [sk]
      simp only [M_some]
    refine seq_Mx (ite_B (B := true) (by simp_all? only [dd_0, wd, q_eqS, decide_true]) (fun _ => ?_) (fun h => by cases h))
    simp? only [h2, q_ixL g, num_at (getD_some hd.2), dv]
    exact ⟨rfl, Lq.refl _⟩
  | less v s =>
    have h2 : ∀ S, ixD (ddD (.less v s)) (.int 2) S = some (.int (s : Int), S) := fun _ => rfl
    iterate 4
      refine seq_Mx (ite_B (B := false) (by simp_all? only [dd_0, wd, q_eqS]; rw [decide_eq_false (by decide)]) (fun h => by cases h) fun _ => ?_)
      rw [sk]
      simp only [M_some]
    refine seq_Mx (ite_B (B := true) (by simp_all? only [dd_0, wd, q_eqS, decide_true]) (fun _ => ?_) (fun h => by cases h))
    simp? only [h2, q_ixL g, num_at (getD_some hd.2), dv]
    exact ⟨rfl, Lq.refl _⟩
  | add v m2 =>
    have h2 : ∀ S, ixD (ddD (.add v m2)) (.int 2) S = some (.int m2, S) := fun _ => rfl
    iterate 5
      refine seq_Mx (ite_B (B := false) (by simp_all? only [dd_0, wd, q_eqS]; rw [decide_eq_false (by decide)]) (fun h => by cases h) fun _ => ?_)
      rw [sk]
      simp only [M_some]
    refine seq_Mx (ite_B (B := true) (by simp_all? only [dd_0, wd, q_eqS, decide_true]) (fun _ => ?_) (fun h => by cases h))
    simp? only [h2, dv]
    exact ⟨rfl, Lq.refl _⟩
end Lw

namespace Lw
open PySem L2 Ix
/-! ### follow -/
def markD (m : Int × Int × Int) : D := .tup [.int m.1, .int 0, .int m.2.1, .int m.2.2]
def markP (m : Int × Int × Int) : PyData := .tuple [.int m.1, .int 0, .int m.2.1, .int m.2.2]
theorem py_mark {n : Nat} {S : Hd} (m : Int × Int × Int) : py (n + 2) S (markD m) = some (markP m) := by
  simp only [markD, py, pyL, Option.bind_some, Option.map_some, markP]
theorem pyL_mark {n : Nat} {S : Hd} : ∀ ms : List (Int × Int × Int), pyL (py (n + 2) S) (ms.map markD) = some (ms.map markP)
  | [] => rfl
  | m :: ms => by simp only [List.map_cons, pyL, py_mark, pyL_mark ms, Option.bind_some, Option.map_some]
theorem mark_shape (m : Int × Int × Int) : PyData.canLay0 (markP m) = true ∧ PyData.depth (markP m) ≤ 2 := by
  simp [markP, PyData.canLay0, PyData.canLayAll0, PyData.depth, PyData.depthAll]
theorem marks_shape : ∀ ms : List (Int × Int × Int), PyData.canLayAll0 (ms.map markP) = true ∧ PyData.depthAll (ms.map markP) ≤ 4
  | [] => by simp [PyData.canLayAll0, PyData.depthAll]
  | m :: ms => by
    have a := mark_shape m
    have b := marks_shape ms
    simp only [List.map_cons, PyData.canLayAll0, PyData.depthAll, a.1, b.1, Bool.and_self, true_and]
    omega
theorem notin_marks {S : Hd} {q : Nat} {m : Int × Int × Int} {ms : List (Int × Int × Int)} (g : S[q]? = some (.lst (ms.map markD))) : ∃ B, cmpdD .notin (markD m) (.ref q) S = some (.bl B, S) := by
  have p1 : py 9 S (markD m) = some (markP m) := py_mark (n := 7) m
  have p2 : py 9 S (.ref q) = some (.list (ms.map markP)) := by simp only [py, g, pyL_mark (n := 6), Option.map_some]
  have s1 : SeqAt.shaped (markP m) = true := by
    show (PyData.canLay0 (markP m) && decide (PyData.depth (markP m) ≤ 64)) = true
    have := mark_shape m
    rw [this.1, decide_eq_true (by omega)]
    rfl
  have s2 : SeqAt.shaped (.list (ms.map markP)) = true := by
    show (PyData.canLay0 (.list (ms.map markP)) && decide (PyData.depth (.list (ms.map markP)) ≤ 64)) = true
    have := marks_shape ms
    rw [Bool.and_eq_true]
    refine ⟨by simp only [PyData.canLay0]; exact this.1, decide_eq_true ?_⟩
    simp only [PyData.depth]
    omega
  refine ⟨!(ms.map markP).any fun z => PyData.eqv z (markP m), ?_⟩
  simp only [cmpdD, p1, p2, Option.bind_some, s1, s2, and_self, if_true]
theorem ev_cons {Γ : Fs} {e es : E} {env : Sl} {S S1 S2 : Hd} {d : D} {ds : List D} (h1 : ev Γ e env S = some (d, S1)) (h2 : ev Γ es env S1 = some (.tup ds, S2)) : ev Γ (.cons e es) env S = some (.tup (d :: ds), S2) := by
  simp only [ev, h1, h2, Option.bind_some, argsOf, Option.map_some]
theorem ev_dct0 {Γ : Fs} {env : Sl} {S : Hd} : ev Γ (.dct .nil) env S = some (.ref S.length, S ++ [.dct []]) := by
  simp only [ev, Option.bind_some, argsOf, pairUp]
  rw [if_pos ⟨List.nodup_nil, by decide, by rw [get_new]; rfl⟩, List.set_append_right _ _ (Nat.le_refl _), Nat.sub_self]
  rfl
theorem ev_lst0 {Γ : Fs} {env : Sl} {S : Hd} : ev Γ (.lst .nil) env S = some (.ref S.length, S ++ [.lst []]) := by
  simp only [ev, Option.bind_some, argsOf]
  rfl
theorem ask_one {nz nv j : Nat} {d : Dd} {x : Int} {y : D} (hd : Fit nz nv d) (h : (askF d x)[j]? = some y) : j = 0 ∧ y = .int x ∧ ∃ p : Nat, p < nz ∧ ∀ S, ixD (ddD d) (.int 2) S = some (.int (p : Int), S) := by
  cases d with
  | read v p =>
    match j, h with
    | 0, h => cases h; exact ⟨rfl, rfl, p, hd.2, fun _ => rfl⟩
    | _ + 1, h => cases h
  | offset v p =>
    match j, h with
    | 0, h => cases h; exact ⟨rfl, rfl, p, hd.2, fun _ => rfl⟩
    | _ + 1, h => cases h
  | _ => cases h
theorem ask_len (d : Dd) (x : Int) : (askF d x).length ≤ 1 := by cases d <;> simp [askF]
theorem din_0 {S : Hd} {e : Nat} {i : Int} (h : S[e]? = some (.dct [])) : dinD (.int i) (.ref e) S = some (.bl false, S) := by
  simp only [dinD, h]
  rfl
theorem follow_ok {n : Nat} {S : Hd} {zs : Zs} {plan : List Dd} {a b : List Cht} {s : Int} (hv : Valid zs.length plan) (hp : Plains plan) (ha : Earth zs a) :
    M (run T (n + 3) 168 [beltsD zs, planD plan, wldD a b, .int s] S) fun r => ∃ (L : D) (k : Nat) (S' : Hd), r = (.tup [L, .ref k, .non], S') ∧ S.length ≤ k ∧ S'[k]? = some (.lst ((runF a plan s).map .int)) ∧ Lq S S' := by
  have hm := most_big
  have h8 := hv.short
  have al := ha.len
  refine run_M T_follow rfl ?_
  show M (ex (run T (n + 2)) b_follow [some (beltsD zs), some (planD plan), some (wldD a b), some (.int s), none, none, none, none, none, none, none, none, none, none] S) _
  unfold b_follow
  have ew : ∀ S, ixD (wldD a b) (.int 0) S = some (chtsD a, S) := fun S => rfl
  have el : ∀ S, bltD .list_ [chtsD a] S = some (alloc S (a.map chtD)) := fun S => q_list rfl
  refine seq_M (fun env S1 => env = [some (beltsD zs), some (planD plan), some (wldD a b), some (.int s), some (.ref S.length), some (.ref (S.length + 1)), some (.ref (S.length + 2)), some (.ref (S.length + 3)), none, none, none, none, none, none] ∧ S1[S.length]? = some (.lst (a.map chtD)) ∧ S1[S.length + 1]? = some (.dct []) ∧ S1[S.length + 2]? = some (.lst [.int s]) ∧ S1[S.length + 3]? = some (.lst []) ∧ Lq S S1) ?_ ?_
  · have c1 : ∀ env : Sl, env[2]? = some (some (wldD a b)) → ev (run T (n + 2)) (.blt .list_ (.cons (.ix (.var 2) (.c (.int 0))) (.nil))) env S = some (.ref S.length, S ++ [.lst (a.map chtD)]) := fun env h => by
      simp_all? only [h, ew, el]
    have c3 : ∀ (env : Sl) (S : Hd), env[3]? = some (some (.int s)) → ev (run T (n + 2)) (.lst (.cons (.var 3) (.nil))) env S = some (.ref S.length, S ++ [.lst [.int s]]) := fun env S h => by
      simp_all? only [h, show (1 : Nat) ≤ most by decide]
    have n0 : ∀ (env : Sl) (S : Hd), ev (run T (n + 2)) .nil env S = some (.tup [], S) := fun _ _ => by simp only [ev]
    have all : ev (run T (n + 2)) (.cons (.blt .list_ (.cons (.ix (.var 2) (.c (.int 0))) (.nil))) (.cons (.dct .nil) (.cons (.lst (.cons (.var 3) (.nil))) (.cons (.lst (.nil)) (.nil))))) [some (beltsD zs), some (planD plan), some (wldD a b), some (.int s), none, none, none, none, none, none, none, none, none, none] S = some (.tup [.ref S.length, .ref (S.length + 1), .ref (S.length + 2), .ref (S.length + 3)], S ++ [.lst (a.map chtD)] ++ [.dct []] ++ [.lst [.int s]] ++ [.lst []]) := by
      have q := ev_cons (c1 _ rfl) (ev_cons ev_dct0 (ev_cons (c3 [some (beltsD zs), some (planD plan), some (wldD a b), some (.int s), none, none, none, none, none, none, none, none, none, none] _ rfl) (ev_cons ev_lst0 (n0 _ _))))
      simp only [List.length_append, List.length_cons, List.length_nil, Nat.zero_add, Nat.add_assoc, Nat.reduceAdd] at q
      exact q
    refine M_is (v := (.nx, [some (beltsD zs), some (planD plan), some (wldD a b), some (.int s), some (.ref S.length), some (.ref (S.length + 1)), some (.ref (S.length + 2)), some (.ref (S.length + 3)), none, none, none, none, none, none], S ++ [.lst (a.map chtD)] ++ [.dct []] ++ [.lst [.int s]] ++ [.lst []])) ?_ ⟨rfl, rfl, ?_, ?_, ?_, ?_, ?_⟩
    · show ((ev (run T (n + 2)) (.tup _) _ S).bind fun x => (asgG _ x.1 _).map fun env1 => (Out.nx, env1, x.2)) = _
      have et : ∀ (es : E) (env : Sl) (ds : List D) (S2 : Hd), ev (run T (n + 2)) es env S = some (.tup ds, S2) → ds.length ≤ 10 → ev (run T (n + 2)) (.tup es) env S = some (.tup ds, S2) := fun es env ds S2 h hl => by
        simp only [ev, h, Option.bind_some, argsOf]
        rw [if_pos (by omega)]
      rw [et _ _ _ _ all (by show 4 ≤ 10; decide), Option.bind_some]
      rfl
    · simp
    · simp
    · simp
    · simp
    · simp only [List.append_assoc]
      exact Lq.app _ _
  rintro _ S1 ⟨rfl, g0, ge, gv, gm, l1⟩
  have lp : ∀ S, bltD .len [planD plan] S = some (.int (plan.length : Nat), S) := fun S => by
    unfold planD
    rw [q_len q_seqT, List.length_map]
  refine seq_M (fun env S2 => ∃ v8 v9 v10 v11 v12 v13 : Option D, env = [some (beltsD zs), some (planD plan), some (wldD a b), some (.int s), some (.ref S.length), some (.ref (S.length + 1)), some (.ref (S.length + 2)), some (.ref (S.length + 3)), v8, v9, v10, v11, v12, v13] ∧ S2[S.length + 2]? = some (.lst ((runF a plan s).map .int)) ∧ Lq S S2) ?_ ?_
  · have ir : ∀ S2, items .range1 [.int (plan.length : Int)] S2 = some ((List.range plan.length).map fun (i : Nat) => .int (0 + (i : Int))) := fun S2 => by rw [i_rng (by omega) (by omega), Int.toNat_natCast]
    refine for_M ?_
    simp_all? only [lp]
    refine ⟨_, _, rfl, ir _, ?_⟩
    refine M_loopS (m := 0) (fun i env S2 => ∃ (v8 v9 v10 v11 v12 v13 : Option D) (ms : List (Int × Int × Int)), env = [some (beltsD zs), some (planD plan), some (wldD a b), some (.int s), some (.ref S.length), some (.ref (S.length + 1)), some (.ref (S.length + 2)), some (.ref (S.length + 3)), v8, v9, v10, v11, v12, v13] ∧ S2[S.length]? = some (.lst (a.map chtD)) ∧ S2[S.length + 1]? = some (.dct []) ∧ S2[S.length + 2]? = some (.lst ((runF a (plan.take i) s).map .int)) ∧ S2[S.length + 3]? = some (.lst (ms.map markD)) ∧ ms.length ≤ i ∧ Lq S S2) ⟨none, none, none, none, none, none, [], rfl, g0, ge, gv, gm, Nat.le_refl _, l1⟩ ?_ ?_
    · rintro i x env S2 hi ⟨v8, v9, v10, v11, v12, v13, ms, rfl, g0, ge, gv, gm, ml, l2⟩
      obtain ⟨i', hi', _, rfl⟩ := map_get hi
      have il := (List.getElem?_eq_some_iff.mp hi').1
      rw [List.length_range] at il
      have ei : i' = i := by
        rw [List.getElem?_range (by omega)] at hi'
        exact (Option.some.inj hi').symm
      subst ei
      have z0 : (0 : Int) + (i' : Int) = (i' : Int) := by omega
      rw [z0]
      simp only [Nat.zero_add] at gv ⊢
      obtain ⟨d, hd⟩ : ∃ d, plan[i']? = some d := ⟨_, List.getElem?_eq_getElem il⟩
      have pd := hp d (List.mem_of_getElem? hd)
      have vl := runF_len a s (plan.take i')
      rw [List.length_take, Nat.min_eq_left (by omega)] at vl
      have ft := fit_at hv hp hd
      rw [← vl, ← al] at ft
      have ix : ∀ S, ixD (planD plan) (.int (i' : Int)) S = some (ddD d, S) := fun S => by
        unfold planD
        rw [q_ixT, atI_lt (by omega) (by rw [List.length_map]; omega), Int.toNat_natCast, List.getElem?_map, hd]
        rfl
      simp only [asgG, Option.bind_some, List.set_cons_succ, List.set_cons_zero]
      refine seq_M (fun env S3 => env = [some (beltsD zs), some (planD plan), some (wldD a b), some (.int s), some (.ref S.length), some (.ref (S.length + 1)), some (.ref (S.length + 2)), some (.ref (S.length + 3)), some (.int (i' : Int)), some (ddD d), v10, v11, v12, v13] ∧ S2 = S3) ?_ ?_
      · simp? only [ix]
        exact ⟨trivial, trivial, trivial⟩
      rintro _ _ ⟨rfl, rfl⟩
      refine seq_M (fun env S3 => ∃ (v10 v12 v13 : Option D) (ms : List (Int × Int × Int)), env = [some (beltsD zs), some (planD plan), some (wldD a b), some (.int s), some (.ref S.length), some (.ref (S.length + 1)), some (.ref (S.length + 2)), some (.ref (S.length + 3)), some (.int (i' : Int)), some (ddD d), v10, v11, v12, v13] ∧ S3[S.length]? = some (.lst (a.map chtD)) ∧ S3[S.length + 1]? = some (.dct []) ∧ S3[S.length + 2]? = some (.lst ((runF a (plan.take i') s).map .int)) ∧ S3[S.length + 3]? = some (.lst (ms.map markD)) ∧ ms.length ≤ i' + 1 ∧ Lq S S3) ?_ ?_
      · refine for_M (M_args1 ?_)
        simp_all? only []
        refine (asked_at_ok (n := n + 1) pd (fit_dv ft) gv).imp ?_
        rintro _ rfl
        refine ⟨_, _, rfl, q_seqL get_new, ?_⟩
        have la := Lq.app S2 [O.lst (askF d ((runF a (plan.take i') s).getD (dv d) 0))]
        have s2l := lt_of_get gm
        refine M_loopS (m := 0) (fun j env S3 => ∃ (v10 v12 v13 : Option D) (ms : List (Int × Int × Int)), env = [some (beltsD zs), some (planD plan), some (wldD a b), some (.int s), some (.ref S.length), some (.ref (S.length + 1)), some (.ref (S.length + 2)), some (.ref (S.length + 3)), some (.int (i' : Int)), some (ddD d), v10, v11, v12, v13] ∧ S3[S.length]? = some (.lst (a.map chtD)) ∧ S3[S.length + 1]? = some (.dct []) ∧ S3[S.length + 2]? = some (.lst ((runF a (plan.take i') s).map .int)) ∧ S3[S.length + 3]? = some (.lst (ms.map markD)) ∧ ms.length ≤ i' + j ∧ S3[S2.length]? = some (.lst (askF d ((runF a (plan.take i') s).getD (dv d) 0))) ∧ Lq S S3) ⟨v10, v12, v13, ms, rfl, la _ _ g0, la _ _ ge, la _ _ gv, la _ _ gm, by omega, get_new, l2.trans la⟩ ?_ ?_
        · rintro j y env S3 hj ⟨v10, v12, v13, ms, rfl, g0, ge, gv, gm, ml, ga, l3⟩
          obtain ⟨rfl, rfl, p, pz, h2⟩ := ask_one ft hj
          generalize (runF a (plan.take i') s).getD (dv d) 0 = x at ga ⊢
          simp only [asgG, Option.bind_some, List.set_cons_succ, List.set_cons_zero]
          refine seq_M (fun env S4 => env = [some (beltsD zs), some (planD plan), some (wldD a b), some (.int s), some (.ref S.length), some (.ref (S.length + 1)), some (.ref (S.length + 2)), some (.ref (S.length + 3)), some (.int (i' : Int)), some (ddD d), some (.int x), v11, some (.int 0), v13] ∧ S3 = S4) ?_ ?_
          · refine asg_M (M_blt1 (M_andb (M_is (v := (.bl false, S3)) (by simp_all? only [h2, din_0 ge]) (.inr ⟨rfl, ?_⟩))))
            simp only [q_intB, M_some]
            exact ⟨trivial, rfl, trivial⟩
          rintro _ _ ⟨rfl, rfl⟩
          refine seq_M (fun env S4 => ∃ m : Int × Int × Int, env = [some (beltsD zs), some (planD plan), some (wldD a b), some (.int s), some (.ref S.length), some (.ref (S.length + 1)), some (.ref (S.length + 2)), some (.ref (S.length + 3)), some (.int (i' : Int)), some (ddD d), some (.int x), v11, some (.int 0), some (markD m)] ∧ Lq S3 S4) ?_ ?_
          · refine asg_M ?_
            simp_all? only [h2, q_ixL g0, cht_at pz]
            refine (holds_ok (n := n + 1)).use fun S4 l4 => ?_
            simp_all? only [show (4 : Nat) ≤ most by decide]
            exact ⟨trivial, ((p : Int), x - s, _), rfl, l4⟩
          rintro _ S4 ⟨m, rfl, l4⟩
          have gm4 := l4 _ _ gm
          obtain ⟨B, hB⟩ := notin_marks (m := m) gm4
          refine ite_B (B := B) (by simp_all? only [hB]) (fun _ => ?_) fun _ => ?_
          · simp? only [q_isL gm4]
            rw [q_app gm4 (by rw [List.length_map]; omega)]
            simp? only []
            refine ⟨q_seqL ?_, some (.int x), some (.int 0), some (markD m), ms ++ [m], rfl, ?_, ?_, ?_, ?_, ?_, ?_, (l3.trans l4).set (by omega)⟩
            · rw [List.getElem?_set_ne (by omega)]; exact l4 _ _ ga
            · rw [List.getElem?_set_ne (by omega)]; exact l4 _ _ g0
            · rw [List.getElem?_set_ne (by omega)]; exact l4 _ _ ge
            · rw [List.getElem?_set_ne (by omega)]; exact l4 _ _ gv
            · rw [List.getElem?_set_self (lt_of_get gm4), List.map_append]
              rfl
            · rw [List.length_append, List.length_cons, List.length_nil]; omega
            · rw [List.getElem?_set_ne (by omega)]; exact l4 _ _ ga
          · exact ⟨_, rfl, q_seqL (l4 _ _ ga), some (.int x), some (.int 0), some (markD m), ms, rfl, l4 _ _ g0, l4 _ _ ge, l4 _ _ gv, gm4, by omega, l4 _ _ ga, l3.trans l4⟩
        · rintro env S3 ⟨v10, v12, v13, ms, rfl, g0, ge, gv, gm, ml, ga, l3⟩
          have := ask_len d ((runF a (plan.take i') s).getD (dv d) 0)
          exact ⟨rfl, v10, v12, v13, ms, rfl, g0, ge, gv, gm, by omega, l3⟩
      rintro _ S3 ⟨v10, v12, v13, ms, rfl, g0, ge, gv, gm, ml, l3⟩
      refine seq_M (fun env S4 => env = [some (beltsD zs), some (planD plan), some (wldD a b), some (.int s), some (.ref S.length), some (.ref (S.length + 1)), some (.ref (S.length + 2)), some (.ref (S.length + 3)), some (.int (i' : Int)), some (ddD d), v10, v11, v12, v13] ∧ S3 = S4) ?_ ?_
      · refine ite_B (B := false) (by simp_all? only [dd_0, q_eqS, wd_ed, plain_ed pd]) (fun h => by cases h) fun _ => ?_
        exact ⟨_, rfl, rfl, rfl, rfl⟩
      rintro _ _ ⟨rfl, rfl⟩
      refine seq_M (fun env S4 => env = [some (beltsD zs), some (planD plan), some (wldD a b), some (.int s), some (.ref S.length), some (.ref (S.length + 1)), some (.ref (S.length + 2)), some (.ref (S.length + 3)), some (.int (i' : Int)), some (ddD d), v10, some (.int (valF a (runF a (plan.take i') s) d)), v12, v13] ∧ Lq S3 S4) ?_ ?_
      · refine asg_M ?_
        simp_all? only []
        refine (worth_made_ok (n := n) ft gv g0).use fun S4 l4 => ?_
        exact ⟨trivial, rfl, l4⟩
      rintro _ S4 ⟨rfl, l4⟩
      refine seq_M (fun env S5 => env = [some (beltsD zs), some (planD plan), some (wldD a b), some (.int s), some (.ref S.length), some (.ref (S.length + 1)), some (.ref (S.length + 2)), some (.ref (S.length + 3)), some (.int (i' : Int)), some (ddD d), v10, some (.int (valF a (runF a (plan.take i') s) d)), v12, v13] ∧ S4 = S5) ?_ ?_
      · refine ite_B (B := false) (by simp_all? only []) (fun h => by cases h) fun _ => ?_
        exact ⟨_, rfl, rfl, rfl, rfl⟩
      rintro _ _ ⟨rfl, rfl⟩
      have gv4 := l4 _ _ gv
      simp? only [q_isL gv4]
      rw [q_app gv4 (by rw [List.length_map, vl]; omega)]
      simp? only []
      refine ⟨ir _, _, _, _, _, _, _, ms, rfl, ?_, ?_, ?_, ?_, ml, (l3.trans l4).set (by omega)⟩
      · rw [List.getElem?_set_ne (by omega)]; exact l4 _ _ g0
      · rw [List.getElem?_set_ne (by omega)]; exact l4 _ _ ge
      · rw [runF_snoc hd, List.map_append]
        exact List.getElem?_set_self (lt_of_get gv4)
      · rw [List.getElem?_set_ne (by omega)]; exact l4 _ _ gm
    · rintro env S2 ⟨v8, v9, v10, v11, v12, v13, ms, rfl, g0, ge, gv, gm, ml, l2⟩
      rw [Nat.zero_add, List.length_map, List.length_range, List.take_length] at gv
      exact ⟨rfl, v8, v9, v10, v11, v12, v13, rfl, gv, l2⟩
  rintro _ S2 ⟨v8, v9, v10, v11, v12, v13, rfl, gv, l2⟩
  simp? only [show (3 : Nat) ≤ most by decide]
  exact ⟨_, _, _, rfl, by omega, gv, l2⟩
end Lw

namespace Lw
open PySem L2 Ix
/-! ### programs drawn -/
theorem spot_pt {n p c r : Nat} {S : Hd} {ks : List Str} (hS : Bag p c S) (hc : c ≤ 900000) (rp : r ≠ p) (g : S[r]? = some (.lst (ks.map .str))) (hl : ks.length ≤ 20) (hk : ("moment" : Str) ∈ ks) :
    M (run T (n + 2) 103 [.ref p, .ref r, .str "point"] S) fun x => ∃ (v : Nat) (S' : Hd), x = (.int (v : Int), S') ∧ tIx ks v ∧ Bag p (c + 2) S' ∧ Le p S S' := by
  have hm := most_big
  refine run_M T_spot rfl ?_
  show M (ex (run T (n + 1)) b_spot [some (.ref p), some (.ref r), some (.str "point"), none, none] S) _
  unfold b_spot
  let L := (List.range ks.length).filter fun i => decide (¬ ks[i]? = some ("span" : Str))
  have Lmem : ∀ v ∈ L, tIx ks v := fun v hv => by
    have h1 := List.mem_range.mp (List.mem_filter.mp hv).1
    have h2 := of_decide_eq_true (List.mem_filter.mp hv).2
    exact ⟨ks[v], List.getElem?_eq_getElem h1, fun e => h2 (by rw [List.getElem?_eq_getElem h1, e])⟩
  have Lne : L ≠ [] := fun e => by
    obtain ⟨i, hi, ei⟩ := List.getElem_of_mem hk
    have : i ∈ L := List.mem_filter.mpr ⟨List.mem_range.mpr hi, decide_eq_true (by rw [List.getElem?_eq_getElem hi, ei]; intro h; exact absurd (Option.some.inj h) (by decide))⟩
    rw [e] at this
    cases this
  have Llen : L.length ≤ 20 := Nat.le_trans (List.length_filter_le _ _) (by rw [List.length_range]; exact hl)
  refine seq_M (fun env S1 => ∃ j : Nat, env = [some (.ref p), some (.ref r), some (.str "point"), some (.ref j), none] ∧ S1[j]? = some (.lst (L.map fun (v : Nat) => .int (v : Int))) ∧ j ≠ p ∧ Bag p c S1 ∧ Le p S S1) ?_ ?_
  · refine asg_M (M_lcx (List.range ks.length) (fun (i : Nat) => .int (0 + (i : Int))) (fun i => decide (¬ ks[i]? = some ("span" : Str))) (fun (i : Nat) => .int (i : Int)) (by decide) ?_ (by rw [List.length_range]; omega) (fun i S2 hi l2 => ?_) fun j S2 hj gj l2 => ?_)
    · simp_all? only [q_len (q_seqL g), List.length_map]
      refine ⟨_, _, rfl, Lq.refl _, fun S2 _ => ?_⟩
      rw [i_rng (by omega) (by omega), Int.toNat_natCast]
    · have il := List.mem_range.mp hi
      obtain ⟨x, hx⟩ : ∃ x, ks[i]? = some x := ⟨_, List.getElem?_eq_getElem il⟩
      have ai : atI (ks.map D.str) (0 + (i : Int)) = some (.str x) := by
        rw [Int.zero_add, atI_lt (by omega) (by rw [List.length_map]; omega), Int.toNat_natCast, List.getElem?_map, hx]
        rfl
      refine ⟨_, rfl, ?_⟩
      have g2 := l2 _ _ g
      have ec : decide (¬ ks[i]? = some ("span" : Str)) = !decide (x = "span") := by
        rw [hx]
        by_cases e : x = "span" <;> simp [e]
      rw [ec]
      by_cases e1 : x = "point"
      · subst e1
        simp only [wipeD, ev, M_bind, M_map, M_some, M_ite, t_eq, a_tup, al_eq, List.getElem?_cons_zero, List.getElem?_cons_succ, Option.bind_some, Option.map_some, q_add, q_sub, q_lt, q_le, q_gt, q_ge, q_eqI, q_neI, q_eqB, q_neB, q_isN, q_notN, Ix.isNon, q_ixT, q_ixR, atI_0, atI_1, atI_2, atI_3, atI_4, atI_5, atI_6, atI_7, q_slT, q_slR, q_revT, q_seqT, q_int, q_intB, q_max, q_min, q_abs, q_tupT, n_tup, n_int, n_bl, n_non, n_str, isi_ii, isi_ib, isi_tt, isi_itl, isi_btl, isi_ttl, isi_tl, isi_bb, u_bl, u_int, u_non, u_tup, g_name, g_tup, g_nil, g_cons, o_ret, o_nx, i_seq, List.set_cons_zero, List.set_cons_succ, decide_eq_true_eq, Bool.not_eq_true', decide_eq_false_iff_not, evP, Bool.false_eq_true, if_true, if_false, ite_true, ite_false, reduceIte, Bool.not_true, Bool.not_false, Option.some.injEq, q_pow10, Int.reduceToNat, Int.reducePow, Int.reduceAdd, Int.reduceSub, Int.reduceMul, Int.reduceNeg, Int.reduceLT, Int.reduceLE, Nat.reducePow, Nat.reduceLT, Nat.reduceLeDiff, Nat.reduceAdd, List.length_cons, List.length_nil, Int.neg_neg, q_ixL g2, ai, q_eqS, decide_true]
        refine ⟨(by decide : true = !decide (("point" : Str) = "span")), Lq.refl _, fun _ => ?_⟩
        simp? only [Int.zero_add]
        exact ⟨trivial, Lq.refl _⟩
      · by_cases e2 : x = "span"
        · simp only [wipeD, ev, M_bind, M_map, M_some, M_ite, t_eq, a_tup, al_eq, List.getElem?_cons_zero, List.getElem?_cons_succ, Option.bind_some, Option.map_some, q_add, q_sub, q_lt, q_le, q_gt, q_ge, q_eqI, q_neI, q_eqB, q_neB, q_isN, q_notN, Ix.isNon, q_ixT, q_ixR, atI_0, atI_1, atI_2, atI_3, atI_4, atI_5, atI_6, atI_7, q_slT, q_slR, q_revT, q_seqT, q_int, q_intB, q_max, q_min, q_abs, q_tupT, n_tup, n_int, n_bl, n_non, n_str, isi_ii, isi_ib, isi_tt, isi_itl, isi_btl, isi_ttl, isi_tl, isi_bb, u_bl, u_int, u_non, u_tup, g_name, g_tup, g_nil, g_cons, o_ret, o_nx, i_seq, List.set_cons_zero, List.set_cons_succ, decide_eq_true_eq, Bool.not_eq_true', decide_eq_false_iff_not, evP, Bool.false_eq_true, if_true, if_false, ite_true, ite_false, reduceIte, Bool.not_true, Bool.not_false, Option.some.injEq, q_pow10, Int.reduceToNat, Int.reducePow, Int.reduceAdd, Int.reduceSub, Int.reduceMul, Int.reduceNeg, Int.reduceLT, Int.reduceLE, Nat.reducePow, Nat.reduceLT, Nat.reduceLeDiff, Nat.reduceAdd, List.length_cons, List.length_nil, Int.neg_neg, q_ixL g2, ai, q_eqS, q_neS, e1, e2, decide_false, decide_true, Bool.not_true]
          rw [decide_eq_false (by decide)]
          simp_all? only []
          exact ⟨trivial, Lq.refl _, fun z => by cases z⟩
        · simp only [wipeD, ev, M_bind, M_map, M_some, M_ite, t_eq, a_tup, al_eq, List.getElem?_cons_zero, List.getElem?_cons_succ, Option.bind_some, Option.map_some, q_add, q_sub, q_lt, q_le, q_gt, q_ge, q_eqI, q_neI, q_eqB, q_neB, q_isN, q_notN, Ix.isNon, q_ixT, q_ixR, atI_0, atI_1, atI_2, atI_3, atI_4, atI_5, atI_6, atI_7, q_slT, q_slR, q_revT, q_seqT, q_int, q_intB, q_max, q_min, q_abs, q_tupT, n_tup, n_int, n_bl, n_non, n_str, isi_ii, isi_ib, isi_tt, isi_itl, isi_btl, isi_ttl, isi_tl, isi_bb, u_bl, u_int, u_non, u_tup, g_name, g_tup, g_nil, g_cons, o_ret, o_nx, i_seq, List.set_cons_zero, List.set_cons_succ, decide_eq_true_eq, Bool.not_eq_true', decide_eq_false_iff_not, evP, Bool.false_eq_true, if_true, if_false, ite_true, ite_false, reduceIte, Bool.not_true, Bool.not_false, Option.some.injEq, q_pow10, Int.reduceToNat, Int.reducePow, Int.reduceAdd, Int.reduceSub, Int.reduceMul, Int.reduceNeg, Int.reduceLT, Int.reduceLE, Nat.reducePow, Nat.reduceLT, Nat.reduceLeDiff, Nat.reduceAdd, List.length_cons, List.length_nil, Int.neg_neg, q_ixL g2, ai, q_eqS, q_neS, e1, e2, decide_false, decide_true, Bool.not_false]
          refine ⟨trivial, Lq.refl _, fun _ => ?_⟩
          simp? only [Int.zero_add]
          exact ⟨trivial, Lq.refl _⟩
    · exact ⟨rfl, j, rfl, gj, by have := hS.lt; omega, hS.lq l2, l2.le⟩
  rintro _ S1 ⟨j, rfl, gj, jp, p1, l1⟩
  have LL : (L.map fun (v : Nat) => D.int (v : Int)).length = L.length := List.length_map _
  refine seq_Mx (ite_M ?_)
  simp_all? only []
  refine (pick_ok p1 (by omega) (by decide) (by decide)).imp ?_
  rintro _ ⟨z, S2, rfl, z0, z1, p2, l2⟩
  have gj2 := l2.at jp gj
  simp_all? only []
  by_cases hz : z = 0
  · simp only [hz, decide_true, if_true]
    obtain ⟨v, hv⟩ : ∃ v, L.getLast? = some v := ⟨_, List.getLast?_eq_some_getLast Lne⟩
    have ne : (L.map fun (v : Nat) => D.int (v : Int)) ≠ [] := fun e => by
      have := congrArg List.length e
      rw [LL] at this
      exact Lne (List.eq_nil_of_length_eq_zero this)
    have al : atI (L.map fun (v : Nat) => D.int (v : Int)) (-1) = some (.int (v : Int)) := by
      rw [atI_last ne]
      have e : (L.map fun (v : Nat) => D.int (v : Int)).getLast? = some (.int (v : Int)) := by rw [List.getLast?_map, hv]; rfl
      rw [List.getLast?_eq_some_getLast ne] at e
      exact e
    simp? only [q_ixL gj2, al]
    exact ⟨v, S2, rfl, Lmem v (List.mem_of_getLast? hv), p2.mono (by omega), l1.trans l2⟩
  · simp only [hz, decide_false, Bool.false_eq_true, if_false]
    rw [show ∀ env, ex (run T (n + 1)) .skip env S2 = some (.nx, env, S2) from fun _ => rfl]
    simp only [M_some]
    have Lp : 0 < L.length := List.length_pos_iff.mpr Lne
    simp? only [q_len (q_seqL gj2), LL]
    refine (pick_ok p2 (by omega) (by omega) (by omega)).imp ?_
    rintro _ ⟨y, S3, rfl, y0, y1, p3, l3⟩
    have gj3 := l3.at jp gj2
    obtain ⟨v, hv⟩ : ∃ v, L[y.toNat]? = some v := ⟨_, List.getElem?_eq_getElem (by omega)⟩
    have al : atI (L.map fun (v : Nat) => D.int (v : Int)) y = some (.int (v : Int)) := by
      rw [atI_lt y0 (by rw [LL]; omega), List.getElem?_map, hv]
      rfl
    simp? only [q_ixL gj3, al]
    exact ⟨v, S3, rfl, Lmem v (List.mem_of_getElem? hv), p3, l1.trans (l2.trans l3)⟩
theorem kind_made_ok {n r nz : Nat} {S : Hd} {ks : List Str} {d : Dd} (g : S[r]? = some (.lst (ks.map .str))) (h : okD nz ks d) : Pu (run T (n + 1) 159 [.ref r, ddD d] S) (.str (kdO ks d)) S := by
  refine Pu.run T_kind_made rfl ?_
  show M (ex (run T n) b_kind_made [some (.ref r), some (ddD d)] S) _
  unfold b_kind_made
  have sk : ∀ env, ex (run T n) .skip env S = some (.nx, env, S) := fun _ => rfl
  have o3 : ∀ (w x y : Str) (B : Bool), wd d = w → (decide (w = x) || decide (w = y)) = B → ev (run T n) (.or_ (.cmp .eq (.ix (.var 1) (.c (.int 0))) (.c (.str x))) (.cmp .eq (.ix (.var 1) (.c (.int 0))) (.c (.str y)))) [some (.ref r), some (ddD d)] S = some (.bl B, S) := fun w x y B e h => by
    simp_all? only [dd_0, q_eqS, e]
    subst h
    by_cases q : w = x
    · simp [q, tru]
    · simp [q, tru]
  cases d with
  | add v m =>
    obtain ⟨⟨k, hk, _⟩, _, _⟩ := h
    have e1 : ∀ S, ixD (ddD (.add v m)) (.int 1) S = some (.int (v : Int), S) := fun _ => rfl
    refine seq_Mx (ite_B (B := true) (by simp_all? only [dd_0, wd, q_eqS, decide_true]) (fun _ => ?_) (fun h => by cases h))
    simp? only [e1, q_ixL g, str_at hk]
    exact ⟨by simp [kdO, hk], Lq.refl _⟩
  | offset v p =>
    refine seq_Mx (ite_B (B := false) (by simp_all? only [dd_0, wd, q_eqS]; rw [decide_eq_false (by decide)]) (fun h => by cases h) fun _ => ?_)
    rw [sk]
    simp only [M_some]
    refine seq_Mx (ite_B (B := true) (by simp_all? only [dd_0, wd, q_eqS, decide_true]) (fun _ => ?_) (fun h => by cases h))
    simp? only []
    exact ⟨rfl, Lq.refl _⟩
  | read v p =>
    iterate 2
      refine seq_Mx (ite_B (B := false) (by simp_all? only [dd_0, wd, q_eqS]; rw [decide_eq_false (by decide)]) (fun h => by cases h) fun _ => ?_)
      rw [sk]
      simp only [M_some]
    refine seq_Mx (ite_B (B := true) (o3 "read" "read" "plus" true rfl (by decide)) (fun _ => ?_) (fun h => by cases h))
    simp? only []
    exact ⟨rfl, Lq.refl _⟩
  | plus v p =>
    iterate 2
      refine seq_Mx (ite_B (B := false) (by simp_all? only [dd_0, wd, q_eqS]; rw [decide_eq_false (by decide)]) (fun h => by cases h) fun _ => ?_)
      rw [sk]
      simp only [M_some]
    refine seq_Mx (ite_B (B := true) (o3 "plus" "read" "plus" true rfl (by decide)) (fun _ => ?_) (fun h => by cases h))
    simp? only []
    exact ⟨rfl, Lq.refl _⟩
  | less v p =>
    iterate 2
      refine seq_Mx (ite_B (B := false) (by simp_all? only [dd_0, wd, q_eqS]; rw [decide_eq_false (by decide)]) (fun h => by cases h) fun _ => ?_)
      rw [sk]
      simp only [M_some]
    refine seq_Mx (ite_B (B := false) (o3 "less" "read" "plus" false rfl (by decide)) (fun h => by cases h) (fun _ => ?_))
    rw [sk]
    simp? only [M_some]
    exact ⟨rfl, Lq.refl _⟩
  | edition v p =>
    iterate 2
      refine seq_Mx (ite_B (B := false) (by simp_all? only [dd_0, wd, q_eqS]; rw [decide_eq_false (by decide)]) (fun h => by cases h) fun _ => ?_)
      rw [sk]
      simp only [M_some]
    refine seq_Mx (ite_B (B := false) (o3 "edition" "read" "plus" false rfl (by decide)) (fun h => by cases h) (fun _ => ?_))
    rw [sk]
    simp? only [M_some]
    exact ⟨rfl, Lq.refl _⟩
  | find v p i j =>
    iterate 2
      refine seq_Mx (ite_B (B := false) (by simp_all? only [dd_0, wd, q_eqS]; rw [decide_eq_false (by decide)]) (fun h => by cases h) fun _ => ?_)
      rw [sk]
      simp only [M_some]
    refine seq_Mx (ite_B (B := false) (o3 "find" "read" "plus" false rfl (by decide)) (fun h => by cases h) (fun _ => ?_))
    rw [sk]
    simp? only [M_some]
    exact ⟨rfl, Lq.refl _⟩
theorem kind_row_ok {n nz : Nat} {S : Hd} {plan : List Dd} (hv : Valid nz plan) : M (run T (n + 2) 160 [planD plan] S) fun x => ∃ (r : Nat) (S' : Hd), x = (.ref r, S') ∧ S.length ≤ r ∧ S'[r]? = some (.lst ((rowOf plan).map .str)) ∧ Lq S S' := by
  have hm := most_big
  have h8 := hv.short
  refine run_M T_kind_row rfl ?_
  show M (ex (run T (n + 1)) b_kind_row [some (planD plan), none, none] S) _
  unfold b_kind_row
  have ep : ∀ S2, seqOf S2 (planD plan) = some (plan.map ddD) := fun _ => rfl
  refine seq_M (fun env S1 => env = [some (planD plan), some (.ref S.length), none] ∧ S1 = S ++ [.lst [.str "moment"]]) ?_ ?_
  · simp? only [show (1 : Nat) ≤ most by decide]
    exact ⟨trivial, trivial, trivial⟩
  rintro _ _ ⟨rfl, rfl⟩
  refine seq_M (fun env S1 => ∃ v3 : Option D, env = [some (planD plan), some (.ref S.length), v3] ∧ S1[S.length]? = some (.lst ((rowOf plan).map .str)) ∧ Lq S S1) ?_ ?_
  · refine for_M ?_
    simp_all? only []
    refine ⟨_, _, rfl, ep (S ++ [.lst [.str "moment"]]), ?_⟩
    refine M_loopS (m := 0) (fun i env S2 => ∃ v3 : Option D, env = [some (planD plan), some (.ref S.length), v3] ∧ S2[S.length]? = some (.lst ((rowOf (plan.take i)).map .str)) ∧ Lq S S2) ⟨none, rfl, by rw [get_new]; rfl, Lq.app _ _⟩ ?_ ?_
    · rintro i x env S2 hi ⟨v3, rfl, g, l⟩
      obtain ⟨d, hd, _, rfl⟩ := map_get hi
      have il := (List.getElem?_eq_some_iff.mp hd).1
      simp only [Nat.zero_add] at g ⊢
      simp only [asgG, Option.bind_some, List.set_cons_succ, List.set_cons_zero]
      simp? only [q_isL g]
      refine (kind_made_ok (n := n) g (hv.ok i d hd)).use fun S3 l3 => ?_
      have rl := rowOf_len (plan.take i)
      rw [List.length_take] at rl
      have g1 := l3 _ _ g
      simp? only [q_app g1 (by rw [List.length_map]; omega)]
      refine ⟨ep _, _, rfl, ?_, (l.trans l3).set (Nat.le_refl _)⟩
      rw [List.take_add_one, hd, List.getElem?_set_self (lt_of_get g1)]
      show _ = some (O.lst ((rowOf (plan.take i ++ [d])).map D.str))
      rw [rowOf_snoc, List.map_append]
      rfl
    · rintro env S2 ⟨v3, rfl, g, l⟩
      rw [Nat.zero_add, List.length_map, List.take_length] at g
      exact ⟨rfl, v3, rfl, g, l⟩
  rintro _ S1 ⟨v3, rfl, g, l1⟩
  simp? only []
  exact ⟨_, _, rfl, Nat.le_refl _, g, l1⟩
end Lw

namespace Lw
open PySem L2 Ix
theorem less_room_plain {n m : Nat} {S : Hd} {a : Int} {d : Dd} (hd : Plain d) (g : S[m]? = some (.lst [.int a, .int 0, .int 0, .int 0])) : M (run T (n + 1) 106 [.ref m, ddD d] S) fun x => ∃ (k : Nat) (a' : Int) (S' : Hd), x = (.ref k, S') ∧ S.length ≤ k ∧ S'[k]? = some (.lst [.int a', .int 0, .int 0, .int 0]) ∧ Lq S S' := by
  refine run_M T_less_room rfl ?_
  show M (ex (run T n) b_less_room [some (.ref m), some (ddD d), none] S) _
  unfold b_less_room
  have hin : ∀ S : Hd, cmpD .in_ (.str (wd d)) (.ref S.length) (S ++ [.lst [.str "read", .str "find", .str "offset", .str "edition"]]) = some (.bl (decide (wd d ∈ ([("read" : Str), "find", "offset", "edition"] : List Str))), S ++ [.lst [.str "read", .str "find", .str "offset", .str "edition"]]) := fun S => in_strs (ks := ["read", "find", "offset", "edition"]) get_new
  refine seq_M (fun env S1 => ∃ x : Int, env = [some (.ref m), some (ddD d), some (.int x)] ∧ Lq S S1) ?_ ?_
  · simp? only [dd_0, show (4 : Nat) ≤ most by decide, hin]
    exact ⟨trivial, _, rfl, Lq.app _ _⟩
  rintro _ S1 ⟨x, rfl, l1⟩
  have g1 := l1 _ _ g
  simp? only [dd_0, q_ixL g1, q_eqS, wd_ed, wd_find hd, plain_ed hd, show (4 : Nat) ≤ most by decide, Int.sub_zero]
  exact ⟨_, _, _, rfl, l1.len, get_new, l1.trans (Lq.app _ _)⟩
def WOk (ks : List Str) (w : Str) : Prop := w = "add" ∨ (w = "plus" ∧ ("span" : Str) ∈ ks) ∨ (w = "less" ∧ ("span" : Str) ∈ ks ∧ ("reading" : Str) ∈ ks) ∨ w = "read" ∨ w = "offset"
def WL (ks : List Str) (m : Nat) (S0 : Hd) (x : D × Hd) : Prop := ∃ (k : Nat) (ws : List Str) (S1 : Hd), x = (.ref k, S1) ∧ S1[k]? = some (.lst (ws.map .str)) ∧ (∀ w ∈ ws, WOk ks w) ∧ ws.length ≤ m ∧ 0 < ws.length ∧ Lq S0 S1
theorem rep_words {c : Nat} {w : Str} : (List.replicate c [D.str w]).flatten = (List.replicate c w).map .str := by
  induction c with
  | zero => rfl
  | succ c ih => rw [List.replicate_succ, List.flatten_cons, ih, List.replicate_succ]; rfl
theorem addmul {Γ : Fs} {X C : E} {env : Sl} {S S0 : Hd} {ks : List Str} {m : Nat} {w : Str} (h : M (ev Γ X env S) (WL ks m S0)) (hm : m ≤ 50) (hc : ∀ S1, Lq S0 S1 → ∃ c : Int, 0 ≤ c ∧ c ≤ 9 ∧ ev Γ C env S1 = some (.int c, S1) ∧ (0 < c → WOk ks w)) :
    M (ev Γ (.bin .add X (.bin .mul (.lst (.cons (.c (.str w)) .nil)) C)) env S) (WL ks (m + 9) S0) := by
  have hb := most_big
  refine M_bin (h.imp ?_)
  rintro _ ⟨k, ws, S1, rfl, g, hw, wl, w0, l⟩
  obtain ⟨c, c0, c9, ec, cw⟩ := hc (S1 ++ [.lst [.str w]]) (l.trans (Lq.app _ _))
  refine M_bin (M_is (v := (.ref S1.length, S1 ++ [.lst [.str w]])) (by simp_all? only [show (1 : Nat) ≤ most by decide]) (M_is ec ?_))
  have em : binD .mul (.ref S1.length) (.int c) (S1 ++ [.lst [.str w]]) = some (alloc (S1 ++ [.lst [.str w]]) ((List.replicate c.toNat w).map .str)) := by
    simp only [binD, get_new]
    rw [if_pos ⟨by omega, by omega, by simp only [List.length_cons, List.length_nil]; omega⟩, rep_words]
  have l2 : Lq S1 (S1 ++ [O.lst [D.str w]] ++ [.lst ((List.replicate c.toNat w).map .str)]) := (Lq.app _ _).trans (Lq.app _ _)
  rw [em]
  simp only [al_eq, M_some]
  rw [q_addL (l2 _ _ g) get_new (by simp only [List.length_map, List.length_replicate]; omega)]
  simp only [al_eq, M_some]
  refine ⟨_, ws ++ List.replicate c.toNat w, _, rfl, ?_, ?_, ?_, ?_, l.trans (l2.trans (Lq.app _ _))⟩
  · rw [get_new, List.map_append]
  · intro x hx
    rcases List.mem_append.mp hx with q | q
    · exact hw x q
    · obtain ⟨n0, e⟩ := List.mem_replicate.mp q
      rw [e]
      exact cw (by omega)
  · rw [List.length_append, List.length_replicate]; omega
  · rw [List.length_append]; omega
theorem next_words_ok {n r m : Nat} {S : Hd} {ks : List Str} {a : Int} (g : S[r]? = some (.lst (ks.map .str))) (gm : S[m]? = some (.lst [.int a, .int 0, .int 0, .int 0])) : M (run T (n + 1) 157 [.ref r, .ref m] S) (WL ks 60 S) := by
  have hb := most_big
  refine run_M T_next_words rfl ?_
  show M (ex (run T n) b_next_words [some (.ref r), some (.ref m), none] S) _
  unfold b_next_words
  have inn : ∀ (w : Str) (v2 : Option D) (S1 : Hd), Lq S S1 → ev (run T n) (.cmp .in_ (.c (.str w)) (.var 0)) [some (.ref r), some (.ref m), v2] S1 = some (.bl (decide (w ∈ ks)), S1) := fun w v2 S1 l => by
    simp_all? only [in_strs (l _ _ g)]
  have it : ∀ (C : E) (v2 : Option D) (S1 : Hd) (B : Bool), ev (run T n) C [some (.ref r), some (.ref m), v2] S1 = some (.bl B, S1) → ev (run T n) (.blt .int_ (.cons C .nil)) [some (.ref r), some (.ref m), v2] S1 = some (.int (if B = true then 1 else 0), S1) := fun C v2 S1 B h => by
    simp only [ev, h, Option.bind_some, argsOf, Option.map_some, q_intB]
  refine seq_M (fun env S1 => ∃ (k : Nat) (ws : List Str), env = [some (.ref r), some (.ref m), some (.ref k)] ∧ S1[k]? = some (.lst (ws.map .str)) ∧ (∀ w ∈ ws, WOk ks w) ∧ ws.length ≤ 19 ∧ 0 < ws.length ∧ Lq S S1) ?_ ?_
  · refine asg_M (M.imp (P := WL ks 19 S) (addmul (m := 10) (addmul (m := 1) ?_ (by decide) fun S1 l1 => ?_) (by decide) fun S1 l1 => ?_) ?_)
    · simp_all? only [show (1 : Nat) ≤ most by decide]
      exact ⟨_, ["add"], _, rfl, get_new, fun w hw => .inl (List.mem_singleton.mp hw), by simp, by simp, Lq.app _ _⟩
    · refine ⟨_, ?_, ?_, it _ _ _ _ (inn "span" none S1 l1), fun h => .inr (.inl ⟨rfl, ?_⟩)⟩
      · split <;> decide
      · split <;> decide
      · by_cases q : ("span" : Str) ∈ ks
        · exact q
        · rw [decide_eq_false q] at h; exact absurd h (by decide)
    · refine ⟨_, ?_, ?_, it _ _ _ _ (and_ev (inn "span" none S1 l1) (inn "reading" none S1 l1)), fun h => .inr (.inr (.inl ⟨rfl, ?_, ?_⟩))⟩
      · split <;> decide
      · split <;> decide
      · by_cases q : ("span" : Str) ∈ ks
        · exact q
        · rw [decide_eq_false q] at h; exact absurd h (by simp)
      · by_cases q : ("reading" : Str) ∈ ks
        · exact q
        · rw [decide_eq_false q] at h; exact absurd h (by simp)
    · rintro _ ⟨k, ws, S1, rfl, gk, hw, wl, w0, l1⟩
      exact ⟨rfl, k, ws, rfl, gk, hw, wl, w0, l1⟩
  rintro _ S1 ⟨k, ws, rfl, gk, hw, wl, w0, l1⟩
  have gm1 := l1 _ _ gm
  refine seq_M (fun env S2 => ∃ (k : Nat) (ws : List Str), env = [some (.ref r), some (.ref m), some (.ref k)] ∧ S2[k]? = some (.lst (ws.map .str)) ∧ (∀ w ∈ ws, WOk ks w) ∧ ws.length ≤ 60 ∧ 0 < ws.length ∧ Lq S S2) ?_ ?_
  · refine ite_B (B := decide (0 < a)) (by simp_all? only [q_ixL gm1]) (fun _ => ?_) fun _ => ?_
    · refine seq_M (fun env S2 => ∃ (k : Nat) (ws : List Str), env = [some (.ref r), some (.ref m), some (.ref k)] ∧ S2[k]? = some (.lst (ws.map .str)) ∧ (∀ w ∈ ws, WOk ks w) ∧ ws.length ≤ 34 ∧ 0 < ws.length ∧ Lq S S2) ?_ ?_
      · refine asg_M (M.imp (P := WL ks 34 S) (addmul (m := 25) ?_ (by decide) fun S2 l2 => ?_) ?_)
        · simp_all? only [show (6 : Nat) ≤ most by decide]
          have e6 : ([D.str "add", .str "add", .str "read", .str "read", .str "read", .str "offset"] : List D) = ([("add" : Str), "add", "read", "read", "read", "offset"] : List Str).map .str := rfl
          rw [e6, q_addL (Lq.app S1 [O.lst (([("add" : Str), "add", "read", "read", "read", "offset"] : List Str).map .str)] _ _ gk) get_new (by simp; omega)]
          simp only [al_eq, M_some]
          refine ⟨_, ws ++ ([("add" : Str), "add", "read", "read", "read", "offset"] : List Str), _, rfl, by rw [get_new, List.map_append], fun w h => ?_, by rw [List.length_append]; simp; omega, by rw [List.length_append]; omega, l1.trans ((Lq.app _ _).trans (Lq.app _ _))⟩
          rcases List.mem_append.mp h with q | q
          · exact hw w q
          · simp only [List.mem_cons, List.not_mem_nil, or_false] at q
            rcases q with q | q | q | q | q | q
            · exact .inl q
            · exact .inl q
            · exact .inr (.inr (.inr (.inl q)))
            · exact .inr (.inr (.inr (.inl q)))
            · exact .inr (.inr (.inr (.inl q)))
            · exact .inr (.inr (.inr (.inr q)))
        · refine ⟨0, by decide, by decide, ?_, fun h => absurd h (by decide)⟩
          simp_all? only [q_ixL (l2 _ _ gm)]
        · rintro _ ⟨k, ws, S2, rfl, gk, hw, wl, w0, l2⟩
          exact ⟨rfl, k, ws, rfl, gk, hw, wl, w0, l2⟩
      rintro _ S2 ⟨k, ws, rfl, gk, hw, wl, w0, l2⟩
      refine asg_M (M.imp (P := WL ks 43 S) (addmul (m := 34) ?_ (by decide) fun S3 l3 => ?_) ?_)
      · simp_all? only []
        exact ⟨k, ws, S2, rfl, gk, hw, wl, w0, l2⟩
      · refine ⟨0, by decide, by decide, ?_, fun h => absurd h (by decide)⟩
        have ea : ev (run T n) (.and_ (.cmp .gt (.ix (.var 1) (.c (.int 1))) (.c (.int 0))) (.cmp .in_ (.c (.str "reading")) (.var 0))) [some (.ref r), some (.ref m), some (.ref k)] S3 = some (.bl false, S3) := by
          have := and_ev (x := false) (show ev (run T n) (.cmp .gt (.ix (.var 1) (.c (.int 1))) (.c (.int 0))) [some (.ref r), some (.ref m), some (.ref k)] S3 = some (.bl false, S3) by simp_all? only [q_ixL (l3 _ _ gm)]; rfl) (inn "reading" (some (.ref k)) S3 l3)
          rw [Bool.false_and] at this
          exact this
        have e9 := it _ _ _ _ ea
        simp only [Bool.false_eq_true, if_false] at e9
        have e10 : ev (run T n) (.bin .mul (.c (.int 9)) (.blt .int_ (.cons (.and_ (.cmp .gt (.ix (.var 1) (.c (.int 1))) (.c (.int 0))) (.cmp .in_ (.c (.str "reading")) (.var 0))) .nil))) [some (.ref r), some (.ref m), some (.ref k)] S3 = some (.int 0, S3) := by
          show ((ev (run T n) (.blt .int_ _) _ S3).bind fun y => binD .mul (.int 9) y.1 y.2) = _
          rw [e9, Option.bind_some, q_mul (by decide) (by decide) (by decide) (by decide)]
          rfl
        show ((ev (run T n) (.cons (.bin .mul (.c (.int 9)) _) .nil) _ S3).bind fun x => (argsOf x.1).bind fun ds => bltD .int_ ds x.2) = _
        rw [ev_cons e10 (show ev (run T n) .nil _ S3 = some (.tup [], S3) by simp only [ev]), Option.bind_some]
        rfl
      · rintro _ ⟨k, ws, S3, rfl, gk, hw, wl, w0, l3⟩
        exact ⟨rfl, k, ws, rfl, gk, hw, by omega, w0, l3⟩
    · exact ⟨_, rfl, rfl, k, ws, rfl, gk, hw, by omega, w0, l1⟩
  rintro _ S2 ⟨k, ws, rfl, gk, hw, wl, w0, l2⟩
  simp? only []
  exact ⟨k, ws, S2, rfl, gk, hw, wl, w0, l2⟩
end Lw

namespace Lw
open PySem L2 Ix
theorem word_get {ws : List Str} {z : Int} (z0 : 0 ≤ z) (z1 : z < ws.length) : ∃ w ∈ ws, atI (ws.map D.str) z = some (.str w) := by
  have hz : z.toNat < ws.length := by omega
  refine ⟨ws[z.toNat], List.getElem_mem hz, ?_⟩
  rw [atI_lt z0 (by rw [List.length_map]; omega), List.getElem?_map, List.getElem?_eq_getElem hz]
  rfl
theorem any_deed_ok {n p c r m : Nat} {S : Hd} {zs : Zs} {ks : List Str} {a : Int} (hz : Belts zs) (hS : Bag p c S) (hc : c ≤ 600000) (rp : r ≠ p) (mp : m ≠ p) (g : S[r]? = some (.lst (ks.map .str))) (gm : S[m]? = some (.lst [.int a, .int 0, .int 0, .int 0])) (hl : ks.length ≤ 20) (hmo : ("moment" : Str) ∈ ks) :
    M (run T (n + 4) 158 [.ref p, beltsD zs, .ref r, .ref m] S) fun x => ∃ (d : Dd) (S' : Hd), x = (ddD d, S') ∧ okD zs.length ks d ∧ Plain d ∧ Bag p (c + 20) S' ∧ Le p S S' := by
  have hb := most_big
  have zl1 := hz.l1
  have zl2 := hz.l2
  refine run_M T_any_deed rfl ?_
  show M (ex (run T (n + 3)) b_any_deed [some (.ref p), some (beltsD zs), some (.ref r), some (.ref m), none, none, none] S) _
  unfold b_any_deed
  have ps := hS.lt
  refine seq_M (fun env S1 => ∃ (k : Nat) (ws : List Str), env = [some (.ref p), some (beltsD zs), some (.ref r), some (.ref m), some (.ref k), none, none] ∧ k ≠ p ∧ S1[k]? = some (.lst (ws.map .str)) ∧ (∀ w ∈ ws, WOk ks w) ∧ ws.length ≤ 60 ∧ 0 < ws.length ∧ Lq S S1) ?_ ?_
  · simp? only []
    refine (next_words_ok (n := n + 2) g gm).imp ?_
    rintro _ ⟨k, ws, S1, rfl, gk, hw, wl, w0, l1⟩
    refine ⟨trivial, k, ws, rfl, ?_, gk, hw, wl, w0, l1⟩
    rintro rfl
    obtain ⟨_, _, _, e, _⟩ := hS.lq l1
    rw [gk] at e
    have := congrArg (fun o => match o with | some (O.lst xs) => xs | _ => []) e
    cases ws with
    | nil => simp at w0
    | cons w ws => simp at this
  rintro _ S1 ⟨k, ws, rfl, kp, gk, hw, wl, w0, l1⟩
  have b1 := hS.lq l1
  refine seq_M (fun env S2 => ∃ w : Str, env = [some (.ref p), some (beltsD zs), some (.ref r), some (.ref m), some (.ref k), some (.str w), none] ∧ WOk ks w ∧ Bag p (c + 1) S2 ∧ Le p S S2) ?_ ?_
  · simp? only [q_len (q_seqL gk), List.length_map]
    refine (pick_ok (n := n + 2) b1 (by omega) (by omega) (by omega)).imp ?_
    rintro _ ⟨z, S2, rfl, z0, z1, b2, l2⟩
    obtain ⟨w, wm, ew⟩ := word_get z0 z1
    simp? only [q_ixL (l2.at kp gk), ew]
    exact ⟨trivial, w, rfl, hw w wm, b2, l1.le.trans l2⟩
  rintro _ S2 ⟨w, rfl, ow, b2, l2⟩
  have g2 := l2.at rp g
  have gm2 := l2.at mp gm
  have sk : ∀ env (S : Hd), ex (run T (n + 3)) .skip env S = some (.nx, env, S) := fun _ _ => rfl
  rcases ow with rfl | ⟨rfl, hs⟩ | ⟨rfl, hs, hr⟩ | ow
  · refine seq_Mx (ite_B (B := true) (by simp_all? only [q_eqS, decide_true]) (fun _ => ?_) (fun h => by cases h))
    simp? only []
    refine (spot_pt (n := n + 1) b2 (by omega) rp g2 hl hmo).imp ?_
    rintro _ ⟨v, S3, rfl, tv, b3, l3⟩
    simp? only [q_ixL (l3.at mp gm2)]
    refine (minutes_ok (n := n + 1) hz b3 (by omega)).imp ?_
    rintro _ ⟨mi, S4, rfl, m0, m1, b4, l4⟩
    simp? only [show (3 : Nat) ≤ most by decide]
    exact ⟨.add v mi, S4, rfl, ⟨tv, m0, m1⟩, trivial, b4.mono (by omega), l2.trans (l3.trans l4)⟩
  · refine seq_Mx (ite_B (B := false) (by simp_all? only [q_eqS]; rw [decide_eq_false (by decide)]) (fun h => by cases h) fun _ => ?_)
    rw [sk]
    simp only [M_some]
    refine seq_Mx (ite_B (B := true) (by simp_all? only [q_eqS, decide_true]) (fun _ => ?_) (fun h => by cases h))
    simp? only []
    refine (spot_ok (n := n + 1) b2 (by omega) rp g2 hl hmo (by decide)).imp ?_
    rintro _ ⟨v, S3, rfl, hv, b3, l3⟩
    simp? only []
    refine (spot_ok (n := n + 1) b3 (by omega) rp (l3.at rp g2) hl hs (by decide)).imp ?_
    rintro _ ⟨u, S4, rfl, hu, b4, l4⟩
    simp? only [show (3 : Nat) ≤ most by decide]
    exact ⟨.plus v u, S4, rfl, ⟨hv, hu⟩, trivial, b4.mono (by omega), l2.trans (l3.trans l4)⟩
  · iterate 2
      refine seq_Mx (ite_B (B := false) (by simp_all? only [q_eqS]; rw [decide_eq_false (by decide)]) (fun h => by cases h) fun _ => ?_)
      rw [sk]
      simp only [M_some]
    refine seq_Mx (ite_B (B := true) (by simp_all? only [q_eqS, decide_true]) (fun _ => ?_) (fun h => by cases h))
    simp? only []
    refine (spot_ok (n := n + 1) b2 (by omega) rp g2 hl hr (by decide)).imp ?_
    rintro _ ⟨v, S3, rfl, hv, b3, l3⟩
    simp? only []
    refine (spot_ok (n := n + 1) b3 (by omega) rp (l3.at rp g2) hl hs (by decide)).imp ?_
    rintro _ ⟨u, S4, rfl, hu, b4, l4⟩
    simp? only [show (3 : Nat) ≤ most by decide]
    exact ⟨.less v u, S4, rfl, ⟨hv, hu⟩, trivial, b4.mono (by omega), l2.trans (l3.trans l4)⟩
  · have nw : w ≠ "add" ∧ w ≠ "plus" ∧ w ≠ "less" ∧ w ≠ "find" := by
      rcases ow with rfl | rfl <;> exact ⟨by decide, by decide, by decide, by decide⟩
    refine seq_Mx (ite_B (B := false) (by simp_all? only [q_eqS]; rw [decide_eq_false nw.1]) (fun h => by cases h) fun _ => ?_)
    rw [sk]
    simp only [M_some]
    refine seq_Mx (ite_B (B := false) (by simp_all? only [q_eqS]; rw [decide_eq_false nw.2.1]) (fun h => by cases h) fun _ => ?_)
    rw [sk]
    simp only [M_some]
    refine seq_Mx (ite_B (B := false) (by simp_all? only [q_eqS]; rw [decide_eq_false nw.2.2.1]) (fun h => by cases h) fun _ => ?_)
    rw [sk]
    simp only [M_some]
    have eb : ∀ S, bltD .len [beltsD zs] S = some (.int (zs.length : Nat), S) := fun S => by
      unfold beltsD
      rw [q_len q_seqT, List.length_map]
    refine seq_M (fun env S3 => ∃ y : Nat, y < zs.length ∧ env = [some (.ref p), some (beltsD zs), some (.ref r), some (.ref m), some (.ref k), some (.str w), some (.int (y : Int))] ∧ Bag p (c + 2) S3 ∧ Le p S S3) ?_ ?_
    · simp? only [eb]
      refine (pick_ok (n := n + 2) b2 (by omega) (by omega) (by omega)).imp ?_
      rintro _ ⟨z, S3, rfl, z0, z1, b3, l3⟩
      obtain ⟨y, rfl⟩ : ∃ y : Nat, z = (y : Int) := ⟨z.toNat, by omega⟩
      exact ⟨trivial, y, by omega, rfl, b3, l2.trans l3⟩
    rintro _ S3 ⟨y, hy, rfl, b3, l3⟩
    refine seq_Mx (ite_B (B := false) (by simp_all? only [q_eqS]; rw [decide_eq_false nw.2.2.2]) (fun h => by cases h) fun _ => ?_)
    rw [sk]
    simp? only [M_some]
    refine (spot_ok (n := n + 1) b3 (by omega) rp (l3.at rp g) hl hmo (by decide)).imp ?_
    rintro _ ⟨v, S4, rfl, hv, b4, l4⟩
    simp? only [show (3 : Nat) ≤ most by decide]
    rcases ow with rfl | rfl
    · exact ⟨.read v y, S4, rfl, ⟨hv, hy⟩, trivial, b4.mono (by omega), l3.trans l4⟩
    · exact ⟨.offset v y, S4, rfl, ⟨hv, hy⟩, trivial, b4.mono (by omega), l3.trans l4⟩
theorem longer_plan_ok {n p c m k : Nat} {S : Hd} {zs : Zs} {a : Int} (hz : Belts zs) (hS : Bag p c S) (hc : c ≤ 500000) (mp : m ≠ p) (gm : S[m]? = some (.lst [.int a, .int 0, .int 0, .int 0])) (hk : k ≤ 8) :
    M (run T (n + 5) 161 [.ref p, beltsD zs, .tup [], .int (k : Int), .ref m] S) fun x => ∃ (plan : List Dd) (S' : Hd), x = (planD plan, S') ∧ Valid zs.length plan ∧ Plains plan ∧ Bag p (c + 200) S' ∧ Le p S S' := by
  have hb := most_big
  refine run_M T_longer_plan rfl ?_
  show M (ex (run T (n + 4)) b_longer_plan [some (.ref p), some (beltsD zs), some (.tup []), some (.int (k : Int)), some (.ref m), none, none] S) _
  unfold b_longer_plan
  refine seq_M (fun env S1 => ∃ (plan : List Dd) (v3 v4 v5 v6 : Option D), env = [some (.ref p), some (beltsD zs), some (planD plan), v3, v4, v5, v6] ∧ Valid zs.length plan ∧ Plains plan ∧ Bag p (c + 200) S1 ∧ Le p S S1) ?_ ?_
  · have ir : ∀ S2, items .range1 [.int (k : Int)] S2 = some ((List.range k).map fun (i : Nat) => .int (0 + (i : Int))) := fun S2 => by rw [i_rng (by omega) (by omega), Int.toNat_natCast]
    refine for_M ?_
    simp_all? only []
    refine ⟨_, _, rfl, ir _, ?_⟩
    refine M_loopS (m := 0) (fun i env S2 => ∃ (plan : List Dd) (m : Nat) (a : Int) (v5 v6 : Option D), env = [some (.ref p), some (beltsD zs), some (planD plan), some (.int (k : Int)), some (.ref m), v5, v6] ∧ m ≠ p ∧ S2[m]? = some (.lst [.int a, .int 0, .int 0, .int 0]) ∧ plan.length = i ∧ Valid zs.length plan ∧ Plains plan ∧ Bag p (c + 20 * i) S2 ∧ Le p S S2) ⟨[], m, a, none, none, rfl, mp, gm, rfl, ⟨fun t d h => by simp at h, by simp, by simp⟩, (fun d h => by cases h), hS, Le.refl _ _⟩ ?_ ?_
    · rintro i x env S2 hi ⟨plan, m, a, v5, v6, rfl, mp, gm, pl, hv, hp, b2, l2⟩
      obtain ⟨i', hi', _, rfl⟩ := map_get hi
      have il := (List.getElem?_eq_some_iff.mp hi').1
      rw [List.length_range] at il
      rw [Nat.zero_add] at pl b2 ⊢
      simp only [asgG, Option.bind_some, List.set_cons_succ, List.set_cons_zero]
      have ps := b2.lt
      refine seq_M (fun env S3 => ∃ d : Dd, env = [some (.ref p), some (beltsD zs), some (planD plan), some (.int (k : Int)), some (.ref m), some (.int (0 + (i' : Int))), some (ddD d)] ∧ okD zs.length (rowOf plan) d ∧ Plain d ∧ S3[m]? = some (.lst [.int a, .int 0, .int 0, .int 0]) ∧ Bag p (c + 20 * i + 20) S3 ∧ Le p S S3) ?_ ?_
      · refine asg_M ?_
        simp_all? only []
        refine (kind_row_ok (n := n + 2) hv).imp ?_
        rintro _ ⟨r, S3, rfl, hr, gr, l3⟩
        simp_all? only []
        refine (any_deed_ok (n := n) hz (b2.lq l3) (by omega) (show r ≠ p by omega) mp gr (l3 _ _ gm) (by rw [rowOf_len]; omega) ?_).imp ?_
        · exact rowOf_mom plan
        · rintro _ ⟨d, S4, rfl, ok, pd, b4, l4⟩
          exact ⟨trivial, d, rfl, ok, pd, l4.at mp (l3 _ _ gm), b4, l2.trans (l3.le.trans l4)⟩
      rintro _ S3 ⟨d, rfl, ok, pd, gm3, b3, l3⟩
      refine seq_M (fun env S4 => ∃ (m' : Nat) (a' : Int), env = [some (.ref p), some (beltsD zs), some (planD plan), some (.int (k : Int)), some (.ref m'), some (.int (0 + (i' : Int))), some (ddD d)] ∧ m' ≠ p ∧ S4[m']? = some (.lst [.int a', .int 0, .int 0, .int 0]) ∧ Bag p (c + 20 * i + 20) S4 ∧ Le p S S4) ?_ ?_
      · refine asg_M (M_call2 (var_M rfl (var_M rfl ?_)))
        refine (less_room_plain (n := n + 3) pd gm3).imp ?_
        rintro _ ⟨m', a', S4, rfl, hm', gm4, l4⟩
        have := b3.lt
        exact ⟨rfl, m', a', rfl, by omega, gm4, b3.lq l4, l3.trans l4.le⟩
      rintro _ S4 ⟨m', a', rfl, mp', gm4, b4, l4⟩
      have ea : ∀ S5, binD .add (planD plan) (.tup [ddD d]) S5 = some (planD (plan ++ [d]), S5) := fun S5 => by
        unfold planD
        rw [q_addT (by rw [List.length_map]; simp only [List.length_cons, List.length_nil]; omega), List.map_append]
        rfl
      simp? only [show (1 : Nat) ≤ most by decide, ea]
      refine ⟨ir _, plan ++ [d], m', a', _, _, rfl, mp', gm4, by rw [List.length_append, List.length_cons, List.length_nil]; omega, ⟨valid_snoc hv.ok ok, by rw [List.length_append, List.length_cons, List.length_nil]; omega, ?_⟩, ?_, b4.mono (by omega), l4⟩
      · rw [List.filter_append, List.length_append]
        have : ([d].filter isEd) = [] := by simp [List.filter_cons, plain_ed pd]
        rw [this]
        simpa using hv.one
      · intro x hx
        rcases List.mem_append.mp hx with q | q
        · exact hp x q
        · rw [List.mem_singleton.mp q]; exact pd
    · rintro env S2 ⟨plan, m, a, v5, v6, rfl, mp, gm, pl, hv, hp, b2, l2⟩
      rw [List.length_map, List.length_range] at b2
      exact ⟨rfl, plan, _, _, v5, v6, rfl, hv, hp, b2.mono (by omega), l2⟩
  rintro _ S1 ⟨plan, v3, v4, v5, v6, rfl, hv, hp, b1, l1⟩
  simp? only []
  exact ⟨plan, S1, rfl, hv, hp, b1, l1⟩
theorem any_plan_ok {n p c m : Nat} {S : Hd} {zs : Zs} (hz : Belts zs) (hS : Bag p c S) (hc : c ≤ 400000) (mp : m ≠ p) (gm : S[m]? = some (.lst [.int 8, .int 0, .int 0, .int 0])) :
    M (run T (n + 6) 162 [.ref p, beltsD zs, .int 8, .ref m] S) fun x => ∃ (plan : List Dd) (S' : Hd), x = (planD plan, S') ∧ Valid zs.length plan ∧ Plains plan ∧ Bag p (c + 210) S' ∧ Le p S S' := by
  have hb := most_big
  refine run_M T_any_plan rfl ?_
  show M (ex (run T (n + 5)) b_any_plan [some (.ref p), some (beltsD zs), some (.int 8), some (.ref m), none] S) _
  unfold b_any_plan
  refine seq_M (fun env S1 => ∃ k : Nat, env = [some (.ref p), some (beltsD zs), some (.int 8), some (.ref m), some (.int (k : Int))] ∧ k ≤ 8 ∧ S1[m]? = some (.lst [.int 8, .int 0, .int 0, .int 0]) ∧ Bag p (c + 2) S1 ∧ Le p S S1) ?_ ?_
  · simp? only []
    refine (pick_ok (n := n + 4) hS (by omega) (by decide) (by decide)).imp ?_
    rintro _ ⟨y, S1, rfl, y0, y1, b1, l1⟩
    simp? only [show (6 : Nat) ≤ most by decide]
    refine (pick_ok (n := n + 4) (b1.app _) (by omega) (by decide) (by decide)).imp ?_
    rintro _ ⟨z, S2, rfl, z0, z1, b2, l2⟩
    obtain ⟨x, _, xm, hx⟩ := atI_ints (ns := [0, 0, 1, 2, 3, y]) z0 (by simpa using z1)
    simp only [List.map_cons, List.map_nil] at hx
    simp only [List.mem_cons, List.not_mem_nil, or_false] at xm
    simp? only [q_ixL (l2.at b1.ne get_new), hx]
    obtain ⟨k, hk⟩ : ∃ k : Nat, 8 - x = (k : Int) := ⟨(8 - x).toNat, by omega⟩
    rw [hk]
    exact ⟨trivial, k, rfl, by omega, l2.at mp (Lq.app _ _ _ _ (l1.at mp gm)), b2, l1.trans ((Le.app _ _ _).trans l2)⟩
  rintro _ S1 ⟨k, rfl, hk, gm1, b1, l1⟩
  simp? only [show (0 : Nat) ≤ most by decide]
  refine (longer_plan_ok (n := n) hz b1 (by omega) mp gm1 hk).imp ?_
  rintro _ ⟨plan, S2, rfl, hv, hp, b2, l2⟩
  simp? only []
  exact ⟨plan, S2, rfl, hv, hp, b2.mono (by omega), l1.trans l2⟩
end Lw

namespace Lw
open PySem L2 Ix
/-! ### worlds drawn -/
theorem any_origin_ok {n p c : Nat} {S : Hd} (hS : Bag p c S) (hc : c ≤ 900000) : M (run T (n + 2) 171 [.ref p] S) fun x => ∃ (o : Int) (S' : Hd), x = (.int o, S') ∧ -999900000000 ≤ o ∧ o ≤ 999900000000 ∧ Bag p (c + 3) S' ∧ Le p S S' := by
  refine run_M T_any_origin rfl ?_
  show M (ex (run T (n + 1)) b_any_origin [some (.ref p), none] S) _
  unfold b_any_origin
  refine seq_M (fun env S1 => ∃ z : Int, env = [some (.ref p), some (.int z)] ∧ -999900000000 ≤ z ∧ z ≤ 999900000000 ∧ Bag p (c + 1) S1 ∧ Le p S S1) ?_ ?_
  · simp? only []
    refine (pick_ok (n := n) hS (by omega) (by decide) (by decide)).imp ?_
    rintro _ ⟨y, S1, rfl, y0, y1, b1, l1⟩
    simp? only []
    exact ⟨trivial, _, rfl, by omega, by omega, b1, l1⟩
  rintro _ S1 ⟨z, rfl, z0, z1, b1, l1⟩
  simp? only []
  refine (pick_ok (n := n) b1 (by omega) (by decide) (by decide)).imp ?_
  rintro _ ⟨y, S2, rfl, y0, y1, b2, l2⟩
  simp? only [show (4 : Nat) ≤ most by decide]
  refine (pick_ok (n := n) (b2.app _) (by omega) (by decide) (by decide)).imp ?_
  rintro _ ⟨w, S3, rfl, w0, w1, b3, l3⟩
  obtain ⟨x, _, xm, hx⟩ := atI_ints (ns := [0, z, y - 1000, z]) w0 (by simpa using w1)
  simp only [List.map_cons, List.map_nil] at hx
  simp only [List.mem_cons, List.not_mem_nil, or_false] at xm
  simp? only [q_ixL (l3.at b2.ne get_new), hx]
  exact ⟨x, S3, rfl, by omega, by omega, b3, l1.trans (l2.trans ((Le.app _ _ _).trans l3))⟩
theorem any_chart_ok {n p c : Nat} {S : Hd} {os : List Int} {sp t : Int} (hS : Bag p c S) (hc : c ≤ 700000) (hz : Zone os sp) :
    M (run T (n + 2) 169 [.ref p, zoneD os sp, .int t] S) fun x => ∃ (ch : Cht) (S' : Hd), x = (chtD ch, S') ∧ Chart os sp ch.1 ch.2 ∧ ch.2.length ≤ 50 ∧ Bag p (c + 300) S' ∧ Le p S S' := by
  have hb := most_big
  have o1 := hz.len1
  have o3 := hz.len3
  have hsp := hz.top
  have s0 : 0 < sp := by
    have := hz.gap _ (List.getElem_mem (show 0 < os.length by omega)) _ (List.getElem_mem (show 0 < os.length by omega))
    omega
  refine run_M T_any_chart rfl ?_
  show M (ex (run T (n + 1)) b_any_chart [some (.ref p), some (zoneD os sp), some (.int t), none, none, none, none, none, none, none, none, none, none] S) _
  unfold b_any_chart
  have el : ∀ S, bltD .len [D.tup (os.map .int)] S = some (.int (os.length : Nat), S) := fun S => by rw [q_len q_seqT, List.length_map]
  refine seq_M (fun env S1 => S = S1 ∧ env = [some (.ref p), some (zoneD os sp), some (.int t), some (.tup (os.map .int)), some (.int sp), none, none, none, none, none, none, none, none]) ?_ ?_
  · simp? only []
    unfold zoneD
    simp? only []
    exact ⟨trivial, trivial, trivial⟩
  rintro _ _ ⟨rfl, rfl⟩
  refine seq_M (fun env S1 => ∃ off : Int, off ∈ os ∧ env = [some (.ref p), some (zoneD os sp), some (.int t), some (.tup (os.map .int)), some (.int sp), some (.int off), none, none, none, none, none, none, none] ∧ Bag p (c + 1) S1 ∧ Le p S S1) ?_ ?_
  · simp? only [el]
    refine (pick_ok (n := n) hS (by omega) (by omega) (by omega)).imp ?_
    rintro _ ⟨z, S1, rfl, z0, z1, b1, l1⟩
    obtain ⟨off, _, om, oi⟩ := atI_os z0 z1
    simp? only [oi]
    exact ⟨trivial, off, om, rfl, b1, l1⟩
  rintro _ S1 ⟨off, om, rfl, b1, l1⟩
  refine seq_M (fun env S2 => S1 = S2 ∧ env = [some (.ref p), some (zoneD os sp), some (.int t), some (.tup (os.map .int)), some (.int sp), some (.int off), some (.int off), none, none, none, none, none, none]) ?_ ?_
  · simp? only []
    exact ⟨trivial, trivial, trivial⟩
  rintro _ _ ⟨rfl, rfl⟩
  obtain ⟨lo, hi, lom, him, e0, e1, hall⟩ := ends hz.len1 hz.len3 hz.asc
  have gp := hz.gap lo lom hi him
  have gq := hz.gap hi him lo lom
  refine seq_M (fun env S2 => ∃ w : Int, 0 ≤ w ∧ w ≤ 3000000 ∧ env = [some (.ref p), some (zoneD os sp), some (.int t), some (.tup (os.map .int)), some (.int sp), some (.int off), some (.int off), some (.int w), none, none, none, none, none] ∧ Bag p (c + 2) S2 ∧ Le p S S2) ?_ ?_
  · simp? only [e0, e1, q_mul (i := 2) (j := sp) (by decide) (by decide) (by omega) (by omega), show (6 : Nat) ≤ most by decide]
    refine (pick_ok (n := n) (b1.app _) (by omega) (by decide) (by decide)).imp ?_
    rintro _ ⟨z, S2, rfl, z0, z1, b2, l2⟩
    obtain ⟨x, _, xm, hx⟩ := atI_ints (ns := [2, 60, 1 + hi - lo, 700, 2 * sp, 3]) z0 (by simpa using z1)
    simp only [List.map_cons, List.map_nil] at hx
    simp only [List.mem_cons, List.not_mem_nil, or_false] at xm
    simp? only [q_ixL (l2.at b1.ne get_new), hx]
    have := hz.lo lo lom
    have := hz.hi hi him
    have := (hall lo lom).2
    exact ⟨trivial, x, by omega, by omega, rfl, b2, l1.trans ((Le.app _ _ _).trans l2)⟩
  rintro _ S2 ⟨w, w0, w1, rfl, b2, l2⟩
  refine seq_M (fun env S3 => ∃ h : Int, env = [some (.ref p), some (zoneD os sp), some (.int t), some (.tup (os.map .int)), some (.int sp), some (.int off), some (.int off), some (.int w), some (.int h), none, none, none, none] ∧ Bag p (c + 4) S3 ∧ Le p S S3) ?_ ?_
  · simp? only [q_mul (i := 2) (j := w) (by decide) (by decide) (by omega) (by omega)]
    refine (pick_ok (n := n) b2 (by omega) (by omega) (by omega)).imp ?_
    rintro _ ⟨y, S3, rfl, y0, y1, b3, l3⟩
    simp? only []
    refine (pick_ok (n := n) b3 (by omega) (by decide) (by decide)).imp ?_
    rintro _ ⟨z, S4, rfl, z0, z1, b4, l4⟩
    simp? only [q_mul (i := sp) (j := z) (by omega) (by omega) (by omega) (by omega)]
    exact ⟨trivial, _, rfl, b4, l2.trans (l3.trans l4)⟩
  rintro _ S3 ⟨h, rfl, b3, l3⟩
  refine seq_M (fun env S4 => S3 ++ [.lst []] = S4 ∧ env = [some (.ref p), some (zoneD os sp), some (.int t), some (.tup (os.map .int)), some (.int sp), some (.int off), some (.int off), some (.int w), some (.int h), some (.ref S3.length), none, none, none]) ?_ ?_
  · simp? only [show (0 : Nat) ≤ most by decide]
    first | exact ⟨trivial, trivial, trivial⟩ | exact ⟨trivial, trivial, rfl⟩
  rintro _ _ ⟨rfl, rfl⟩
  have kp : S3.length ≠ p := b3.ne
  have sl : S.length ≤ S3.length := l3.len b3.lt
  refine seq_M (fun env S4 => ∃ (v5 v7 v8 v10 v11 v12 : Option D) (js : List (Int × Int)), env = [some (.ref p), some (zoneD os sp), some (.int t), some (.tup (os.map .int)), some (.int sp), v5, some (.int off), v7, v8, some (.ref S3.length), v10, v11, v12] ∧ S4[S3.length]? = some (.lst (js.map jumpD)) ∧ Chart os sp off js ∧ js.length ≤ 50 ∧ Bag p (c + 300) S4 ∧ Le p S S4) ?_ ?_
  · have b0 := b3.app [O.lst []]
    have l0 : Le p S (S3 ++ [O.lst []]) := l3.trans (Le.app _ _ _)
    have g0 : (S3 ++ [O.lst []])[S3.length]? = some (.lst (([] : List (Int × Int)).map jumpD)) := get_new
    generalize S3 ++ [O.lst []] = S4 at b0 l0 g0 ⊢
    generalize S3.length = q at kp sl g0 ⊢
    refine for_M (M.imp (P := fun r => ∃ m S5, r = (.tup [.int m], S5) ∧ 0 ≤ m ∧ m ≤ 50 ∧ (os.length = 1 → m = 0) ∧ Bag p (c + 5) S5 ∧ Le p S4 S5) ?_ ?_)
    · simp? only [show (8 : Nat) ≤ most by decide]
      refine (pick_ok (n := n) (b0.app _) (by omega) (by decide) (by decide)).imp ?_
      rintro _ ⟨z, S5, rfl, z0, z1, b5, l5⟩
      obtain ⟨x, _, xm, hx⟩ := atI_ints (ns := [1, 0, 2, 3, 4, 5, 7, 50]) z0 (by simpa using z1)
      simp only [List.map_cons, List.map_nil] at hx
      simp only [List.mem_cons, List.not_mem_nil, or_false] at xm
      simp? only [q_ixL (l5.at b0.ne get_new), hx, el]
      by_cases hl : (1 : Int) < os.length
      · simp only [hl, decide_true, if_true, q_mul (i := x) (j := 1) (by omega) (by omega) (by decide) (by decide), M_some]
        exact ⟨x * 1, S5, rfl, by omega, by omega, by omega, b5, (Le.app _ _ _).trans l5⟩
      · simp only [hl, decide_false, Bool.false_eq_true, if_false, q_mul (i := x) (j := 0) (by omega) (by omega) (by decide) (by decide), M_some]
        exact ⟨x * 0, S5, rfl, by omega, by omega, by omega, b5, (Le.app _ _ _).trans l5⟩
    rintro _ ⟨m, S5, rfl, m0, m1, m2, b5, l5⟩
    refine ⟨_, _, rfl, i_rng (i := m) (by omega) (by omega), ?_⟩
    have g5 := l5.at kp g0
    refine M_loopS (m := 0) (fun i env S6 => ∃ (last h' : Int) (v10 v11 v12 : Option D) (js : List (Int × Int)), env = [some (.ref p), some (zoneD os sp), some (.int t), some (.tup (os.map .int)), some (.int sp), some (.int last), some (.int off), some (.int w), some (.int h'), some (.ref q), v10, v11, v12] ∧
      S6[q]? = some (.lst (js.map jumpD)) ∧ js.length = i ∧ Chart os sp off js ∧ last ∈ os ∧ (off :: js.map (·.2)).getLast? = some last ∧ (∀ x, (js.map (·.1)).getLast? = some x → x + sp ≤ h') ∧ Bag p (c + 5 + 4 * i) S6 ∧ Le p S S6) ⟨off, h, none, none, none, [], rfl, g5, rfl, ⟨om, by simp, Adj.nil, Adj.one⟩, om, rfl, by simp, b5, l0.trans l5⟩ ?_ ?_
    · rintro i d env S6 hi ⟨last, h', v10, v11, v12, js, rfl, gj, jl, hch, lm, hlast, hfar, b6, l6⟩
      obtain ⟨im, rfl⟩ := rng_get hi
      rw [Nat.zero_add] at jl b6 ⊢
      have o2 : 2 ≤ os.length := by
        have : os.length ≠ 1 := fun e => by have := m2 e; omega
        omega
      simp only [asgG, Option.bind_some, List.set_cons_succ, List.set_cons_zero]
      let L := os.filter fun x => !decide (x = last)
      have Lmem : ∀ x ∈ L, x ∈ os ∧ x ≠ last := fun x hx => by
        have := List.mem_filter.mp hx
        exact ⟨this.1, by simpa using this.2⟩
      have Llen : L.length ≤ 3 := Nat.le_trans (List.length_filter_le _ _) o3
      have Lpos : 0 < L.length := by
        obtain ⟨i0, hi0, ei⟩ := List.getElem_of_mem lm
        have : ∃ j, ∃ hj : j < os.length, os[j] ≠ last := by
          by_cases hz0 : i0 = 0
          · refine ⟨1, by omega, fun e => ?_⟩
            exact os_ne hz.asc (i := 1) (j := i0) (x := os[1]) (y := os[i0]) (List.getElem?_eq_getElem _) (List.getElem?_eq_getElem _) (by omega) (by rw [e, ei])
          · refine ⟨0, by omega, fun e => ?_⟩
            exact os_ne hz.asc (i := 0) (j := i0) (x := os[0]) (y := os[i0]) (List.getElem?_eq_getElem _) (List.getElem?_eq_getElem _) (by omega) (by rw [e, ei])
        obtain ⟨j, hj, ne⟩ := this
        exact List.length_pos_of_mem (List.mem_filter.mpr ⟨List.getElem_mem hj, by simpa using ne⟩)
      refine seq_M (fun env S7 => ∃ k : Nat, env = [some (.ref p), some (zoneD os sp), some (.int t), some (.tup (os.map .int)), some (.int sp), some (.int last), some (.int off), some (.int w), some (.int h'), some (.ref q), some (.int (0 + (i : Int))), some (.ref k), v12] ∧ k ≠ p ∧ S7[k]? = some (.lst (L.map .int)) ∧ Lq S6 S7) ?_ ?_
      · refine asg_M (M_lcx os .int (fun x => !decide (x = last)) .int (by decide) ?_ (by omega) (fun x S7 hx l7 => ⟨_, rfl, ?_⟩) fun k S7 hk gk l7 => ⟨rfl, k, rfl, by have := b6.lt; omega, gk, l7⟩)
        · simp_all? only []
          exact ⟨_, _, rfl, Lq.refl _, fun S2 _ => rfl⟩
        · simp only [wipeD, ev, M_bind, M_map, M_some, M_ite, t_eq, a_tup, al_eq, List.getElem?_cons_zero, List.getElem?_cons_succ, Option.bind_some, Option.map_some, q_add, q_sub, q_lt, q_le, q_gt, q_ge, q_eqI, q_neI, q_eqB, q_neB, q_isN, q_notN, Ix.isNon, q_ixT, q_ixR, atI_0, atI_1, atI_2, atI_3, atI_4, atI_5, atI_6, atI_7, q_slT, q_slR, q_revT, q_seqT, q_int, q_intB, q_max, q_min, q_abs, q_tupT, n_tup, n_int, n_bl, n_non, n_str, isi_ii, isi_ib, isi_tt, isi_itl, isi_btl, isi_ttl, isi_tl, isi_bb, u_bl, u_int, u_non, u_tup, g_name, g_tup, g_nil, g_cons, o_ret, o_nx, i_seq, List.set_cons_zero, List.set_cons_succ, decide_eq_true_eq, Bool.not_eq_true', decide_eq_false_iff_not, evP, Bool.false_eq_true, if_true, if_false, ite_true, ite_false, reduceIte, Bool.not_true, Bool.not_false, Option.some.injEq, q_pow10, Int.reduceToNat, Int.reducePow, Int.reduceAdd, Int.reduceSub, Int.reduceMul, Int.reduceNeg, Int.reduceLT, Int.reduceLE, Nat.reducePow, Nat.reduceLT, Nat.reduceLeDiff, Nat.reduceAdd, List.length_cons, List.length_nil, Int.neg_neg, tst]
          exact ⟨trivial, Lq.refl _, fun _ => ⟨trivial, Lq.refl _⟩⟩
      rintro _ S7 ⟨k, rfl, kq, gk, l7⟩
      have b7 := b6.lq l7
      have e7 : ∀ S8, Le p S7 S8 → bltD .len [.ref k] S8 = some (.int (L.length : Nat), S8) := fun S8 l8 => by rw [q_len (q_seqL (l8.at kq gk)), List.length_map]
      refine seq_M (fun env S8 => ∃ nx : Int, nx ∈ L ∧ env = [some (.ref p), some (zoneD os sp), some (.int t), some (.tup (os.map .int)), some (.int sp), some (.int nx), some (.int off), some (.int w), some (.int h'), some (.ref q), some (.int (0 + (i : Int))), some (.ref k), v12] ∧ Bag p (c + 5 + 4 * i + 1) S8 ∧ Le p S6 S8) ?_ ?_
      · simp? only [e7 S7 (Le.refl _ _)]
        refine (pick_ok (n := n) b7 (by omega) (by omega) (by omega)).imp ?_
        rintro _ ⟨z, S8, rfl, z0, z1, b8, l8⟩
        obtain ⟨nx, _, nm, hn⟩ := atI_ints (ns := L) z0 z1
        simp? only [q_ixL (l8.at kq gk), hn]
        exact ⟨trivial, nx, nm, rfl, b8, l7.le.trans l8⟩
      rintro _ S8 ⟨nx, nm, rfl, b8, l8⟩
      have g8 := l8.at kp gj
      obtain ⟨nos, nne⟩ := Lmem nx nm
      refine seq_M (fun env S9 => env = [some (.ref p), some (zoneD os sp), some (.int t), some (.tup (os.map .int)), some (.int sp), some (.int nx), some (.int off), some (.int w), some (.int h'), some (.ref q), some (.int (0 + (i : Int))), some (.ref k), v12] ∧ S9 = S8.set q (.lst ((js ++ [(h', nx)]).map jumpD))) ?_ ?_
      · simp? only [q_isL g8, show (2 : Nat) ≤ most by decide]
        rw [q_app g8 (by rw [List.length_map]; omega)]
        simp only [M_some, List.map_append, List.map_cons, List.map_nil]
        exact ⟨trivial, trivial, rfl⟩
      rintro _ _ ⟨rfl, rfl⟩
      have b9 : Bag p (c + 5 + 4 * i + 1) (S8.set q (.lst ((js ++ [(h', nx)]).map jumpD))) := b8.set kp
      have g9 : (S8.set q (.lst ((js ++ [(h', nx)]).map jumpD)))[q]? = some (.lst ((js ++ [(h', nx)]).map jumpD)) := List.getElem?_set_self (lt_of_get g8)
      have l9 : Le p S (S8.set q (.lst ((js ++ [(h', nx)]).map jumpD))) := (l6.trans l8).setN sl
      generalize S8.set q (.lst ((js ++ [(h', nx)]).map jumpD)) = S9 at b9 g9 l9 ⊢
      simp? only []
      refine (pick_ok (n := n) b9 (by omega) (by decide) (by decide)).imp ?_
      rintro _ ⟨y, S10, rfl, y0, y1, b10, l10⟩
      simp? only [show (4 : Nat) ≤ most by decide]
      refine (pick_ok (n := n) (b10.app _) (by omega) (by decide) (by decide)).imp ?_
      rintro _ ⟨z, S11, rfl, z0, z1, b11, l11⟩
      obtain ⟨x, _, xm, hx⟩ := atI_ints (ns := [0, 0, 1, y]) z0 (by simpa using z1)
      simp only [List.map_cons, List.map_nil] at hx
      simp only [List.mem_cons, List.not_mem_nil, or_false] at xm
      simp? only [q_ixL (l11.at b10.ne get_new), hx]
      refine ⟨i_rng (i := m) (by omega) (by omega), nx, h' + sp + x, _, _, v12, js ++ [(h', nx)], rfl, l11.at kp (Lq.app _ _ _ _ (l10.at kp g9)), by simp [jl], ⟨om, ?_, ?_, ?_⟩, nos, ?_, ?_, b11.mono (by omega), l9.trans (l10.trans ((Le.app _ _ _).trans l11))⟩
      · intro j hj
        rcases List.mem_append.mp hj with r | r
        · exact hch.mem j r
        · rw [List.mem_singleton.mp r]
          exact nos
      · rw [List.map_append]
        exact hch.far.snoc hfar
      · rw [List.map_append, ← List.cons_append]
        refine hch.alt.snoc fun x hx => ?_
        rw [hlast] at hx
        cases hx
        exact fun e => nne e.symm
      · rw [List.map_append, ← List.cons_append]
        exact List.getLast?_concat
      · intro x' hx'
        rw [List.map_append] at hx'
        simp at hx'
        omega
    · rintro env S6 ⟨last, h', v10, v11, v12, js, rfl, gj, jl, hch, lm, hlast, hfar, b6, l6⟩
      rw [List.length_map, List.length_range] at jl b6
      exact ⟨rfl, _, _, _, v10, v11, v12, js, rfl, gj, hch, by omega, b6.mono (by omega), l6⟩
  rintro _ S4 ⟨v5, v7, v8, v10, v11, v12, js, rfl, gj, hch, jl, b4, l4⟩
  simp? only [q_tupL gj, show (2 : Nat) ≤ most by decide]
  exact ⟨(off, js), S4, rfl, hch, jl, b4, l4⟩
end Lw

namespace Lw
open PySem L2 Ix
theorem charts_lc {n p c : Nat} {S : Hd} {zs : Zs} {pl : D} {o : Int} {v5 : Option D} (hz : Belts zs) (hS : Bag p c S) (hc : c ≤ 600000) :
    M (ev (run T (n + 2)) (.lc .seq (.cons (.var 1) .nil) (.name 6) (.c (.bl true)) (.call 169 (.cons (.var 0) (.cons (.var 6) (.cons (.var 3) (.nil))))) [6]) [some (.ref p), some (beltsD zs), some pl, some (.int o), some (.int 0), v5, none, none, none, none, none, none] S)
      fun x => ∃ (j : Nat) (cs : List Cht) (S' : Hd), x = (.ref j, S') ∧ j ≠ p ∧ S.length ≤ j ∧ S'[j]? = some (.lst (cs.map chtD)) ∧ Earth zs cs ∧ Bag p (c + 700) S' ∧ Le p S S' := by
  have hm := most_big
  have zl2 := hz.l2
  have eb : ∀ S2, items .seq [beltsD zs] S2 = some (zs.map fun z => zoneD z.1 z.2) := fun _ => rfl
  refine M_lcI zs (fun z => zoneD z.1 z.2) (fun j i ys S2 => j ≠ p ∧ S.length ≤ j ∧ (∃ cs : List Cht, ys = cs.map chtD ∧ (∀ (q : Nat) (z : List Int × Int) (ch : Cht), zs[q]? = some z → cs[q]? = some ch → Chart z.1 z.2 ch.1 ch.2) ∧ ∀ ch ∈ cs, ch.2.length ≤ 900) ∧ Bag p (c + 300 * i) S2 ∧ Le p S S2) (by decide) ?_ (by omega) fun j ys S2 yl gj ⟨jp, sj, ⟨cs, hcs, ok, few⟩, b2, l2⟩ => ?_
  · simp_all? only []
    refine ⟨_, _, rfl, eb _, ⟨hS.ne, Nat.le_refl _, ⟨[], rfl, fun q z ch _ h => by simp at h, fun ch h => by cases h⟩, hS.app _, Le.app _ _ _⟩, fun i z ys S2 hx yl gj ⟨jp, sj, ⟨cs, hcs, ok, few⟩, b2, l2⟩ => ⟨_, rfl, ?_⟩⟩
    have il := (List.getElem?_eq_some_iff.mp hx).1
    have zz := hz.zone z (List.mem_of_getElem? hx)
    simp? only [wipeD]
    refine (any_chart_ok (n := n) b2 (by omega) zz).imp ?_
    rintro _ ⟨ch, S3, rfl, hch, hl, b3, l3⟩
    have gj' := l3.at jp gj
    refine ⟨gj', rfl, jp, sj, ⟨cs ++ [ch], by rw [hcs, List.map_append]; rfl, fun q z' ch' h1 h2 => ?_, fun ch' h => ?_⟩, ?_, (l2.trans l3).setN sj⟩
    · by_cases hq : q < cs.length
      · rw [List.getElem?_append_left hq] at h2
        exact ok q z' ch' h1 h2
      · rw [List.getElem?_append_right (by omega)] at h2
        have ql : q - cs.length = 0 := by
          have := (List.getElem?_eq_some_iff.mp h2).1
          simp only [List.length_cons, List.length_nil] at this
          omega
        rw [ql] at h2
        cases h2
        have : cs.length = i := by rw [← yl, hcs, List.length_map]
        have qi : q = i := by omega
        subst qi
        rw [hx] at h1
        cases h1
        exact hch
    · rcases List.mem_append.mp h with r | r
      · exact few ch' r
      · rw [List.mem_singleton.mp r]; omega
    · exact (b3.set jp).mono (by omega)
  · subst hcs
    rw [List.length_map] at yl
    exact ⟨j, cs, S2, rfl, jp, sj, gj, ⟨yl, ok, few⟩, b2.mono (by omega), l2⟩
theorem any_earth_ok {n p c : Nat} {S : Hd} {zs : Zs} {plan : List Dd} {o : Int} (hz : Belts zs) (hp : Plains plan) (h8 : plan.length ≤ 8) (hS : Bag p c S) (hc : c ≤ 500000) :
    M (run T (n + 3) 172 [.ref p, beltsD zs, planD plan, .int o, .int 0] S) fun x => ∃ (a b : List Cht) (S' : Hd), x = (wldD a b, S') ∧ Earth zs a ∧ Earth zs b ∧ Bag p (c + 1400) S' ∧ Le p S S' := by
  have hm := most_big
  refine run_M T_any_earth rfl ?_
  show M (ex (run T (n + 2)) b_any_earth [some (.ref p), some (beltsD zs), some (planD plan), some (.int o), some (.int 0), none, none, none, none, none, none, none] S) _
  unfold b_any_earth
  refine seq_M (fun env S1 => ∃ (j : Nat) (a : List Cht), env = [some (.ref p), some (beltsD zs), some (planD plan), some (.int o), some (.int 0), some (.ref j), none, none, none, none, none, none] ∧ j ≠ p ∧ S1[j]? = some (.lst (a.map chtD)) ∧ Earth zs a ∧ Bag p (c + 700) S1 ∧ Le p S S1) ?_ ?_
  · refine asg_M ((charts_lc (n := n) hz hS (by omega)).imp ?_)
    rintro _ ⟨j, a, S1, rfl, jp, _, gj, ha, b1, l1⟩
    exact ⟨rfl, j, a, rfl, jp, gj, ha, b1, l1⟩
  rintro _ S1 ⟨j, a, rfl, jp, gj, ha, b1, l1⟩
  refine seq_M (fun env S2 => ∃ (k : Nat) (b : List Cht), env = [some (.ref p), some (beltsD zs), some (planD plan), some (.int o), some (.int 0), some (.ref j), none, some (.ref k), none, none, none, none] ∧ S2[k]? = some (.lst (b.map chtD)) ∧ S2[j]? = some (.lst (a.map chtD)) ∧ Earth zs b ∧ Bag p (c + 1400) S2 ∧ Le p S S2) ?_ ?_
  · refine asg_M ((charts_lc (n := n) hz b1 (by omega)).imp ?_)
    rintro _ ⟨k, b, S2, rfl, kp, _, gk, hb, b2, l2⟩
    exact ⟨rfl, k, b, rfl, gk, l2.at jp gj, hb, b2.mono (by omega), l1.trans l2⟩
  rintro _ S2 ⟨k, b, rfl, gk, gj, hb, b2, l2⟩
  have lp : ∀ S, bltD .len [planD plan] S = some (.int (plan.length : Nat), S) := fun S => by
    unfold planD
    rw [q_len q_seqT, List.length_map]
  refine seq_M (fun env S3 => ∃ e : Nat, env = [some (.ref p), some (beltsD zs), some (planD plan), some (.int o), some (.int 0), some (.ref j), none, some (.ref k), some (.ref e), none, none, none] ∧ S3[e]? = some (.lst (([] : List Int).map .int)) ∧ Lq S2 S3) ?_ ?_
  · refine asg_M (M_lcx (List.range plan.length) (fun (i : Nat) => .int (0 + (i : Int))) (fun _ => false) (fun (i : Nat) => .int (i : Int)) (by decide) ?_ (by rw [List.length_range]; omega) (fun i S3 hi l3 => ⟨_, rfl, ?_⟩) fun e S3 he ge l3 => ⟨rfl, e, rfl, ?_, l3⟩)
    · simp_all? only [lp]
      refine ⟨_, _, rfl, Lq.refl _, fun S3 _ => ?_⟩
      rw [i_rng (by omega) (by omega), Int.toNat_natCast]
    · have il := List.mem_range.mp hi
      obtain ⟨d, hd⟩ : ∃ d, plan[i]? = some d := ⟨_, List.getElem?_eq_getElem il⟩
      have ix : ∀ S, ixD (planD plan) (.int (0 + (i : Int))) S = some (ddD d, S) := fun S => by
        unfold planD
        rw [q_ixT, Int.zero_add, atI_lt (by omega) (by rw [List.length_map]; omega), Int.toNat_natCast, List.getElem?_map, hd]
        rfl
      simp only [wipeD, ev, M_bind, M_map, M_some, M_ite, t_eq, a_tup, al_eq, List.getElem?_cons_zero, List.getElem?_cons_succ, Option.bind_some, Option.map_some, q_add, q_sub, q_lt, q_le, q_gt, q_ge, q_eqI, q_neI, q_eqB, q_neB, q_isN, q_notN, Ix.isNon, q_ixT, q_ixR, atI_0, atI_1, atI_2, atI_3, atI_4, atI_5, atI_6, atI_7, q_slT, q_slR, q_revT, q_seqT, q_int, q_intB, q_max, q_min, q_abs, q_tupT, n_tup, n_int, n_bl, n_non, n_str, isi_ii, isi_ib, isi_tt, isi_itl, isi_btl, isi_ttl, isi_tl, isi_bb, u_bl, u_int, u_non, u_tup, g_name, g_tup, g_nil, g_cons, o_ret, o_nx, i_seq, List.set_cons_zero, List.set_cons_succ, decide_eq_true_eq, Bool.not_eq_true', decide_eq_false_iff_not, evP, Bool.false_eq_true, if_true, if_false, ite_true, ite_false, reduceIte, Bool.not_true, Bool.not_false, Option.some.injEq, q_pow10, Int.reduceToNat, Int.reducePow, Int.reduceAdd, Int.reduceSub, Int.reduceMul, Int.reduceNeg, Int.reduceLT, Int.reduceLE, Nat.reducePow, Nat.reduceLT, Nat.reduceLeDiff, Nat.reduceAdd, List.length_cons, List.length_nil, Int.neg_neg, ix, dd_0, q_eqS, wd_ed, plain_ed (hp d (List.mem_of_getElem? hd)), tst]
      exact ⟨trivial, Lq.refl _, fun h => by cases h⟩
    · rw [ge]
      simp
  rintro _ S3 ⟨e, rfl, ge, l3⟩
  refine seq_M (fun env S4 => env = [some (.ref p), some (beltsD zs), some (planD plan), some (.int o), some (.int 0), some (.ref j), none, some (.ref k), some (.ref e), none, none, none] ∧ Lq S2 S4) ?_ ?_
  · refine ite_M (tst_M (M_cmpd (M_is (v := (.ref e, S3)) (by simp_all? only []) (M_is (v := (.ref S3.length, S3 ++ [.lst []])) ev_lst0 ?_))))
    rw [ned_ints (xs := []) (ys := []) (Lq.app S3 [O.lst []] _ _ ge) get_new, M_some]
    refine ⟨false, rfl, ?_⟩
    simp only [Bool.false_eq_true, if_false]
    exact ⟨_, rfl, rfl, rfl, l3.trans (Lq.app _ _)⟩
  rintro _ S4 ⟨rfl, l4⟩
  simp? only [q_tupL (l4 _ _ gj), q_tupL (l4 _ _ gk), show (2 : Nat) ≤ most by decide]
  exact ⟨a, b, S4, rfl, ha, hb, b2.lq l4, l2.trans l4.le⟩
end Lw

namespace Lw
open PySem L2 Ix
/-! ### the sizes of a run's values; repr of lists of numbers -/
theorem held_bd {zs : Zs} {cs : List Cht} (hz : Belts zs) (he : Earth zs cs) {p : Nat} (h : p < cs.length) (t : Int) : -900 ≤ heldC cs p t ∧ heldC cs p t ≤ 900 := by
  have hl := he.len
  have hp : p < zs.length := by omega
  have c := he.ok p zs[p] _ (List.getElem?_eq_getElem hp) (cht_some h)
  have z := hz.zone zs[p] (List.getElem_mem hp)
  have m := heldF_mem (m := t) c.first c.mem
  exact ⟨z.lo _ m, z.hi _ m⟩
def InvV (ks : List Str) (vs : List Int) (B : Int) : Prop := ks.length = vs.length ∧ ∀ (v : Nat) (x : Int), vs[v]? = some x → (ks[v]? = some ("span" : Str) → -900 ≤ x ∧ x ≤ 900) ∧ -B ≤ x ∧ x ≤ B
theorem inv_get {ks : List Str} {vs : List Int} {B : Int} (h : InvV ks vs B) {v : Nat} {k : Str} (hv : ks[v]? = some k) : (k = "span" → -900 ≤ vs.getD v 0 ∧ vs.getD v 0 ≤ 900) ∧ -B ≤ vs.getD v 0 ∧ vs.getD v 0 ≤ B := by
  have l := lt_get hv
  have := h.2 v _ (getD_some (by have := h.1; omega))
  exact ⟨fun e => this.1 (by rw [hv, e]), this.2⟩
theorem inv_step {zs : Zs} {cs : List Cht} {ks : List Str} {vs : List Int} {B : Int} {d : Dd} (hz : Belts zs) (he : Earth zs cs) (h : InvV ks vs B) (hB : 0 ≤ B) (hd : okD zs.length ks d) (pd : Plain d) : InvV (ks ++ [kdO ks d]) (vs ++ [valF cs vs d]) (B + 100900) := by
  have hl := he.len
  have key : (kdO ks d = ("span" : Str) → -900 ≤ valF cs vs d ∧ valF cs vs d ≤ 900) ∧ -(B + 100900) ≤ valF cs vs d ∧ valF cs vs d ≤ B + 100900 := by
    cases d with
    | add v m =>
      obtain ⟨⟨k, hk, ns⟩, m0, m1⟩ := hd
      have q := inv_get h hk
      refine ⟨fun e => ?_, by simp only [valF]; omega, by simp only [valF]; omega⟩
      have : kdO ks (.add v m) = k := by simp [kdO, hk]
      exact absurd (this.symm.trans e) ns
    | plus v s =>
      have q := inv_get h hd.1
      have r := (inv_get h hd.2).1 rfl
      exact ⟨fun e => absurd e (by simp only [kdO]; decide), by simp only [valF]; omega, by simp only [valF]; omega⟩
    | less v s =>
      have q := inv_get h hd.1
      have r := (inv_get h hd.2).1 rfl
      exact ⟨fun e => absurd e (by simp only [kdO]; decide), by simp only [valF]; omega, by simp only [valF]; omega⟩
    | read v p =>
      have q := inv_get h hd.1
      have r := held_bd hz he (p := p) (by rw [hl]; exact hd.2) (vs.getD v 0)
      exact ⟨fun e => absurd e (by simp only [kdO]; decide), by simp only [valF]; omega, by simp only [valF]; omega⟩
    | offset v p =>
      have r := held_bd hz he (p := p) (by rw [hl]; exact hd.2) (vs.getD v 0)
      exact ⟨fun _ => r, by simp only [valF]; omega, by simp only [valF]; omega⟩
    | edition v p => exact pd.elim
    | find v p i j => exact pd.elim
  refine ⟨by rw [List.length_append, List.length_append, h.1]; rfl, fun v x hx => ?_⟩
  by_cases hv : v < vs.length
  · rw [List.getElem?_append_left hv] at hx
    have := h.2 v x hx
    refine ⟨fun e => this.1 ?_, by omega, by omega⟩
    rw [List.getElem?_append_left (by rw [h.1]; exact hv)] at e
    exact e
  · rw [List.getElem?_append_right (by omega)] at hx
    have e0 : v - vs.length = 0 := by
      have := (List.getElem?_eq_some_iff.mp hx).1
      simp only [List.length_cons, List.length_nil] at this
      omega
    rw [e0] at hx
    cases hx
    refine ⟨fun e => key.1 ?_, key.2⟩
    rw [List.getElem?_append_right (by rw [h.1]; omega), h.1, e0] at e
    exact Option.some.inj e
theorem run_bd {zs : Zs} {cs : List Cht} {plan : List Dd} {s : Int} (hz : Belts zs) (he : Earth zs cs) (hv : Valid zs.length plan) (hp : Plains plan) : ∀ i, i ≤ plan.length → InvV (rowOf (plan.take i)) (runF cs (plan.take i) s) (s.natAbs + 100900 * i) := fun i => by
  induction i with
  | zero =>
    intro _
    refine ⟨rfl, fun v x hx => ?_⟩
    match v, hx with
    | 0, hx =>
      cases hx
      refine ⟨fun e => ?_, by omega, by omega⟩
      exact absurd (Option.some.inj (show some ("moment" : Str) = some "span" from e)) (by decide)
    | _ + 1, hx => cases hx
  | succ i ih =>
    intro hi
    obtain ⟨d, hd⟩ : ∃ d, plan[i]? = some d := ⟨_, List.getElem?_eq_getElem (by omega)⟩
    have st := inv_step (cs := cs) hz he (ih (by omega)) (by omega) (hv.ok i d hd) (hp d (List.mem_of_getElem? hd))
    have e1 : rowOf (plan.take (i + 1)) = rowOf (plan.take i) ++ [kdO (rowOf (plan.take i)) d] := by rw [List.take_add_one, hd]; exact rowOf_snoc
    rw [e1, runF_snoc hd]
    have : ((s.natAbs : Int) + 100900 * ((i + 1 : Nat) : Int)) = s.natAbs + 100900 * (i : Int) + 100900 := by omega
    rw [this]
    exact st
theorem rpr_list {S : Hd} {k : Nat} {xs : List D} (g : S[k]? = some (.lst xs)) (h : ∀ x ∈ xs, Pw x) (hl : xs.length ≤ 20) : rprD (.ref k) S = some (.str (PyData.shown (.list (xs.map pD))), S) := by
  obtain ⟨a1, a2, a3, a4, a5, a6, a7⟩ := row_part (n := 7) (S := S) h
  have e : py 9 S (.ref k) = some (.list (xs.map pD)) := by simp only [py, g, a1, Option.map_some]
  have dp : PyData.depth (.list (xs.map pD)) ≤ 64 := by simp only [PyData.depth, a4]; omega
  have lay : PyData.layable0 (.list (xs.map pD)) = true := lay_of (by simp only [PyData.canLay0]; exact a2) dp (by
    simp only [PyData.weight]
    exact Nat.le_trans a3 (Nat.le_trans (Nat.mul_le_mul_left 61 hl) (by decide)))
  have sl := PyData.shown_fits_of_layable0 (B := 13) (by decide) (by decide) lay (by simp only [PyData.intsShort]; exact a7)
  simp only [rprD, e, Option.bind_some]
  rw [if_pos ⟨by simp only [PyData.showable]; exact a5, by simp only [PyData.hasDict]; exact a6, dp, sl⟩]
theorem same_runs {n k k' : Nat} {S : Hd} {zs : Zs} {cs : List Cht} {plan : List Dd} {s : Int} (hz : Belts zs) (he : Earth zs cs) (hv : Valid zs.length plan) (hp : Plains plan) (hs : s.natAbs ≤ 999900000001)
    (g : S[k]? = some (.lst ((runF cs plan s).map .int))) (g' : S[k']? = some (.lst ((runF cs plan s).map .int))) : Pu (run T (n + 1) 102 [.ref k, .ref k'] S) (.bl true) S := by
  have h8 := hv.short
  have bd := run_bd (cs := cs) (s := s) hz he hv hp plan.length (Nat.le_refl _)
  rw [List.take_length] at bd
  have pw : ∀ x ∈ (runF cs plan s).map D.int, Pw x := fun x hx => by
    obtain ⟨y, hy, rfl⟩ := List.mem_map.mp hx
    obtain ⟨i, hi, e⟩ := List.getElem_of_mem hy
    have := (bd.2 i y (by rw [List.getElem?_eq_getElem hi, e])).2
    refine .inr ⟨y, rfl, ?_⟩
    have : (10 : Nat) ^ 12 = 1000000000000 := by decide
    omega
  have ln : ((runF cs plan s).map D.int).length ≤ 20 := by rw [List.length_map, runF_len]; omega
  exact same_rpr (rpr_list g pw ln) (rpr_list g' pw ln)
end Lw

namespace Lw
open PySem L2 Ix
theorem q_clear {S : Hd} {k : Nat} {xs : List D} (g : S[k]? = some (.lst xs)) : methD .clear (.ref k) [] S = some (.non, S.set k (.lst [])) := by
  simp only [methD, g]
theorem law_cell {S0 : Hd} {ns : List Int} {z : Int} {v2 v3 v4 v5 v6 v7 v8 : Option D} :
    M (ex (run T 13) (match b_law_k22 with | .seq (.for_ _ _ _ b) _ => b | _ => .skip) [some (.ro ns), some (.int z), v2, v3, v4, v5, v6, v7, v8] S0) fun r => r.1 = .nx ∧ (∃ v2 v3 v4 v5 v6 v7 v8 : Option D, r.2.1 = [some (.ro ns), some (.int z), v2, v3, v4, v5, v6, v7, v8]) ∧ Lq S0 r.2.2 := by
  have hm := most_big
  unfold b_law_k22
  refine seq_M (fun env S1 => ∃ p : Nat, env = [some (.ro ns), some (.int z), some (.ref p), v3, v4, v5, v6, v7, v8] ∧ p = S0.length ∧ Bag p 0 S1 ∧ Lq S0 S1) ?_ ?_
  · refine asg_M ?_
    simp_all? only []
    refine (bag_of_ok z).imp ?_
    rintro _ ⟨p, S1, rfl, e, b, l⟩
    exact ⟨trivial, p, rfl, e, b, l⟩
  rintro _ S1 ⟨p, rfl, hp, b1, l1⟩
  refine seq_M (fun env S2 => ∃ zs : Zs, env = [some (.ro ns), some (.int z), some (.ref p), some (beltsD zs), v4, v5, v6, v7, v8] ∧ Belts zs ∧ Bag p 50 S2 ∧ Lq S0 S2) ?_ ?_
  · refine asg_M ?_
    simp_all? only []
    refine (any_belts_ok b1 (by decide)).imp ?_
    rintro _ ⟨zs, S2, rfl, hz, b2, l2⟩
    exact ⟨trivial, zs, rfl, hz, b2.mono (by decide), l1.ple l2 (by omega)⟩
  rintro _ S2 ⟨zs, rfl, hz, b2, l2⟩
  refine seq_M (fun env S3 => ∃ plan : List Dd, env = [some (.ro ns), some (.int z), some (.ref p), some (beltsD zs), some (planD plan), v5, v6, v7, v8] ∧ Valid zs.length plan ∧ Plains plan ∧ Bag p 300 S3 ∧ Lq S0 S3) ?_ ?_
  · refine asg_M ?_
    simp_all? only [show (4 : Nat) ≤ most by decide]
    refine (any_plan_ok (n := 7) hz (b2.app _) (by decide) b2.ne get_new).imp ?_
    rintro _ ⟨plan, S3, rfl, hv, hpl, b3, l3⟩
    exact ⟨trivial, plan, rfl, hv, hpl, b3.mono (by decide), (l2.trans (Lq.app _ _)).ple l3 (by omega)⟩
  rintro _ S3 ⟨plan, rfl, hv, hpl, b3, l3⟩
  refine seq_M (fun env S4 => ∃ o : Int, env = [some (.ro ns), some (.int z), some (.ref p), some (beltsD zs), some (planD plan), some (.int o), v6, v7, v8] ∧ -999900000000 ≤ o ∧ o ≤ 999900000000 ∧ Bag p 310 S4 ∧ Lq S0 S4) ?_ ?_
  · refine asg_M ?_
    simp_all? only []
    refine (any_origin_ok (n := 11) b3 (by decide)).imp ?_
    rintro _ ⟨o, S4, rfl, o0, o1, b4, l4⟩
    exact ⟨trivial, o, rfl, o0, o1, b4.mono (by decide), l3.ple l4 (by omega)⟩
  rintro _ S4 ⟨o, rfl, o0, o1, b4, l4⟩
  refine seq_M (fun env S5 => ∃ a b : List Cht, env = [some (.ro ns), some (.int z), some (.ref p), some (beltsD zs), some (planD plan), some (.int o), some (wldD a b), v7, v8] ∧ Earth zs a ∧ Earth zs b ∧ Lq S0 S5) ?_ ?_
  · refine asg_M ?_
    simp_all? only []
    refine (any_earth_ok (n := 10) hz hpl hv.short b4 (by decide)).imp ?_
    rintro _ ⟨a, b, S5, rfl, ha, hb, b5, l5⟩
    exact ⟨trivial, a, b, rfl, ha, hb, l4.ple l5 (by omega)⟩
  rintro _ S5 ⟨a, b, rfl, ha, hb, l5⟩
  have s0 : o.natAbs ≤ 999900000001 := by omega
  have s1 : (o + 1).natAbs ≤ 999900000001 := by omega
  refine seq_M (fun env S6 => ∃ k : Nat, env = [some (.ro ns), some (.int z), some (.ref p), some (beltsD zs), some (planD plan), some (.int o), some (wldD a b), some (.ref k), v8] ∧ S5.length ≤ k ∧ S6[k]? = some (.lst ((runF a plan o).map .int)) ∧ Lq S5 S6) ?_ ?_
  · refine asg_M ?_
    simp_all? only []
    refine (follow_ok (n := 10) (b := b) (s := o) hv hpl ha).imp ?_
    rintro _ ⟨L, k, S6, rfl, hk, gk, l6⟩
    simp_all? only []
    exact ⟨trivial, k, rfl, hk, gk, l6⟩
  rintro _ S6 ⟨k, rfl, hk, gk, l6⟩
  refine seq_M (fun env S7 => ∃ t : Nat, env = [some (.ro ns), some (.int z), some (.ref p), some (beltsD zs), some (planD plan), some (.int o), some (wldD a b), some (.ref k), some (.ref t)] ∧ S6.length ≤ t ∧ S7[t]? = some (.lst ((runF a plan o).map .int)) ∧ Lq S6 S7) ?_ ?_
  · refine asg_M ?_
    simp_all? only []
    refine (run_ok (n := 4) hz hv hpl ha hb (s := o)).imp ?_
    rintro _ ⟨t, S7, rfl, ht, gt, l7⟩
    exact ⟨trivial, t, rfl, ht, gt, l7⟩
  rintro _ S7 ⟨t, rfl, ht, gt, l7⟩
  have kl := lt_of_get gk
  refine seq_M (fun env S8 => env = [some (.ro ns), some (.int z), some (.ref p), some (beltsD zs), some (planD plan), some (.int o), some (wldD a b), some (.ref k), some (.ref t)] ∧ Lq S7 S8) ?_ ?_
  · refine ite_M (tst_M (M_not ?_))
    simp_all? only []
    refine (same_runs (n := 12) hz ha hv hpl s0 gt (l7 _ _ gk)).use fun S8 l8 => ?_
    refine ⟨true, rfl, _, rfl, ?_⟩
    simp only [Bool.not_true, Bool.false_eq_true, if_false]
    exact ⟨_, rfl, rfl, rfl, l8⟩
  rintro _ S8 ⟨rfl, l8⟩
  have gt8 := l8 _ _ gt
  refine seq_M (fun env S9 => env = [some (.ro ns), some (.int z), some (.ref p), some (beltsD zs), some (planD plan), some (.int o), some (wldD a b), some (.ref k), some (.ref t)] ∧ S9[k]? = some (.lst ((runF a plan o).map .int)) ∧ Lq S6 S9) ?_ ?_
  · simp? only [q_isL gt8, q_clear gt8]
    refine ⟨trivial, trivial, ?_, (l7.trans l8).set ht⟩
    rw [List.getElem?_set_ne (by omega)]
    exact l8 _ _ (l7 _ _ gk)
  rintro _ S9 ⟨rfl, gk9, l9⟩
  refine seq_M (fun env S10 => env = [some (.ro ns), some (.int z), some (.ref p), some (beltsD zs), some (planD plan), some (.int o), some (wldD a b), some (.ref k), some (.ref t)] ∧ Lq S9 S10) ?_ ?_
  · refine ite_M (tst_M (M_not ?_))
    simp_all? only []
    refine (run_ok (n := 4) hz hv hpl ha hb (s := o + 1)).imp ?_
    rintro _ ⟨t1, S10, rfl, ht1, gt1, l10⟩
    simp_all? only []
    refine (follow_ok (n := 10) (b := b) (s := o + 1) hv hpl ha).imp ?_
    rintro _ ⟨L, k1, S11, rfl, hk1, gk1, l11⟩
    simp_all? only []
    refine (same_runs (n := 12) hz ha hv hpl s1 (l11 _ _ gt1) gk1).use fun S12 l12 => ?_
    refine ⟨true, rfl, _, rfl, ?_⟩
    simp only [Bool.not_true, Bool.false_eq_true, if_false]
    exact ⟨_, rfl, rfl, rfl, l10.trans (l11.trans l12)⟩
  rintro _ S10 ⟨rfl, l10⟩
  refine seq_M (fun env S11 => env = [some (.ro ns), some (.int z), some (.ref p), some (beltsD zs), some (planD plan), some (.int o), some (wldD a b), some (.ref k), some (.ref t)] ∧ Lq S9 S11) ?_ ?_
  · refine ite_M (tst_M (M_not ?_))
    simp_all? only []
    refine (run_ok (n := 4) hz hv hpl ha hb (s := 0)).imp ?_
    rintro _ ⟨t1, S11, rfl, ht1, gt1, l11⟩
    simp_all? only []
    refine (follow_ok (n := 10) (b := b) (s := 0) hv hpl ha).imp ?_
    rintro _ ⟨L, k1, S12, rfl, hk1, gk1, l12⟩
    simp_all? only []
    refine (same_runs (n := 12) hz ha hv hpl (by decide) (l12 _ _ gt1) gk1).use fun S13 l13 => ?_
    refine ⟨true, rfl, _, rfl, ?_⟩
    simp only [Bool.not_true, Bool.false_eq_true, if_false]
    exact ⟨_, rfl, rfl, rfl, l10.trans (l11.trans (l12.trans l13))⟩
  rintro _ S11 ⟨rfl, l11⟩
  refine ite_M (tst_M (M_not ?_))
  simp_all? only []
  refine (run_ok (n := 4) hz hv hpl ha hb (s := o)).imp ?_
  rintro _ ⟨t1, S12, rfl, ht1, gt1, l12⟩
  simp_all? only []
  refine (same_runs (n := 12) hz ha hv hpl s0 gt1 (l12 _ _ (l11 _ _ gk9))).use fun S13 l13 => ?_
  refine ⟨true, rfl, _, rfl, ?_⟩
  simp only [Bool.not_true, Bool.false_eq_true, if_false]
  exact ⟨_, rfl, rfl, ⟨_, _, _, _, _, _, _, rfl⟩, l5.trans (l6.trans (l9.trans (l11.trans (l12.trans l13))))⟩
def lev : Nat := 14
theorem law_true (ns : List Int) (hl : ns.length ≤ 63) (hb : ∀ z ∈ ns, Builtin.Int.intBits z ≤ 1048576) : ∃ S', run T lev 173 [.ro ns] [] = some (.bl true, S') := by
  suffices h : M (run T lev 173 [.ro ns] []) fun r => r.1 = .bl true by
    obtain ⟨⟨d, S'⟩, e, q⟩ := h
    have q : d = .bl true := q
    subst q
    exact ⟨S', e⟩
  refine run_M T_law_k22 rfl ?_
  show M (ex (run T 13) b_law_k22 [some (.ro ns), none, none, none, none, none, none, none, none] []) _
  unfold b_law_k22
  have hm := most_big
  refine seq_M (fun env S => True) ?_ ?_
  · have hcl : (cutD (ns.map D.int) none (some 30)).length ≤ 63 := Nat.le_trans cut_len (by simpa using hl)
    refine for_M (M.imp (P := fun x => ∃ A B, x = (.tup [.ref 2], [A, B, O.lst ([D.int 640271983355078114290663745182097713395860124477519382] ++ cutD (ns.map .int) none (some 30))])) ?_ ?_)
    · simp? only [show (1 : Nat) ≤ most by decide, List.nil_append]
      rw [q_addL (xs := [.int 640271983355078114290663745182097713395860124477519382]) (ys := cutD (ns.map .int) none (some 30)) rfl rfl (by simp; omega)]
      simp only [al_eq, M_some]
      exact ⟨_, _, rfl⟩
    rintro _ ⟨A, B, rfl⟩
    refine ⟨_, _, rfl, rfl, ?_⟩
    refine M_loopS (m := 0) (fun i env S => (∃ v1 v2 v3 v4 v5 v6 v7 v8 : Option D, env = [some (.ro ns), v1, v2, v3, v4, v5, v6, v7, v8]) ∧ S[2]? = some (O.lst ([D.int 640271983355078114290663745182097713395860124477519382] ++ cutD (ns.map .int) none (some 30)))) ⟨⟨_, _, _, _, _, _, _, _, rfl⟩, rfl⟩ ?_ ?_
    · rintro i d env S hi ⟨⟨v1, v2, v3, v4, v5, v6, v7, v8, rfl⟩, g⟩
      obtain ⟨z, rfl⟩ := cell_get hi
      simp only [asgG, Option.bind_some, List.set_cons_succ, List.set_cons_zero]
      refine (law_cell (S0 := S) (ns := ns) (z := z)).imp ?_
      rintro ⟨o, env', S'⟩ ⟨e1, ⟨v2, v3, v4, v5, v6, v7, v8, e2⟩, l⟩
      have e1 : o = .nx := e1
      subst e1
      have e2 : env' = _ := e2
      subst e2
      exact ⟨q_seqL (l _ _ g), ⟨_, _, _, _, _, _, _, _, rfl⟩, l _ _ g⟩
    · rintro env S _
      exact ⟨rfl, trivial⟩
  · rintro env S _
    simp? only []
end Lw

namespace Lw
open PySem L2 Ix
section
variable {P : Program} {w : World} {K : PySem.W.Frag} {mg : Str → Option Value} {base : Heap}
structure Fs0 (K : PySem.W.Frag) (mg : Str → Option Value) : Prop where
  f0 : ∃ fa fd, mg "is_number" = some (.ref fa) ∧ Fun K "is_number" "is_number" s_0 fa fd
  f1 : ∃ fa fd, mg "is_pair" = some (.ref fa) ∧ Fun K "is_pair" "is_pair" s_1 fa fd
  f84 : ∃ fa fd, mg "first_word" = some (.ref fa) ∧ Fun K "first_word" "first_word" s_84 fa fd
  f2 : ∃ fa fd, mg "check_number" = some (.ref fa) ∧ Fun K "check_number" "check_number" s_2 fa fd
  f6 : ∃ fa fd, mg "is_zone" = some (.ref fa) ∧ Fun K "is_zone" "is_zone" s_6 fa fd
  f85 : ∃ fa fd, mg "is_zones" = some (.ref fa) ∧ Fun K "is_zones" "is_zones" s_85 fa fd
  f86 : ∃ fa fd, mg "check_zones" = some (.ref fa) ∧ Fun K "check_zones" "check_zones" s_86 fa fd
  f12 : ∃ fa fd, mg "fits_as_table" = some (.ref fa) ∧ Fun K "fits_as_table" "fits_as_table" s_12 fa fd
  f87 : ∃ fa fd, mg "is_place" = some (.ref fa) ∧ Fun K "is_place" "is_place" s_87 fa fd
  f65 : ∃ fa fd, mg "is_rule" = some (.ref fa) ∧ Fun K "is_rule" "is_rule" s_65 fa fd
  f9 : ∃ fa fd, mg "is_offset" = some (.ref fa) ∧ Fun K "is_offset" "is_offset" s_9 fa fd
  f11 : ∃ fa fd, mg "are_marks" = some (.ref fa) ∧ Fun K "are_marks" "are_marks" s_11 fa fd
  f3 : ∃ fa fd, mg "is_ascending" = some (.ref fa) ∧ Fun K "is_ascending" "is_ascending" s_3 fa fd
  f14 : ∃ fa fd, mg "held_offset" = some (.ref fa) ∧ Fun K "held_offset" "held_offset" s_14 fa fd
  f28 : ∃ fa fd, mg "moments_to_look_at" = some (.ref fa) ∧ Fun K "moments_to_look_at" "moments_to_look_at" s_28 fa fd
  f27 : ∃ fa fd, mg "matching_moments" = some (.ref fa) ∧ Fun K "matching_moments" "matching_moments" s_27 fa fd
  f68 : ∃ fa fd, mg "found_moment" = some (.ref fa) ∧ Fun K "found_moment" "found_moment" s_68 fa fd
  f5 : ∃ fa fd, mg "_are_offsets" = some (.ref fa) ∧ Fun K "_are_offsets" "_are_offsets" s_5 fa fd
  f4 : ∃ fa fd, mg "_is_near" = some (.ref fa) ∧ Fun K "_is_near" "_is_near" s_4 fa fd
  f10 : ∃ fa fd, mg "_is_mark" = some (.ref fa) ∧ Fun K "_is_mark" "_is_mark" s_10 fa fd
  f8 : ∃ fa fd, mg "_are_jumps" = some (.ref fa) ∧ Fun K "_are_jumps" "_are_jumps" s_8 fa fd
  f67 : ∃ fa fd, mg "_chosen" = some (.ref fa) ∧ Fun K "_chosen" "_chosen" s_67 fa fd
  f156 : ∃ fa fd, mg "run" = some (.ref fa) ∧ FunD K "run" "run" (defArgs s_156) (defBody s_156) (defScope s_156) [V.int 0] [] fa fd
  f95 : ∃ fa fd, mg "check_program" = some (.ref fa) ∧ Fun K "check_program" "check_program" s_95 fa fd
  f148 : ∃ fa fd, mg "check_world" = some (.ref fa) ∧ Fun K "check_world" "check_world" s_148 fa fd
  f93 : ∃ fa fd, mg "fits_as_program" = some (.ref fa) ∧ Fun K "fits_as_program" "fits_as_program" s_93 fa fd
  f147 : ∃ fa fd, mg "fits_as_world" = some (.ref fa) ∧ Fun K "fits_as_world" "fits_as_world" s_147 fa fd
  f90 : ∃ fa fd, mg "fits_step_role" = some (.ref fa) ∧ Fun K "fits_step_role" "fits_step_role" s_90 fa fd
  f89 : ∃ fa fd, mg "is_time" = some (.ref fa) ∧ Fun K "is_time" "is_time" s_89 fa fd
  f155 : ∃ fa fd, mg "looked_at" = some (.ref fa) ∧ Fun K "looked_at" "looked_at" s_155 fa fd
  f153 : ∃ fa fd, mg "edition_moment" = some (.ref fa) ∧ Fun K "edition_moment" "edition_moment" s_153 fa fd
  f149 : ∃ fa fd, mg "made_value" = some (.ref fa) ∧ Fun K "made_value" "made_value" s_149 fa fd
  f91 : ∃ fa fd, mg "_is_step" = some (.ref fa) ∧ Fun K "_is_step" "_is_step" s_91 fa fd
  f88 : ∃ fa fd, mg "_is_index" = some (.ref fa) ∧ Fun K "_is_index" "_is_index" s_88 fa fd
  f92 : ∃ fa fd, mg "_made_kind" = some (.ref fa) ∧ Fun K "_made_kind" "_made_kind" s_92 fa fd
  f146 : ∃ fa fd, mg "_are_tables" = some (.ref fa) ∧ Fun K "_are_tables" "_are_tables" s_146 fa fd
  f154 : ∃ fa fd, mg "_moments_of_step" = some (.ref fa) ∧ Fun K "_moments_of_step" "_moments_of_step" s_154 fa fd
  f150 : ∃ fa fd, mg "_looks_in" = some (.ref fa) ∧ Fun K "_looks_in" "_looks_in" s_150 fa fd
  f152 : ∃ fa fd, mg "_suits" = some (.ref fa) ∧ Fun K "_suits" "_suits" s_152 fa fd
  f151 : ∃ fa fd, mg "_ahead_of" = some (.ref fa) ∧ Fun K "_ahead_of" "_ahead_of" s_151 fa fd
  f98 : ∃ fa fd, mg "_law_bag_of" = some (.ref fa) ∧ Fun K "_law_bag_of" "_law_bag_of" s_98 fa fd
  f99 : ∃ fa fd, mg "_law_pick" = some (.ref fa) ∧ Fun K "_law_pick" "_law_pick" s_99 fa fd
  f100 : ∃ fa fd, mg "_law_any_belt" = some (.ref fa) ∧ Fun K "_law_any_belt" "_law_any_belt" s_100 fa fd
  f101 : ∃ fa fd, mg "_law_any_belts" = some (.ref fa) ∧ Fun K "_law_any_belts" "_law_any_belts" s_101 fa fd
  f102 : ∃ fa fd, mg "_law_same" = some (.ref fa) ∧ Fun K "_law_same" "_law_same" s_102 fa fd
  f103 : ∃ fa fd, mg "_law_spot" = some (.ref fa) ∧ Fun K "_law_spot" "_law_spot" s_103 fa fd
  f104 : ∃ fa fd, mg "_law_minutes" = some (.ref fa) ∧ Fun K "_law_minutes" "_law_minutes" s_104 fa fd
  f157 : ∃ fa fd, mg "_law_next_words" = some (.ref fa) ∧ Fun K "_law_next_words" "_law_next_words" s_157 fa fd
  f105 : ∃ fa fd, mg "_law_any_rules" = some (.ref fa) ∧ Fun K "_law_any_rules" "_law_any_rules" s_105 fa fd
  f158 : ∃ fa fd, mg "_law_any_deed" = some (.ref fa) ∧ Fun K "_law_any_deed" "_law_any_deed" s_158 fa fd
  f159 : ∃ fa fd, mg "_law_kind_made" = some (.ref fa) ∧ Fun K "_law_kind_made" "_law_kind_made" s_159 fa fd
  f160 : ∃ fa fd, mg "_law_kind_row" = some (.ref fa) ∧ Fun K "_law_kind_row" "_law_kind_row" s_160 fa fd
  f106 : ∃ fa fd, mg "_law_less_room" = some (.ref fa) ∧ Fun K "_law_less_room" "_law_less_room" s_106 fa fd
  f161 : ∃ fa fd, mg "_law_longer_plan" = some (.ref fa) ∧ Fun K "_law_longer_plan" "_law_longer_plan" s_161 fa fd
  f162 : ∃ fa fd, mg "_law_any_plan" = some (.ref fa) ∧ Fun K "_law_any_plan" "_law_any_plan" s_162 fa fd
  f163 : ∃ fa fd, mg "_law_holds" = some (.ref fa) ∧ Fun K "_law_holds" "_law_holds" s_163 fa fd
  f164 : ∃ fa fd, mg "_law_searched" = some (.ref fa) ∧ Fun K "_law_searched" "_law_searched" s_164 fa fd
  f165 : ∃ fa fd, mg "_law_asked_at" = some (.ref fa) ∧ Fun K "_law_asked_at" "_law_asked_at" s_165 fa fd
  f166 : ∃ fa fd, mg "_law_worth_made" = some (.ref fa) ∧ Fun K "_law_worth_made" "_law_worth_made" s_166 fa fd
  f167 : ∃ fa fd, mg "_law_agree" = some (.ref fa) ∧ Fun K "_law_agree" "_law_agree" s_167 fa fd
  f168 : ∃ fa fd, mg "_law_follow" = some (.ref fa) ∧ Fun K "_law_follow" "_law_follow" s_168 fa fd
  f169 : ∃ fa fd, mg "_law_any_chart" = some (.ref fa) ∧ Fun K "_law_any_chart" "_law_any_chart" s_169 fa fd
  f170 : ∃ fa fd, mg "_law_any_later" = some (.ref fa) ∧ Fun K "_law_any_later" "_law_any_later" s_170 fa fd
  f171 : ∃ fa fd, mg "_law_any_origin" = some (.ref fa) ∧ Fun K "_law_any_origin" "_law_any_origin" s_171 fa fd
  f172 : ∃ fa fd, mg "_law_any_earth" = some (.ref fa) ∧ Fun K "_law_any_earth" "_law_any_earth" s_172 fa fd
  f173 : ∃ fa fd, mg "law" = some (.ref fa) ∧ Fun K "law" "law" s_173 fa fd
theorem bi_0 {fa : Addr} {fd : FuncData} (F : Fun K "is_number" "is_number" s_0 fa fd) : Binds K fd P_0 [] := F.binds fun _ _ _ _ _ _ us hl => match us, hl with | [_], _ => rfl
theorem bi_1 {fa : Addr} {fd : FuncData} (F : Fun K "is_pair" "is_pair" s_1 fa fd) : Binds K fd P_1 [] := F.binds fun _ _ _ _ _ _ us hl => match us, hl with | [_], _ => rfl
theorem bi_84 {fa : Addr} {fd : FuncData} (F : Fun K "first_word" "first_word" s_84 fa fd) : Binds K fd P_84 [] := F.binds fun _ _ _ _ _ _ us hl => match us, hl with | [_], _ => rfl
theorem bi_2 {fa : Addr} {fd : FuncData} (F : Fun K "check_number" "check_number" s_2 fa fd) : Binds K fd P_2 [] := F.binds fun _ _ _ _ _ _ us hl => match us, hl with | [_], _ => rfl
theorem bi_6 {fa : Addr} {fd : FuncData} (F : Fun K "is_zone" "is_zone" s_6 fa fd) : Binds K fd P_6 [] := F.binds fun _ _ _ _ _ _ us hl => match us, hl with | [_], _ => rfl
theorem bi_85 {fa : Addr} {fd : FuncData} (F : Fun K "is_zones" "is_zones" s_85 fa fd) : Binds K fd P_85 [] := F.binds fun _ _ _ _ _ _ us hl => match us, hl with | [_], _ => rfl
theorem bi_86 {fa : Addr} {fd : FuncData} (F : Fun K "check_zones" "check_zones" s_86 fa fd) : Binds K fd P_86 [] := F.binds fun _ _ _ _ _ _ us hl => match us, hl with | [_], _ => rfl
theorem bi_12 {fa : Addr} {fd : FuncData} (F : Fun K "fits_as_table" "fits_as_table" s_12 fa fd) : Binds K fd P_12 [] := F.binds fun _ _ _ _ _ _ us hl => match us, hl with | [_, _], _ => rfl
theorem bi_87 {fa : Addr} {fd : FuncData} (F : Fun K "is_place" "is_place" s_87 fa fd) : Binds K fd P_87 [] := F.binds fun _ _ _ _ _ _ us hl => match us, hl with | [_, _], _ => rfl
theorem bi_65 {fa : Addr} {fd : FuncData} (F : Fun K "is_rule" "is_rule" s_65 fa fd) : Binds K fd P_65 [] := F.binds fun _ _ _ _ _ _ us hl => match us, hl with | [_, _], _ => rfl
theorem bi_9 {fa : Addr} {fd : FuncData} (F : Fun K "is_offset" "is_offset" s_9 fa fd) : Binds K fd P_9 [] := F.binds fun _ _ _ _ _ _ us hl => match us, hl with | [_, _], _ => rfl
theorem bi_11 {fa : Addr} {fd : FuncData} (F : Fun K "are_marks" "are_marks" s_11 fa fd) : Binds K fd P_11 [] := F.binds fun _ _ _ _ _ _ us hl => match us, hl with | [_, _], _ => rfl
theorem bi_3 {fa : Addr} {fd : FuncData} (F : Fun K "is_ascending" "is_ascending" s_3 fa fd) : Binds K fd P_3 [] := F.binds fun _ _ _ _ _ _ us hl => match us, hl with | [_], _ => rfl
theorem bi_14 {fa : Addr} {fd : FuncData} (F : Fun K "held_offset" "held_offset" s_14 fa fd) : Binds K fd P_14 [] := F.binds fun _ _ _ _ _ _ us hl => match us, hl with | [_, _], _ => rfl
theorem bi_28 {fa : Addr} {fd : FuncData} (F : Fun K "moments_to_look_at" "moments_to_look_at" s_28 fa fd) : Binds K fd P_28 [] := F.binds fun _ _ _ _ _ _ us hl => match us, hl with | [_, _], _ => rfl
theorem bi_27 {fa : Addr} {fd : FuncData} (F : Fun K "matching_moments" "matching_moments" s_27 fa fd) : Binds K fd P_27 [] := F.binds fun _ _ _ _ _ _ us hl => match us, hl with | [_, _], _ => rfl
theorem bi_68 {fa : Addr} {fd : FuncData} (F : Fun K "found_moment" "found_moment" s_68 fa fd) : Binds K fd P_68 [] := F.binds fun _ _ _ _ _ _ us hl => match us, hl with | [_, _, _, _], _ => rfl
theorem bi_5 {fa : Addr} {fd : FuncData} (F : Fun K "_are_offsets" "_are_offsets" s_5 fa fd) : Binds K fd P_5 [] := F.binds fun _ _ _ _ _ _ us hl => match us, hl with | [_], _ => rfl
theorem bi_4 {fa : Addr} {fd : FuncData} (F : Fun K "_is_near" "_is_near" s_4 fa fd) : Binds K fd P_4 [] := F.binds fun _ _ _ _ _ _ us hl => match us, hl with | [_], _ => rfl
theorem bi_10 {fa : Addr} {fd : FuncData} (F : Fun K "_is_mark" "_is_mark" s_10 fa fd) : Binds K fd P_10 [] := F.binds fun _ _ _ _ _ _ us hl => match us, hl with | [_, _], _ => rfl
theorem bi_8 {fa : Addr} {fd : FuncData} (F : Fun K "_are_jumps" "_are_jumps" s_8 fa fd) : Binds K fd P_8 [] := F.binds fun _ _ _ _ _ _ us hl => match us, hl with | [_, _, _], _ => rfl
theorem bi_67 {fa : Addr} {fd : FuncData} (F : Fun K "_chosen" "_chosen" s_67 fa fd) : Binds K fd P_67 [] := F.binds fun _ _ _ _ _ _ us hl => match us, hl with | [_, _, _, _], _ => rfl
theorem bi_95 {fa : Addr} {fd : FuncData} (F : Fun K "check_program" "check_program" s_95 fa fd) : Binds K fd P_95 [] := F.binds fun _ _ _ _ _ _ us hl => match us, hl with | [_, _], _ => rfl
theorem bi_148 {fa : Addr} {fd : FuncData} (F : Fun K "check_world" "check_world" s_148 fa fd) : Binds K fd P_148 [] := F.binds fun _ _ _ _ _ _ us hl => match us, hl with | [_, _], _ => rfl
theorem bi_93 {fa : Addr} {fd : FuncData} (F : Fun K "fits_as_program" "fits_as_program" s_93 fa fd) : Binds K fd P_93 [] := F.binds fun _ _ _ _ _ _ us hl => match us, hl with | [_, _], _ => rfl
theorem bi_147 {fa : Addr} {fd : FuncData} (F : Fun K "fits_as_world" "fits_as_world" s_147 fa fd) : Binds K fd P_147 [] := F.binds fun _ _ _ _ _ _ us hl => match us, hl with | [_, _], _ => rfl
theorem bi_90 {fa : Addr} {fd : FuncData} (F : Fun K "fits_step_role" "fits_step_role" s_90 fa fd) : Binds K fd P_90 [] := F.binds fun _ _ _ _ _ _ us hl => match us, hl with | [_, _, _, _], _ => rfl
theorem bi_89 {fa : Addr} {fd : FuncData} (F : Fun K "is_time" "is_time" s_89 fa fd) : Binds K fd P_89 [] := F.binds fun _ _ _ _ _ _ us hl => match us, hl with | [_, _], _ => rfl
theorem bi_155 {fa : Addr} {fd : FuncData} (F : Fun K "looked_at" "looked_at" s_155 fa fd) : Binds K fd P_155 [] := F.binds fun _ _ _ _ _ _ us hl => match us, hl with | [_, _, _], _ => rfl
theorem bi_153 {fa : Addr} {fd : FuncData} (F : Fun K "edition_moment" "edition_moment" s_153 fa fd) : Binds K fd P_153 [] := F.binds fun _ _ _ _ _ _ us hl => match us, hl with | [_, _, _], _ => rfl
theorem bi_149 {fa : Addr} {fd : FuncData} (F : Fun K "made_value" "made_value" s_149 fa fd) : Binds K fd P_149 [] := F.binds fun _ _ _ _ _ _ us hl => match us, hl with | [_, _, _], _ => rfl
theorem bi_91 {fa : Addr} {fd : FuncData} (F : Fun K "_is_step" "_is_step" s_91 fa fd) : Binds K fd P_91 [] := F.binds fun _ _ _ _ _ _ us hl => match us, hl with | [_, _, _], _ => rfl
theorem bi_88 {fa : Addr} {fd : FuncData} (F : Fun K "_is_index" "_is_index" s_88 fa fd) : Binds K fd P_88 [] := F.binds fun _ _ _ _ _ _ us hl => match us, hl with | [_, _], _ => rfl
theorem bi_92 {fa : Addr} {fd : FuncData} (F : Fun K "_made_kind" "_made_kind" s_92 fa fd) : Binds K fd P_92 [] := F.binds fun _ _ _ _ _ _ us hl => match us, hl with | [_, _], _ => rfl
theorem bi_146 {fa : Addr} {fd : FuncData} (F : Fun K "_are_tables" "_are_tables" s_146 fa fd) : Binds K fd P_146 [] := F.binds fun _ _ _ _ _ _ us hl => match us, hl with | [_, _], _ => rfl
theorem bi_154 {fa : Addr} {fd : FuncData} (F : Fun K "_moments_of_step" "_moments_of_step" s_154 fa fd) : Binds K fd P_154 [] := F.binds fun _ _ _ _ _ _ us hl => match us, hl with | [_, _, _], _ => rfl
theorem bi_150 {fa : Addr} {fd : FuncData} (F : Fun K "_looks_in" "_looks_in" s_150 fa fd) : Binds K fd P_150 [] := F.binds fun _ _ _ _ _ _ us hl => match us, hl with | [_, _], _ => rfl
theorem bi_152 {fa : Addr} {fd : FuncData} (F : Fun K "_suits" "_suits" s_152 fa fd) : Binds K fd P_152 [] := F.binds fun _ _ _ _ _ _ us hl => match us, hl with | [_, _, _], _ => rfl
theorem bi_151 {fa : Addr} {fd : FuncData} (F : Fun K "_ahead_of" "_ahead_of" s_151 fa fd) : Binds K fd P_151 [] := F.binds fun _ _ _ _ _ _ us hl => match us, hl with | [_, _], _ => rfl
theorem bi_98 {fa : Addr} {fd : FuncData} (F : Fun K "_law_bag_of" "_law_bag_of" s_98 fa fd) : Binds K fd P_98 [] := F.binds fun _ _ _ _ _ _ us hl => match us, hl with | [_], _ => rfl
theorem bi_99 {fa : Addr} {fd : FuncData} (F : Fun K "_law_pick" "_law_pick" s_99 fa fd) : Binds K fd P_99 [] := F.binds fun _ _ _ _ _ _ us hl => match us, hl with | [_, _], _ => rfl
theorem bi_100 {fa : Addr} {fd : FuncData} (F : Fun K "_law_any_belt" "_law_any_belt" s_100 fa fd) : Binds K fd P_100 [] := F.binds fun _ _ _ _ _ _ us hl => match us, hl with | [_, _], _ => rfl
theorem bi_101 {fa : Addr} {fd : FuncData} (F : Fun K "_law_any_belts" "_law_any_belts" s_101 fa fd) : Binds K fd P_101 [] := F.binds fun _ _ _ _ _ _ us hl => match us, hl with | [_, _], _ => rfl
theorem bi_102 {fa : Addr} {fd : FuncData} (F : Fun K "_law_same" "_law_same" s_102 fa fd) : Binds K fd P_102 [] := F.binds fun _ _ _ _ _ _ us hl => match us, hl with | [_, _], _ => rfl
theorem bi_103 {fa : Addr} {fd : FuncData} (F : Fun K "_law_spot" "_law_spot" s_103 fa fd) : Binds K fd P_103 [] := F.binds fun _ _ _ _ _ _ us hl => match us, hl with | [_, _, _], _ => rfl
theorem bi_104 {fa : Addr} {fd : FuncData} (F : Fun K "_law_minutes" "_law_minutes" s_104 fa fd) : Binds K fd P_104 [] := F.binds fun _ _ _ _ _ _ us hl => match us, hl with | [_, _, _], _ => rfl
theorem bi_157 {fa : Addr} {fd : FuncData} (F : Fun K "_law_next_words" "_law_next_words" s_157 fa fd) : Binds K fd P_157 [] := F.binds fun _ _ _ _ _ _ us hl => match us, hl with | [_, _], _ => rfl
theorem bi_105 {fa : Addr} {fd : FuncData} (F : Fun K "_law_any_rules" "_law_any_rules" s_105 fa fd) : Binds K fd P_105 [] := F.binds fun _ _ _ _ _ _ us hl => match us, hl with | [_], _ => rfl
theorem bi_158 {fa : Addr} {fd : FuncData} (F : Fun K "_law_any_deed" "_law_any_deed" s_158 fa fd) : Binds K fd P_158 [] := F.binds fun _ _ _ _ _ _ us hl => match us, hl with | [_, _, _, _], _ => rfl
theorem bi_159 {fa : Addr} {fd : FuncData} (F : Fun K "_law_kind_made" "_law_kind_made" s_159 fa fd) : Binds K fd P_159 [] := F.binds fun _ _ _ _ _ _ us hl => match us, hl with | [_, _], _ => rfl
theorem bi_160 {fa : Addr} {fd : FuncData} (F : Fun K "_law_kind_row" "_law_kind_row" s_160 fa fd) : Binds K fd P_160 [] := F.binds fun _ _ _ _ _ _ us hl => match us, hl with | [_], _ => rfl
theorem bi_106 {fa : Addr} {fd : FuncData} (F : Fun K "_law_less_room" "_law_less_room" s_106 fa fd) : Binds K fd P_106 [] := F.binds fun _ _ _ _ _ _ us hl => match us, hl with | [_, _], _ => rfl
theorem bi_161 {fa : Addr} {fd : FuncData} (F : Fun K "_law_longer_plan" "_law_longer_plan" s_161 fa fd) : Binds K fd P_161 [] := F.binds fun _ _ _ _ _ _ us hl => match us, hl with | [_, _, _, _, _], _ => rfl
theorem bi_162 {fa : Addr} {fd : FuncData} (F : Fun K "_law_any_plan" "_law_any_plan" s_162 fa fd) : Binds K fd P_162 [] := F.binds fun _ _ _ _ _ _ us hl => match us, hl with | [_, _, _, _], _ => rfl
theorem bi_163 {fa : Addr} {fd : FuncData} (F : Fun K "_law_holds" "_law_holds" s_163 fa fd) : Binds K fd P_163 [] := F.binds fun _ _ _ _ _ _ us hl => match us, hl with | [_, _], _ => rfl
theorem bi_164 {fa : Addr} {fd : FuncData} (F : Fun K "_law_searched" "_law_searched" s_164 fa fd) : Binds K fd P_164 [] := F.binds fun _ _ _ _ _ _ us hl => match us, hl with | [_, _, _, _, _], _ => rfl
theorem bi_165 {fa : Addr} {fd : FuncData} (F : Fun K "_law_asked_at" "_law_asked_at" s_165 fa fd) : Binds K fd P_165 [] := F.binds fun _ _ _ _ _ _ us hl => match us, hl with | [_, _, _], _ => rfl
theorem bi_166 {fa : Addr} {fd : FuncData} (F : Fun K "_law_worth_made" "_law_worth_made" s_166 fa fd) : Binds K fd P_166 [] := F.binds fun _ _ _ _ _ _ us hl => match us, hl with | [_, _, _, _], _ => rfl
theorem bi_167 {fa : Addr} {fd : FuncData} (F : Fun K "_law_agree" "_law_agree" s_167 fa fd) : Binds K fd P_167 [] := F.binds fun _ _ _ _ _ _ us hl => match us, hl with | [_, _, _], _ => rfl
theorem bi_168 {fa : Addr} {fd : FuncData} (F : Fun K "_law_follow" "_law_follow" s_168 fa fd) : Binds K fd P_168 [] := F.binds fun _ _ _ _ _ _ us hl => match us, hl with | [_, _, _, _], _ => rfl
theorem bi_169 {fa : Addr} {fd : FuncData} (F : Fun K "_law_any_chart" "_law_any_chart" s_169 fa fd) : Binds K fd P_169 [] := F.binds fun _ _ _ _ _ _ us hl => match us, hl with | [_, _, _], _ => rfl
theorem bi_170 {fa : Addr} {fd : FuncData} (F : Fun K "_law_any_later" "_law_any_later" s_170 fa fd) : Binds K fd P_170 [] := F.binds fun _ _ _ _ _ _ us hl => match us, hl with | [_, _, _, _], _ => rfl
theorem bi_171 {fa : Addr} {fd : FuncData} (F : Fun K "_law_any_origin" "_law_any_origin" s_171 fa fd) : Binds K fd P_171 [] := F.binds fun _ _ _ _ _ _ us hl => match us, hl with | [_], _ => rfl
theorem bi_172 {fa : Addr} {fd : FuncData} (F : Fun K "_law_any_earth" "_law_any_earth" s_172 fa fd) : Binds K fd P_172 [] := F.binds fun _ _ _ _ _ _ us hl => match us, hl with | [_, _, _, _, _], _ => rfl
theorem bi_173 {fa : Addr} {fd : FuncData} (F : Fun K "law" "law" s_173 fa fd) : Binds K fd P_173 [] := F.binds fun _ _ _ _ _ _ us hl => match us, hl with | [_], _ => rfl
theorem all_ok (F : Fs0 K mg) (G : Gs w K mg) : ∀ n, Al P w K mg base n
  | 0 => ⟨(let ⟨fa, fd, h1, h2⟩ := F.f0; ⟨fa, fd, h1, h2, fn_ok0 h2 sc_0, bi_0 h2⟩), (let ⟨fa, fd, h1, h2⟩ := F.f1; ⟨fa, fd, h1, h2, fn_ok0 h2 sc_1, bi_1 h2⟩), (let ⟨fa, fd, h1, h2⟩ := F.f84; ⟨fa, fd, h1, h2, fn_ok0 h2 sc_84, bi_84 h2⟩), (let ⟨fa, fd, h1, h2⟩ := F.f2; ⟨fa, fd, h1, h2, fn_ok0 h2 sc_2, bi_2 h2⟩), (let ⟨fa, fd, h1, h2⟩ := F.f6; ⟨fa, fd, h1, h2, fn_ok0 h2 sc_6, bi_6 h2⟩), (let ⟨fa, fd, h1, h2⟩ := F.f85; ⟨fa, fd, h1, h2, fn_ok0 h2 sc_85, bi_85 h2⟩), (let ⟨fa, fd, h1, h2⟩ := F.f86; ⟨fa, fd, h1, h2, fn_ok0 h2 sc_86, bi_86 h2⟩), (let ⟨fa, fd, h1, h2⟩ := F.f12; ⟨fa, fd, h1, h2, fn_ok0 h2 sc_12, bi_12 h2⟩), (let ⟨fa, fd, h1, h2⟩ := F.f87; ⟨fa, fd, h1, h2, fn_ok0 h2 sc_87, bi_87 h2⟩), (let ⟨fa, fd, h1, h2⟩ := F.f65; ⟨fa, fd, h1, h2, fn_ok0 h2 sc_65, bi_65 h2⟩), (let ⟨fa, fd, h1, h2⟩ := F.f9; ⟨fa, fd, h1, h2, fn_ok0 h2 sc_9, bi_9 h2⟩), (let ⟨fa, fd, h1, h2⟩ := F.f11; ⟨fa, fd, h1, h2, fn_ok0 h2 sc_11, bi_11 h2⟩), (let ⟨fa, fd, h1, h2⟩ := F.f3; ⟨fa, fd, h1, h2, fn_ok0 h2 sc_3, bi_3 h2⟩), (let ⟨fa, fd, h1, h2⟩ := F.f14; ⟨fa, fd, h1, h2, fn_ok0 h2 sc_14, bi_14 h2⟩), (let ⟨fa, fd, h1, h2⟩ := F.f28; ⟨fa, fd, h1, h2, fn_ok0 h2 sc_28, bi_28 h2⟩), (let ⟨fa, fd, h1, h2⟩ := F.f27; ⟨fa, fd, h1, h2, fn_ok0 h2 sc_27, bi_27 h2⟩), (let ⟨fa, fd, h1, h2⟩ := F.f68; ⟨fa, fd, h1, h2, fn_ok0 h2 sc_68, bi_68 h2⟩), (let ⟨fa, fd, h1, h2⟩ := F.f5; ⟨fa, fd, h1, h2, fn_ok0 h2 sc_5, bi_5 h2⟩), (let ⟨fa, fd, h1, h2⟩ := F.f4; ⟨fa, fd, h1, h2, fn_ok0 h2 sc_4, bi_4 h2⟩), (let ⟨fa, fd, h1, h2⟩ := F.f10; ⟨fa, fd, h1, h2, fn_ok0 h2 sc_10, bi_10 h2⟩), (let ⟨fa, fd, h1, h2⟩ := F.f8; ⟨fa, fd, h1, h2, fn_ok0 h2 sc_8, bi_8 h2⟩), (let ⟨fa, fd, h1, h2⟩ := F.f67; ⟨fa, fd, h1, h2, fn_ok0 h2 sc_67, bi_67 h2⟩), (let ⟨fa, fd, h1, h3⟩ := F.f156; ⟨fa, fd, h1, h3, fn_ok0A (fund_A h3) sc_156⟩), (let ⟨fa, fd, h1, h2⟩ := F.f95; ⟨fa, fd, h1, h2, fn_ok0 h2 sc_95, bi_95 h2⟩), (let ⟨fa, fd, h1, h2⟩ := F.f148; ⟨fa, fd, h1, h2, fn_ok0 h2 sc_148, bi_148 h2⟩), (let ⟨fa, fd, h1, h2⟩ := F.f93; ⟨fa, fd, h1, h2, fn_ok0 h2 sc_93, bi_93 h2⟩), (let ⟨fa, fd, h1, h2⟩ := F.f147; ⟨fa, fd, h1, h2, fn_ok0 h2 sc_147, bi_147 h2⟩), (let ⟨fa, fd, h1, h2⟩ := F.f90; ⟨fa, fd, h1, h2, fn_ok0 h2 sc_90, bi_90 h2⟩), (let ⟨fa, fd, h1, h2⟩ := F.f89; ⟨fa, fd, h1, h2, fn_ok0 h2 sc_89, bi_89 h2⟩), (let ⟨fa, fd, h1, h2⟩ := F.f155; ⟨fa, fd, h1, h2, fn_ok0 h2 sc_155, bi_155 h2⟩), (let ⟨fa, fd, h1, h2⟩ := F.f153; ⟨fa, fd, h1, h2, fn_ok0 h2 sc_153, bi_153 h2⟩), (let ⟨fa, fd, h1, h2⟩ := F.f149; ⟨fa, fd, h1, h2, fn_ok0 h2 sc_149, bi_149 h2⟩), (let ⟨fa, fd, h1, h2⟩ := F.f91; ⟨fa, fd, h1, h2, fn_ok0 h2 sc_91, bi_91 h2⟩), (let ⟨fa, fd, h1, h2⟩ := F.f88; ⟨fa, fd, h1, h2, fn_ok0 h2 sc_88, bi_88 h2⟩), (let ⟨fa, fd, h1, h2⟩ := F.f92; ⟨fa, fd, h1, h2, fn_ok0 h2 sc_92, bi_92 h2⟩), (let ⟨fa, fd, h1, h2⟩ := F.f146; ⟨fa, fd, h1, h2, fn_ok0 h2 sc_146, bi_146 h2⟩), (let ⟨fa, fd, h1, h2⟩ := F.f154; ⟨fa, fd, h1, h2, fn_ok0 h2 sc_154, bi_154 h2⟩), (let ⟨fa, fd, h1, h2⟩ := F.f150; ⟨fa, fd, h1, h2, fn_ok0 h2 sc_150, bi_150 h2⟩), (let ⟨fa, fd, h1, h2⟩ := F.f152; ⟨fa, fd, h1, h2, fn_ok0 h2 sc_152, bi_152 h2⟩), (let ⟨fa, fd, h1, h2⟩ := F.f151; ⟨fa, fd, h1, h2, fn_ok0 h2 sc_151, bi_151 h2⟩), (let ⟨fa, fd, h1, h2⟩ := F.f98; ⟨fa, fd, h1, h2, fn_ok0 h2 sc_98, bi_98 h2⟩), (let ⟨fa, fd, h1, h2⟩ := F.f99; ⟨fa, fd, h1, h2, fn_ok0 h2 sc_99, bi_99 h2⟩), (let ⟨fa, fd, h1, h2⟩ := F.f100; ⟨fa, fd, h1, h2, fn_ok0 h2 sc_100, bi_100 h2⟩), (let ⟨fa, fd, h1, h2⟩ := F.f101; ⟨fa, fd, h1, h2, fn_ok0 h2 sc_101, bi_101 h2⟩), (let ⟨fa, fd, h1, h2⟩ := F.f102; ⟨fa, fd, h1, h2, fn_ok0 h2 sc_102, bi_102 h2⟩), (let ⟨fa, fd, h1, h2⟩ := F.f103; ⟨fa, fd, h1, h2, fn_ok0 h2 sc_103, bi_103 h2⟩), (let ⟨fa, fd, h1, h2⟩ := F.f104; ⟨fa, fd, h1, h2, fn_ok0 h2 sc_104, bi_104 h2⟩), (let ⟨fa, fd, h1, h2⟩ := F.f157; ⟨fa, fd, h1, h2, fn_ok0 h2 sc_157, bi_157 h2⟩), (let ⟨fa, fd, h1, h2⟩ := F.f105; ⟨fa, fd, h1, h2, fn_ok0 h2 sc_105, bi_105 h2⟩), (let ⟨fa, fd, h1, h2⟩ := F.f158; ⟨fa, fd, h1, h2, fn_ok0 h2 sc_158, bi_158 h2⟩), (let ⟨fa, fd, h1, h2⟩ := F.f159; ⟨fa, fd, h1, h2, fn_ok0 h2 sc_159, bi_159 h2⟩), (let ⟨fa, fd, h1, h2⟩ := F.f160; ⟨fa, fd, h1, h2, fn_ok0 h2 sc_160, bi_160 h2⟩), (let ⟨fa, fd, h1, h2⟩ := F.f106; ⟨fa, fd, h1, h2, fn_ok0 h2 sc_106, bi_106 h2⟩), (let ⟨fa, fd, h1, h2⟩ := F.f161; ⟨fa, fd, h1, h2, fn_ok0 h2 sc_161, bi_161 h2⟩), (let ⟨fa, fd, h1, h2⟩ := F.f162; ⟨fa, fd, h1, h2, fn_ok0 h2 sc_162, bi_162 h2⟩), (let ⟨fa, fd, h1, h2⟩ := F.f163; ⟨fa, fd, h1, h2, fn_ok0 h2 sc_163, bi_163 h2⟩), (let ⟨fa, fd, h1, h2⟩ := F.f164; ⟨fa, fd, h1, h2, fn_ok0 h2 sc_164, bi_164 h2⟩), (let ⟨fa, fd, h1, h2⟩ := F.f165; ⟨fa, fd, h1, h2, fn_ok0 h2 sc_165, bi_165 h2⟩), (let ⟨fa, fd, h1, h2⟩ := F.f166; ⟨fa, fd, h1, h2, fn_ok0 h2 sc_166, bi_166 h2⟩), (let ⟨fa, fd, h1, h2⟩ := F.f167; ⟨fa, fd, h1, h2, fn_ok0 h2 sc_167, bi_167 h2⟩), (let ⟨fa, fd, h1, h2⟩ := F.f168; ⟨fa, fd, h1, h2, fn_ok0 h2 sc_168, bi_168 h2⟩), (let ⟨fa, fd, h1, h2⟩ := F.f169; ⟨fa, fd, h1, h2, fn_ok0 h2 sc_169, bi_169 h2⟩), (let ⟨fa, fd, h1, h2⟩ := F.f170; ⟨fa, fd, h1, h2, fn_ok0 h2 sc_170, bi_170 h2⟩), (let ⟨fa, fd, h1, h2⟩ := F.f171; ⟨fa, fd, h1, h2, fn_ok0 h2 sc_171, bi_171 h2⟩), (let ⟨fa, fd, h1, h2⟩ := F.f172; ⟨fa, fd, h1, h2, fn_ok0 h2 sc_172, bi_172 h2⟩), (let ⟨fa, fd, h1, h2⟩ := F.f173; ⟨fa, fd, h1, h2, fn_ok0 h2 sc_173, bi_173 h2⟩)⟩
  | n + 1 => have A := all_ok F G n; ⟨(let ⟨fa, fd, h1, h2⟩ := F.f0; ⟨fa, fd, h1, h2, fn_ok h2 sc_0 rfl rfl rfl (fun cdv Ar outer s H E hr => d_0 A G fa cdv Ar outer s H E hr), bi_0 h2⟩),
    (let ⟨fa, fd, h1, h2⟩ := F.f1; ⟨fa, fd, h1, h2, fn_ok h2 sc_1 rfl rfl rfl (fun cdv Ar outer s H E hr => d_1 A G fa cdv Ar outer s H E hr), bi_1 h2⟩),
    (let ⟨fa, fd, h1, h2⟩ := F.f84; ⟨fa, fd, h1, h2, fn_ok h2 sc_84 rfl rfl rfl (fun cdv Ar outer s H E hr => d_84 A G fa cdv Ar outer s H E hr), bi_84 h2⟩),
    (let ⟨fa, fd, h1, h2⟩ := F.f2; ⟨fa, fd, h1, h2, fn_ok h2 sc_2 rfl rfl rfl (fun cdv Ar outer s H E hr => d_2 A G fa cdv Ar outer s H E hr), bi_2 h2⟩),
    (let ⟨fa, fd, h1, h2⟩ := F.f6; ⟨fa, fd, h1, h2, fn_ok h2 sc_6 rfl rfl rfl (fun cdv Ar outer s H E hr => d_6 A G fa cdv Ar outer s H E hr), bi_6 h2⟩),
    (let ⟨fa, fd, h1, h2⟩ := F.f85; ⟨fa, fd, h1, h2, fn_ok h2 sc_85 rfl rfl rfl (fun cdv Ar outer s H E hr => d_85 A G fa cdv Ar outer s H E hr), bi_85 h2⟩),
    (let ⟨fa, fd, h1, h2⟩ := F.f86; ⟨fa, fd, h1, h2, fn_ok h2 sc_86 rfl rfl rfl (fun cdv Ar outer s H E hr => d_86 A G fa cdv Ar outer s H E hr), bi_86 h2⟩),
    (let ⟨fa, fd, h1, h2⟩ := F.f12; ⟨fa, fd, h1, h2, fn_ok h2 sc_12 rfl rfl rfl (fun cdv Ar outer s H E hr => d_12 A G fa cdv Ar outer s H E hr), bi_12 h2⟩),
    (let ⟨fa, fd, h1, h2⟩ := F.f87; ⟨fa, fd, h1, h2, fn_ok h2 sc_87 rfl rfl rfl (fun cdv Ar outer s H E hr => d_87 A G fa cdv Ar outer s H E hr), bi_87 h2⟩),
    (let ⟨fa, fd, h1, h2⟩ := F.f65; ⟨fa, fd, h1, h2, fn_ok h2 sc_65 rfl rfl rfl (fun cdv Ar outer s H E hr => d_65 A G fa cdv Ar outer s H E hr), bi_65 h2⟩),
    (let ⟨fa, fd, h1, h2⟩ := F.f9; ⟨fa, fd, h1, h2, fn_ok h2 sc_9 rfl rfl rfl (fun cdv Ar outer s H E hr => d_9 A G fa cdv Ar outer s H E hr), bi_9 h2⟩),
    (let ⟨fa, fd, h1, h2⟩ := F.f11; ⟨fa, fd, h1, h2, fn_ok h2 sc_11 rfl rfl rfl (fun cdv Ar outer s H E hr => d_11 A G fa cdv Ar outer s H E hr), bi_11 h2⟩),
    (let ⟨fa, fd, h1, h2⟩ := F.f3; ⟨fa, fd, h1, h2, fn_ok h2 sc_3 rfl rfl rfl (fun cdv Ar outer s H E hr => d_3 A G fa cdv Ar outer s H E hr), bi_3 h2⟩),
    (let ⟨fa, fd, h1, h2⟩ := F.f14; ⟨fa, fd, h1, h2, fn_ok h2 sc_14 rfl rfl rfl (fun cdv Ar outer s H E hr => d_14 A G fa cdv Ar outer s H E hr), bi_14 h2⟩),
    (let ⟨fa, fd, h1, h2⟩ := F.f28; ⟨fa, fd, h1, h2, fn_ok h2 sc_28 rfl rfl rfl (fun cdv Ar outer s H E hr => d_28 A G fa cdv Ar outer s H E hr), bi_28 h2⟩),
    (let ⟨fa, fd, h1, h2⟩ := F.f27; ⟨fa, fd, h1, h2, fn_ok h2 sc_27 rfl rfl rfl (fun cdv Ar outer s H E hr => d_27 A G fa cdv Ar outer s H E hr), bi_27 h2⟩),
    (let ⟨fa, fd, h1, h2⟩ := F.f68; ⟨fa, fd, h1, h2, fn_ok h2 sc_68 rfl rfl rfl (fun cdv Ar outer s H E hr => d_68 A G fa cdv Ar outer s H E hr), bi_68 h2⟩),
    (let ⟨fa, fd, h1, h2⟩ := F.f5; ⟨fa, fd, h1, h2, fn_ok h2 sc_5 rfl rfl rfl (fun cdv Ar outer s H E hr => d_5 A G fa cdv Ar outer s H E hr), bi_5 h2⟩),
    (let ⟨fa, fd, h1, h2⟩ := F.f4; ⟨fa, fd, h1, h2, fn_ok h2 sc_4 rfl rfl rfl (fun cdv Ar outer s H E hr => d_4 A G fa cdv Ar outer s H E hr), bi_4 h2⟩),
    (let ⟨fa, fd, h1, h2⟩ := F.f10; ⟨fa, fd, h1, h2, fn_ok h2 sc_10 rfl rfl rfl (fun cdv Ar outer s H E hr => d_10 A G fa cdv Ar outer s H E hr), bi_10 h2⟩),
    (let ⟨fa, fd, h1, h2⟩ := F.f8; ⟨fa, fd, h1, h2, fn_ok h2 sc_8 rfl rfl rfl (fun cdv Ar outer s H E hr => d_8 A G fa cdv Ar outer s H E hr), bi_8 h2⟩),
    (let ⟨fa, fd, h1, h2⟩ := F.f67; ⟨fa, fd, h1, h2, fn_ok h2 sc_67 rfl rfl rfl (fun cdv Ar outer s H E hr => d_67 A G fa cdv Ar outer s H E hr), bi_67 h2⟩),
    (let ⟨fa, fd, h1, h3⟩ := F.f156; ⟨fa, fd, h1, h3, fn_okA (fund_A h3) sc_156 rfl rfl rfl (fun cdv Ar outer s H E hr => d_156 A G fa cdv Ar outer s H E hr)⟩),
    (let ⟨fa, fd, h1, h2⟩ := F.f95; ⟨fa, fd, h1, h2, fn_ok h2 sc_95 rfl rfl rfl (fun cdv Ar outer s H E hr => d_95 A G fa cdv Ar outer s H E hr), bi_95 h2⟩),
    (let ⟨fa, fd, h1, h2⟩ := F.f148; ⟨fa, fd, h1, h2, fn_ok h2 sc_148 rfl rfl rfl (fun cdv Ar outer s H E hr => d_148 A G fa cdv Ar outer s H E hr), bi_148 h2⟩),
    (let ⟨fa, fd, h1, h2⟩ := F.f93; ⟨fa, fd, h1, h2, fn_ok h2 sc_93 rfl rfl rfl (fun cdv Ar outer s H E hr => d_93 A G fa cdv Ar outer s H E hr), bi_93 h2⟩),
    (let ⟨fa, fd, h1, h2⟩ := F.f147; ⟨fa, fd, h1, h2, fn_ok h2 sc_147 rfl rfl rfl (fun cdv Ar outer s H E hr => d_147 A G fa cdv Ar outer s H E hr), bi_147 h2⟩),
    (let ⟨fa, fd, h1, h2⟩ := F.f90; ⟨fa, fd, h1, h2, fn_ok h2 sc_90 rfl rfl rfl (fun cdv Ar outer s H E hr => d_90 A G fa cdv Ar outer s H E hr), bi_90 h2⟩),
    (let ⟨fa, fd, h1, h2⟩ := F.f89; ⟨fa, fd, h1, h2, fn_ok h2 sc_89 rfl rfl rfl (fun cdv Ar outer s H E hr => d_89 A G fa cdv Ar outer s H E hr), bi_89 h2⟩),
    (let ⟨fa, fd, h1, h2⟩ := F.f155; ⟨fa, fd, h1, h2, fn_ok h2 sc_155 rfl rfl rfl (fun cdv Ar outer s H E hr => d_155 A G fa cdv Ar outer s H E hr), bi_155 h2⟩),
    (let ⟨fa, fd, h1, h2⟩ := F.f153; ⟨fa, fd, h1, h2, fn_ok h2 sc_153 rfl rfl rfl (fun cdv Ar outer s H E hr => d_153 A G fa cdv Ar outer s H E hr), bi_153 h2⟩),
    (let ⟨fa, fd, h1, h2⟩ := F.f149; ⟨fa, fd, h1, h2, fn_ok h2 sc_149 rfl rfl rfl (fun cdv Ar outer s H E hr => d_149 A G fa cdv Ar outer s H E hr), bi_149 h2⟩),
    (let ⟨fa, fd, h1, h2⟩ := F.f91; ⟨fa, fd, h1, h2, fn_ok h2 sc_91 rfl rfl rfl (fun cdv Ar outer s H E hr => d_91 A G fa cdv Ar outer s H E hr), bi_91 h2⟩),
    (let ⟨fa, fd, h1, h2⟩ := F.f88; ⟨fa, fd, h1, h2, fn_ok h2 sc_88 rfl rfl rfl (fun cdv Ar outer s H E hr => d_88 A G fa cdv Ar outer s H E hr), bi_88 h2⟩),
    (let ⟨fa, fd, h1, h2⟩ := F.f92; ⟨fa, fd, h1, h2, fn_ok h2 sc_92 rfl rfl rfl (fun cdv Ar outer s H E hr => d_92 A G fa cdv Ar outer s H E hr), bi_92 h2⟩),
    (let ⟨fa, fd, h1, h2⟩ := F.f146; ⟨fa, fd, h1, h2, fn_ok h2 sc_146 rfl rfl rfl (fun cdv Ar outer s H E hr => d_146 A G fa cdv Ar outer s H E hr), bi_146 h2⟩),
    (let ⟨fa, fd, h1, h2⟩ := F.f154; ⟨fa, fd, h1, h2, fn_ok h2 sc_154 rfl rfl rfl (fun cdv Ar outer s H E hr => d_154 A G fa cdv Ar outer s H E hr), bi_154 h2⟩),
    (let ⟨fa, fd, h1, h2⟩ := F.f150; ⟨fa, fd, h1, h2, fn_ok h2 sc_150 rfl rfl rfl (fun cdv Ar outer s H E hr => d_150 A G fa cdv Ar outer s H E hr), bi_150 h2⟩),
    (let ⟨fa, fd, h1, h2⟩ := F.f152; ⟨fa, fd, h1, h2, fn_ok h2 sc_152 rfl rfl rfl (fun cdv Ar outer s H E hr => d_152 A G fa cdv Ar outer s H E hr), bi_152 h2⟩),
    (let ⟨fa, fd, h1, h2⟩ := F.f151; ⟨fa, fd, h1, h2, fn_ok h2 sc_151 rfl rfl rfl (fun cdv Ar outer s H E hr => d_151 A G fa cdv Ar outer s H E hr), bi_151 h2⟩),
    (let ⟨fa, fd, h1, h2⟩ := F.f98; ⟨fa, fd, h1, h2, fn_ok h2 sc_98 rfl rfl rfl (fun cdv Ar outer s H E hr => d_98 A G fa cdv Ar outer s H E hr), bi_98 h2⟩),
    (let ⟨fa, fd, h1, h2⟩ := F.f99; ⟨fa, fd, h1, h2, fn_ok h2 sc_99 rfl rfl rfl (fun cdv Ar outer s H E hr => d_99 A G fa cdv Ar outer s H E hr), bi_99 h2⟩),
    (let ⟨fa, fd, h1, h2⟩ := F.f100; ⟨fa, fd, h1, h2, fn_ok h2 sc_100 rfl rfl rfl (fun cdv Ar outer s H E hr => d_100 A G fa cdv Ar outer s H E hr), bi_100 h2⟩),
    (let ⟨fa, fd, h1, h2⟩ := F.f101; ⟨fa, fd, h1, h2, fn_ok h2 sc_101 rfl rfl rfl (fun cdv Ar outer s H E hr => d_101 A G fa cdv Ar outer s H E hr), bi_101 h2⟩),
    (let ⟨fa, fd, h1, h2⟩ := F.f102; ⟨fa, fd, h1, h2, fn_ok h2 sc_102 rfl rfl rfl (fun cdv Ar outer s H E hr => d_102 A G fa cdv Ar outer s H E hr), bi_102 h2⟩),
    (let ⟨fa, fd, h1, h2⟩ := F.f103; ⟨fa, fd, h1, h2, fn_ok h2 sc_103 rfl rfl rfl (fun cdv Ar outer s H E hr => d_103 A G fa cdv Ar outer s H E hr), bi_103 h2⟩),
    (let ⟨fa, fd, h1, h2⟩ := F.f104; ⟨fa, fd, h1, h2, fn_ok h2 sc_104 rfl rfl rfl (fun cdv Ar outer s H E hr => d_104 A G fa cdv Ar outer s H E hr), bi_104 h2⟩),
    (let ⟨fa, fd, h1, h2⟩ := F.f157; ⟨fa, fd, h1, h2, fn_ok h2 sc_157 rfl rfl rfl (fun cdv Ar outer s H E hr => d_157 A G fa cdv Ar outer s H E hr), bi_157 h2⟩),
    (let ⟨fa, fd, h1, h2⟩ := F.f105; ⟨fa, fd, h1, h2, fn_ok h2 sc_105 rfl rfl rfl (fun cdv Ar outer s H E hr => d_105 A G fa cdv Ar outer s H E hr), bi_105 h2⟩),
    (let ⟨fa, fd, h1, h2⟩ := F.f158; ⟨fa, fd, h1, h2, fn_ok h2 sc_158 rfl rfl rfl (fun cdv Ar outer s H E hr => d_158 A G fa cdv Ar outer s H E hr), bi_158 h2⟩),
    (let ⟨fa, fd, h1, h2⟩ := F.f159; ⟨fa, fd, h1, h2, fn_ok h2 sc_159 rfl rfl rfl (fun cdv Ar outer s H E hr => d_159 A G fa cdv Ar outer s H E hr), bi_159 h2⟩),
    (let ⟨fa, fd, h1, h2⟩ := F.f160; ⟨fa, fd, h1, h2, fn_ok h2 sc_160 rfl rfl rfl (fun cdv Ar outer s H E hr => d_160 A G fa cdv Ar outer s H E hr), bi_160 h2⟩),
    (let ⟨fa, fd, h1, h2⟩ := F.f106; ⟨fa, fd, h1, h2, fn_ok h2 sc_106 rfl rfl rfl (fun cdv Ar outer s H E hr => d_106 A G fa cdv Ar outer s H E hr), bi_106 h2⟩),
    (let ⟨fa, fd, h1, h2⟩ := F.f161; ⟨fa, fd, h1, h2, fn_ok h2 sc_161 rfl rfl rfl (fun cdv Ar outer s H E hr => d_161 A G fa cdv Ar outer s H E hr), bi_161 h2⟩),
    (let ⟨fa, fd, h1, h2⟩ := F.f162; ⟨fa, fd, h1, h2, fn_ok h2 sc_162 rfl rfl rfl (fun cdv Ar outer s H E hr => d_162 A G fa cdv Ar outer s H E hr), bi_162 h2⟩),
    (let ⟨fa, fd, h1, h2⟩ := F.f163; ⟨fa, fd, h1, h2, fn_ok h2 sc_163 rfl rfl rfl (fun cdv Ar outer s H E hr => d_163 A G fa cdv Ar outer s H E hr), bi_163 h2⟩),
    (let ⟨fa, fd, h1, h2⟩ := F.f164; ⟨fa, fd, h1, h2, fn_ok h2 sc_164 rfl rfl rfl (fun cdv Ar outer s H E hr => d_164 A G fa cdv Ar outer s H E hr), bi_164 h2⟩),
    (let ⟨fa, fd, h1, h2⟩ := F.f165; ⟨fa, fd, h1, h2, fn_ok h2 sc_165 rfl rfl rfl (fun cdv Ar outer s H E hr => d_165 A G fa cdv Ar outer s H E hr), bi_165 h2⟩),
    (let ⟨fa, fd, h1, h2⟩ := F.f166; ⟨fa, fd, h1, h2, fn_ok h2 sc_166 rfl rfl rfl (fun cdv Ar outer s H E hr => d_166 A G fa cdv Ar outer s H E hr), bi_166 h2⟩),
    (let ⟨fa, fd, h1, h2⟩ := F.f167; ⟨fa, fd, h1, h2, fn_ok h2 sc_167 rfl rfl rfl (fun cdv Ar outer s H E hr => d_167 A G fa cdv Ar outer s H E hr), bi_167 h2⟩),
    (let ⟨fa, fd, h1, h2⟩ := F.f168; ⟨fa, fd, h1, h2, fn_ok h2 sc_168 rfl rfl rfl (fun cdv Ar outer s H E hr => d_168 A G fa cdv Ar outer s H E hr), bi_168 h2⟩),
    (let ⟨fa, fd, h1, h2⟩ := F.f169; ⟨fa, fd, h1, h2, fn_ok h2 sc_169 rfl rfl rfl (fun cdv Ar outer s H E hr => d_169 A G fa cdv Ar outer s H E hr), bi_169 h2⟩),
    (let ⟨fa, fd, h1, h2⟩ := F.f170; ⟨fa, fd, h1, h2, fn_ok h2 sc_170 rfl rfl rfl (fun cdv Ar outer s H E hr => d_170 A G fa cdv Ar outer s H E hr), bi_170 h2⟩),
    (let ⟨fa, fd, h1, h2⟩ := F.f171; ⟨fa, fd, h1, h2, fn_ok h2 sc_171 rfl rfl rfl (fun cdv Ar outer s H E hr => d_171 A G fa cdv Ar outer s H E hr), bi_171 h2⟩),
    (let ⟨fa, fd, h1, h2⟩ := F.f172; ⟨fa, fd, h1, h2, fn_ok h2 sc_172 rfl rfl rfl (fun cdv Ar outer s H E hr => d_172 A G fa cdv Ar outer s H E hr), bi_172 h2⟩),
    (let ⟨fa, fd, h1, h2⟩ := F.f173; ⟨fa, fd, h1, h2, fn_ok h2 sc_173 rfl rfl rfl (fun cdv Ar outer s H E hr => d_173 A G fa cdv Ar outer s H E hr), bi_173 h2⟩)⟩
end
theorem all_mk {l : PySem.W.OpenLaw} {w : World} {K : PySem.W.Frag} {h : Heap} {mg : Str → Option Value} {fa f0 f1 f84 f2 f6 f85 f86 f12 f87 f65 f9 f11 f3 f14 f28 f27 f68 f5 f4 f10 f8 f67 f156 f95 f148 f93 f147 f90 f89 f155 f153 f149 f91 f88 f92 f146 f154 f150 f152 f151 f98 f99 f100 f101 f102 f103 f104 f157 f105 f158 f159 f160 f106 f161 f162 f163 f164 f165 f166 f167 f168 f169 f170 f171 f172 f173 : Addr} (X : K.In h) (G : h.Ns mainGlobals mg) (hfa : mg "law" = some (.ref fa))
    {od0 an0 od1 an1 od84 an84 od2 an2 od6 an6 od85 an85 od86 an86 od12 an12 od87 an87 od65 an65 od9 an9 od11 an11 od3 an3 od14 an14 od28 an28 od27 an27 od68 an68 od5 an5 od4 an4 od10 an10 od8 an8 od67 an67 od156 an156 od95 an95 od148 an148 od93 an93 od147 an147 od90 an90 od89 an89 od155 an155 od153 an153 od149 an149 od91 an91 od88 an88 od92 an92 od146 an146 od154 an154 od150 an150 od152 an152 od151 an151 od98 an98 od99 an99 od100 an100 od101 an101 od102 an102 od103 an103 od104 an104 od157 an157 od105 an105 od158 an158 od159 an159 od160 an160 od106 an106 od161 an161 od162 an162 od163 an163 od164 an164 od165 an165 od166 an166 od167 an167 od168 an168 od169 an169 od170 an170 od171 an171 od172 an172 od173 an173 : Option Addr} {sl0 sl1 sl84 sl2 sl6 sl85 sl86 sl12 sl87 sl65 sl9 sl11 sl3 sl14 sl28 sl27 sl68 sl5 sl4 sl10 sl8 sl67 sl156 sl95 sl148 sl93 sl147 sl90 sl89 sl155 sl153 sl149 sl91 sl88 sl92 sl146 sl154 sl150 sl152 sl151 sl98 sl99 sl100 sl101 sl102 sl103 sl104 sl157 sl105 sl158 sl159 sl160 sl106 sl161 sl162 sl163 sl164 sl165 sl166 sl167 sl168 sl169 sl170 sl171 sl172 sl173 : Array (Option Value)} {T156 : Addr} {oc0 kV0 dc0 pm0 cd0 ct0 oc1 kV1 dc1 pm1 cd1 ct1 oc84 kV84 dc84 pm84 cd84 ct84 oc2 kV2 dc2 pm2 cd2 ct2 oc6 kV6 dc6 pm6 cd6 ct6 oc85 kV85 dc85 pm85 cd85 ct85 oc86 kV86 dc86 pm86 cd86 ct86 oc12 kV12 dc12 pm12 cd12 ct12 oc87 kV87 dc87 pm87 cd87 ct87 oc65 kV65 dc65 pm65 cd65 ct65 oc9 kV9 dc9 pm9 cd9 ct9 oc11 kV11 dc11 pm11 cd11 ct11 oc3 kV3 dc3 pm3 cd3 ct3 oc14 kV14 dc14 pm14 cd14 ct14 oc28 kV28 dc28 pm28 cd28 ct28 oc27 kV27 dc27 pm27 cd27 ct27 oc68 kV68 dc68 pm68 cd68 ct68 oc5 kV5 dc5 pm5 cd5 ct5 oc4 kV4 dc4 pm4 cd4 ct4 oc10 kV10 dc10 pm10 cd10 ct10 oc8 kV8 dc8 pm8 cd8 ct8 oc67 kV67 dc67 pm67 cd67 ct67 oc156 kV156 dc156 pm156 cd156 ct156 oc95 kV95 dc95 pm95 cd95 ct95 oc148 kV148 dc148 pm148 cd148 ct148 oc93 kV93 dc93 pm93 cd93 ct93 oc147 kV147 dc147 pm147 cd147 ct147 oc90 kV90 dc90 pm90 cd90 ct90 oc89 kV89 dc89 pm89 cd89 ct89 oc155 kV155 dc155 pm155 cd155 ct155 oc153 kV153 dc153 pm153 cd153 ct153 oc149 kV149 dc149 pm149 cd149 ct149 oc91 kV91 dc91 pm91 cd91 ct91 oc88 kV88 dc88 pm88 cd88 ct88 oc92 kV92 dc92 pm92 cd92 ct92 oc146 kV146 dc146 pm146 cd146 ct146 oc154 kV154 dc154 pm154 cd154 ct154 oc150 kV150 dc150 pm150 cd150 ct150 oc152 kV152 dc152 pm152 cd152 ct152 oc151 kV151 dc151 pm151 cd151 ct151 oc98 kV98 dc98 pm98 cd98 ct98 oc99 kV99 dc99 pm99 cd99 ct99 oc100 kV100 dc100 pm100 cd100 ct100 oc101 kV101 dc101 pm101 cd101 ct101 oc102 kV102 dc102 pm102 cd102 ct102 oc103 kV103 dc103 pm103 cd103 ct103 oc104 kV104 dc104 pm104 cd104 ct104 oc157 kV157 dc157 pm157 cd157 ct157 oc105 kV105 dc105 pm105 cd105 ct105 oc158 kV158 dc158 pm158 cd158 ct158 oc159 kV159 dc159 pm159 cd159 ct159 oc160 kV160 dc160 pm160 cd160 ct160 oc106 kV106 dc106 pm106 cd106 ct106 oc161 kV161 dc161 pm161 cd161 ct161 oc162 kV162 dc162 pm162 cd162 ct162 oc163 kV163 dc163 pm163 cd163 ct163 oc164 kV164 dc164 pm164 cd164 ct164 oc165 kV165 dc165 pm165 cd165 ct165 oc166 kV166 dc166 pm166 cd166 ct166 oc167 kV167 dc167 pm167 cd167 ct167 oc168 kV168 dc168 pm168 cd168 ct168 oc169 kV169 dc169 pm169 cd169 ct169 oc170 kV170 dc170 pm170 cd170 ct170 oc171 kV171 dc171 pm171 cd171 ct171 oc172 kV172 dc172 pm172 cd172 ct172 oc173 kV173 dc173 pm173 cd173 ct173 : Value}
    (a0 : PySem.W.nsIn K mainGlobals "is_number" = some (some (.ref f0))) (l0 : K.lookup f0 = some ⟨oc0, od0, .func (PySem.W.fnOf "is_number" "is_number" (defArgs s_0) (defBody s_0) (defScope s_0) .none kV0 dc0 pm0 an0 cd0 ct0), sl0⟩) (c0 : PySem.W.codeIn K cd0 "is_number" = true) (k0 : PySem.W.keepIn K (.ref f0) = true)
    (a1 : PySem.W.nsIn K mainGlobals "is_pair" = some (some (.ref f1))) (l1 : K.lookup f1 = some ⟨oc1, od1, .func (PySem.W.fnOf "is_pair" "is_pair" (defArgs s_1) (defBody s_1) (defScope s_1) .none kV1 dc1 pm1 an1 cd1 ct1), sl1⟩) (c1 : PySem.W.codeIn K cd1 "is_pair" = true) (k1 : PySem.W.keepIn K (.ref f1) = true)
    (a84 : PySem.W.nsIn K mainGlobals "first_word" = some (some (.ref f84))) (l84 : K.lookup f84 = some ⟨oc84, od84, .func (PySem.W.fnOf "first_word" "first_word" (defArgs s_84) (defBody s_84) (defScope s_84) .none kV84 dc84 pm84 an84 cd84 ct84), sl84⟩) (c84 : PySem.W.codeIn K cd84 "first_word" = true) (k84 : PySem.W.keepIn K (.ref f84) = true)
    (a2 : PySem.W.nsIn K mainGlobals "check_number" = some (some (.ref f2))) (l2 : K.lookup f2 = some ⟨oc2, od2, .func (PySem.W.fnOf "check_number" "check_number" (defArgs s_2) (defBody s_2) (defScope s_2) .none kV2 dc2 pm2 an2 cd2 ct2), sl2⟩) (c2 : PySem.W.codeIn K cd2 "check_number" = true) (k2 : PySem.W.keepIn K (.ref f2) = true)
    (a6 : PySem.W.nsIn K mainGlobals "is_zone" = some (some (.ref f6))) (l6 : K.lookup f6 = some ⟨oc6, od6, .func (PySem.W.fnOf "is_zone" "is_zone" (defArgs s_6) (defBody s_6) (defScope s_6) .none kV6 dc6 pm6 an6 cd6 ct6), sl6⟩) (c6 : PySem.W.codeIn K cd6 "is_zone" = true) (k6 : PySem.W.keepIn K (.ref f6) = true)
    (a85 : PySem.W.nsIn K mainGlobals "is_zones" = some (some (.ref f85))) (l85 : K.lookup f85 = some ⟨oc85, od85, .func (PySem.W.fnOf "is_zones" "is_zones" (defArgs s_85) (defBody s_85) (defScope s_85) .none kV85 dc85 pm85 an85 cd85 ct85), sl85⟩) (c85 : PySem.W.codeIn K cd85 "is_zones" = true) (k85 : PySem.W.keepIn K (.ref f85) = true)
    (a86 : PySem.W.nsIn K mainGlobals "check_zones" = some (some (.ref f86))) (l86 : K.lookup f86 = some ⟨oc86, od86, .func (PySem.W.fnOf "check_zones" "check_zones" (defArgs s_86) (defBody s_86) (defScope s_86) .none kV86 dc86 pm86 an86 cd86 ct86), sl86⟩) (c86 : PySem.W.codeIn K cd86 "check_zones" = true) (k86 : PySem.W.keepIn K (.ref f86) = true)
    (a12 : PySem.W.nsIn K mainGlobals "fits_as_table" = some (some (.ref f12))) (l12 : K.lookup f12 = some ⟨oc12, od12, .func (PySem.W.fnOf "fits_as_table" "fits_as_table" (defArgs s_12) (defBody s_12) (defScope s_12) .none kV12 dc12 pm12 an12 cd12 ct12), sl12⟩) (c12 : PySem.W.codeIn K cd12 "fits_as_table" = true) (k12 : PySem.W.keepIn K (.ref f12) = true)
    (a87 : PySem.W.nsIn K mainGlobals "is_place" = some (some (.ref f87))) (l87 : K.lookup f87 = some ⟨oc87, od87, .func (PySem.W.fnOf "is_place" "is_place" (defArgs s_87) (defBody s_87) (defScope s_87) .none kV87 dc87 pm87 an87 cd87 ct87), sl87⟩) (c87 : PySem.W.codeIn K cd87 "is_place" = true) (k87 : PySem.W.keepIn K (.ref f87) = true)
    (a65 : PySem.W.nsIn K mainGlobals "is_rule" = some (some (.ref f65))) (l65 : K.lookup f65 = some ⟨oc65, od65, .func (PySem.W.fnOf "is_rule" "is_rule" (defArgs s_65) (defBody s_65) (defScope s_65) .none kV65 dc65 pm65 an65 cd65 ct65), sl65⟩) (c65 : PySem.W.codeIn K cd65 "is_rule" = true) (k65 : PySem.W.keepIn K (.ref f65) = true)
    (a9 : PySem.W.nsIn K mainGlobals "is_offset" = some (some (.ref f9))) (l9 : K.lookup f9 = some ⟨oc9, od9, .func (PySem.W.fnOf "is_offset" "is_offset" (defArgs s_9) (defBody s_9) (defScope s_9) .none kV9 dc9 pm9 an9 cd9 ct9), sl9⟩) (c9 : PySem.W.codeIn K cd9 "is_offset" = true) (k9 : PySem.W.keepIn K (.ref f9) = true)
    (a11 : PySem.W.nsIn K mainGlobals "are_marks" = some (some (.ref f11))) (l11 : K.lookup f11 = some ⟨oc11, od11, .func (PySem.W.fnOf "are_marks" "are_marks" (defArgs s_11) (defBody s_11) (defScope s_11) .none kV11 dc11 pm11 an11 cd11 ct11), sl11⟩) (c11 : PySem.W.codeIn K cd11 "are_marks" = true) (k11 : PySem.W.keepIn K (.ref f11) = true)
    (a3 : PySem.W.nsIn K mainGlobals "is_ascending" = some (some (.ref f3))) (l3 : K.lookup f3 = some ⟨oc3, od3, .func (PySem.W.fnOf "is_ascending" "is_ascending" (defArgs s_3) (defBody s_3) (defScope s_3) .none kV3 dc3 pm3 an3 cd3 ct3), sl3⟩) (c3 : PySem.W.codeIn K cd3 "is_ascending" = true) (k3 : PySem.W.keepIn K (.ref f3) = true)
    (a14 : PySem.W.nsIn K mainGlobals "held_offset" = some (some (.ref f14))) (l14 : K.lookup f14 = some ⟨oc14, od14, .func (PySem.W.fnOf "held_offset" "held_offset" (defArgs s_14) (defBody s_14) (defScope s_14) .none kV14 dc14 pm14 an14 cd14 ct14), sl14⟩) (c14 : PySem.W.codeIn K cd14 "held_offset" = true) (k14 : PySem.W.keepIn K (.ref f14) = true)
    (a28 : PySem.W.nsIn K mainGlobals "moments_to_look_at" = some (some (.ref f28))) (l28 : K.lookup f28 = some ⟨oc28, od28, .func (PySem.W.fnOf "moments_to_look_at" "moments_to_look_at" (defArgs s_28) (defBody s_28) (defScope s_28) .none kV28 dc28 pm28 an28 cd28 ct28), sl28⟩) (c28 : PySem.W.codeIn K cd28 "moments_to_look_at" = true) (k28 : PySem.W.keepIn K (.ref f28) = true)
    (a27 : PySem.W.nsIn K mainGlobals "matching_moments" = some (some (.ref f27))) (l27 : K.lookup f27 = some ⟨oc27, od27, .func (PySem.W.fnOf "matching_moments" "matching_moments" (defArgs s_27) (defBody s_27) (defScope s_27) .none kV27 dc27 pm27 an27 cd27 ct27), sl27⟩) (c27 : PySem.W.codeIn K cd27 "matching_moments" = true) (k27 : PySem.W.keepIn K (.ref f27) = true)
    (a68 : PySem.W.nsIn K mainGlobals "found_moment" = some (some (.ref f68))) (l68 : K.lookup f68 = some ⟨oc68, od68, .func (PySem.W.fnOf "found_moment" "found_moment" (defArgs s_68) (defBody s_68) (defScope s_68) .none kV68 dc68 pm68 an68 cd68 ct68), sl68⟩) (c68 : PySem.W.codeIn K cd68 "found_moment" = true) (k68 : PySem.W.keepIn K (.ref f68) = true)
    (a5 : PySem.W.nsIn K mainGlobals "_are_offsets" = some (some (.ref f5))) (l5 : K.lookup f5 = some ⟨oc5, od5, .func (PySem.W.fnOf "_are_offsets" "_are_offsets" (defArgs s_5) (defBody s_5) (defScope s_5) .none kV5 dc5 pm5 an5 cd5 ct5), sl5⟩) (c5 : PySem.W.codeIn K cd5 "_are_offsets" = true) (k5 : PySem.W.keepIn K (.ref f5) = true)
    (a4 : PySem.W.nsIn K mainGlobals "_is_near" = some (some (.ref f4))) (l4 : K.lookup f4 = some ⟨oc4, od4, .func (PySem.W.fnOf "_is_near" "_is_near" (defArgs s_4) (defBody s_4) (defScope s_4) .none kV4 dc4 pm4 an4 cd4 ct4), sl4⟩) (c4 : PySem.W.codeIn K cd4 "_is_near" = true) (k4 : PySem.W.keepIn K (.ref f4) = true)
    (a10 : PySem.W.nsIn K mainGlobals "_is_mark" = some (some (.ref f10))) (l10 : K.lookup f10 = some ⟨oc10, od10, .func (PySem.W.fnOf "_is_mark" "_is_mark" (defArgs s_10) (defBody s_10) (defScope s_10) .none kV10 dc10 pm10 an10 cd10 ct10), sl10⟩) (c10 : PySem.W.codeIn K cd10 "_is_mark" = true) (k10 : PySem.W.keepIn K (.ref f10) = true)
    (a8 : PySem.W.nsIn K mainGlobals "_are_jumps" = some (some (.ref f8))) (l8 : K.lookup f8 = some ⟨oc8, od8, .func (PySem.W.fnOf "_are_jumps" "_are_jumps" (defArgs s_8) (defBody s_8) (defScope s_8) .none kV8 dc8 pm8 an8 cd8 ct8), sl8⟩) (c8 : PySem.W.codeIn K cd8 "_are_jumps" = true) (k8 : PySem.W.keepIn K (.ref f8) = true)
    (a67 : PySem.W.nsIn K mainGlobals "_chosen" = some (some (.ref f67))) (l67 : K.lookup f67 = some ⟨oc67, od67, .func (PySem.W.fnOf "_chosen" "_chosen" (defArgs s_67) (defBody s_67) (defScope s_67) .none kV67 dc67 pm67 an67 cd67 ct67), sl67⟩) (c67 : PySem.W.codeIn K cd67 "_chosen" = true) (k67 : PySem.W.keepIn K (.ref f67) = true)
    (a156 : PySem.W.nsIn K mainGlobals "run" = some (some (.ref f156))) (l156 : K.lookup f156 = some ⟨oc156, od156, .func (PySem.W.fnOf "run" "run" (defArgs s_156) (defBody s_156) (defScope s_156) (.ref T156) kV156 dc156 pm156 an156 cd156 ct156), sl156⟩) (c156 : PySem.W.codeIn K cd156 "run" = true) (k156 : PySem.W.keepIn K (.ref f156) = true)
    {te156_0 : Tok} {oe156 : Option Addr} {ne156 : Nat} {se156 : Array (Option Value)} (e156 : K.lookup T156 = some ⟨.type "tuple", oe156, .seq #[.int 0 te156_0] ne156, se156⟩)
    (a95 : PySem.W.nsIn K mainGlobals "check_program" = some (some (.ref f95))) (l95 : K.lookup f95 = some ⟨oc95, od95, .func (PySem.W.fnOf "check_program" "check_program" (defArgs s_95) (defBody s_95) (defScope s_95) .none kV95 dc95 pm95 an95 cd95 ct95), sl95⟩) (c95 : PySem.W.codeIn K cd95 "check_program" = true) (k95 : PySem.W.keepIn K (.ref f95) = true)
    (a148 : PySem.W.nsIn K mainGlobals "check_world" = some (some (.ref f148))) (l148 : K.lookup f148 = some ⟨oc148, od148, .func (PySem.W.fnOf "check_world" "check_world" (defArgs s_148) (defBody s_148) (defScope s_148) .none kV148 dc148 pm148 an148 cd148 ct148), sl148⟩) (c148 : PySem.W.codeIn K cd148 "check_world" = true) (k148 : PySem.W.keepIn K (.ref f148) = true)
    (a93 : PySem.W.nsIn K mainGlobals "fits_as_program" = some (some (.ref f93))) (l93 : K.lookup f93 = some ⟨oc93, od93, .func (PySem.W.fnOf "fits_as_program" "fits_as_program" (defArgs s_93) (defBody s_93) (defScope s_93) .none kV93 dc93 pm93 an93 cd93 ct93), sl93⟩) (c93 : PySem.W.codeIn K cd93 "fits_as_program" = true) (k93 : PySem.W.keepIn K (.ref f93) = true)
    (a147 : PySem.W.nsIn K mainGlobals "fits_as_world" = some (some (.ref f147))) (l147 : K.lookup f147 = some ⟨oc147, od147, .func (PySem.W.fnOf "fits_as_world" "fits_as_world" (defArgs s_147) (defBody s_147) (defScope s_147) .none kV147 dc147 pm147 an147 cd147 ct147), sl147⟩) (c147 : PySem.W.codeIn K cd147 "fits_as_world" = true) (k147 : PySem.W.keepIn K (.ref f147) = true)
    (a90 : PySem.W.nsIn K mainGlobals "fits_step_role" = some (some (.ref f90))) (l90 : K.lookup f90 = some ⟨oc90, od90, .func (PySem.W.fnOf "fits_step_role" "fits_step_role" (defArgs s_90) (defBody s_90) (defScope s_90) .none kV90 dc90 pm90 an90 cd90 ct90), sl90⟩) (c90 : PySem.W.codeIn K cd90 "fits_step_role" = true) (k90 : PySem.W.keepIn K (.ref f90) = true)
    (a89 : PySem.W.nsIn K mainGlobals "is_time" = some (some (.ref f89))) (l89 : K.lookup f89 = some ⟨oc89, od89, .func (PySem.W.fnOf "is_time" "is_time" (defArgs s_89) (defBody s_89) (defScope s_89) .none kV89 dc89 pm89 an89 cd89 ct89), sl89⟩) (c89 : PySem.W.codeIn K cd89 "is_time" = true) (k89 : PySem.W.keepIn K (.ref f89) = true)
    (a155 : PySem.W.nsIn K mainGlobals "looked_at" = some (some (.ref f155))) (l155 : K.lookup f155 = some ⟨oc155, od155, .func (PySem.W.fnOf "looked_at" "looked_at" (defArgs s_155) (defBody s_155) (defScope s_155) .none kV155 dc155 pm155 an155 cd155 ct155), sl155⟩) (c155 : PySem.W.codeIn K cd155 "looked_at" = true) (k155 : PySem.W.keepIn K (.ref f155) = true)
    (a153 : PySem.W.nsIn K mainGlobals "edition_moment" = some (some (.ref f153))) (l153 : K.lookup f153 = some ⟨oc153, od153, .func (PySem.W.fnOf "edition_moment" "edition_moment" (defArgs s_153) (defBody s_153) (defScope s_153) .none kV153 dc153 pm153 an153 cd153 ct153), sl153⟩) (c153 : PySem.W.codeIn K cd153 "edition_moment" = true) (k153 : PySem.W.keepIn K (.ref f153) = true)
    (a149 : PySem.W.nsIn K mainGlobals "made_value" = some (some (.ref f149))) (l149 : K.lookup f149 = some ⟨oc149, od149, .func (PySem.W.fnOf "made_value" "made_value" (defArgs s_149) (defBody s_149) (defScope s_149) .none kV149 dc149 pm149 an149 cd149 ct149), sl149⟩) (c149 : PySem.W.codeIn K cd149 "made_value" = true) (k149 : PySem.W.keepIn K (.ref f149) = true)
    (a91 : PySem.W.nsIn K mainGlobals "_is_step" = some (some (.ref f91))) (l91 : K.lookup f91 = some ⟨oc91, od91, .func (PySem.W.fnOf "_is_step" "_is_step" (defArgs s_91) (defBody s_91) (defScope s_91) .none kV91 dc91 pm91 an91 cd91 ct91), sl91⟩) (c91 : PySem.W.codeIn K cd91 "_is_step" = true) (k91 : PySem.W.keepIn K (.ref f91) = true)
    (a88 : PySem.W.nsIn K mainGlobals "_is_index" = some (some (.ref f88))) (l88 : K.lookup f88 = some ⟨oc88, od88, .func (PySem.W.fnOf "_is_index" "_is_index" (defArgs s_88) (defBody s_88) (defScope s_88) .none kV88 dc88 pm88 an88 cd88 ct88), sl88⟩) (c88 : PySem.W.codeIn K cd88 "_is_index" = true) (k88 : PySem.W.keepIn K (.ref f88) = true)
    (a92 : PySem.W.nsIn K mainGlobals "_made_kind" = some (some (.ref f92))) (l92 : K.lookup f92 = some ⟨oc92, od92, .func (PySem.W.fnOf "_made_kind" "_made_kind" (defArgs s_92) (defBody s_92) (defScope s_92) .none kV92 dc92 pm92 an92 cd92 ct92), sl92⟩) (c92 : PySem.W.codeIn K cd92 "_made_kind" = true) (k92 : PySem.W.keepIn K (.ref f92) = true)
    (a146 : PySem.W.nsIn K mainGlobals "_are_tables" = some (some (.ref f146))) (l146 : K.lookup f146 = some ⟨oc146, od146, .func (PySem.W.fnOf "_are_tables" "_are_tables" (defArgs s_146) (defBody s_146) (defScope s_146) .none kV146 dc146 pm146 an146 cd146 ct146), sl146⟩) (c146 : PySem.W.codeIn K cd146 "_are_tables" = true) (k146 : PySem.W.keepIn K (.ref f146) = true)
    (a154 : PySem.W.nsIn K mainGlobals "_moments_of_step" = some (some (.ref f154))) (l154 : K.lookup f154 = some ⟨oc154, od154, .func (PySem.W.fnOf "_moments_of_step" "_moments_of_step" (defArgs s_154) (defBody s_154) (defScope s_154) .none kV154 dc154 pm154 an154 cd154 ct154), sl154⟩) (c154 : PySem.W.codeIn K cd154 "_moments_of_step" = true) (k154 : PySem.W.keepIn K (.ref f154) = true)
    (a150 : PySem.W.nsIn K mainGlobals "_looks_in" = some (some (.ref f150))) (l150 : K.lookup f150 = some ⟨oc150, od150, .func (PySem.W.fnOf "_looks_in" "_looks_in" (defArgs s_150) (defBody s_150) (defScope s_150) .none kV150 dc150 pm150 an150 cd150 ct150), sl150⟩) (c150 : PySem.W.codeIn K cd150 "_looks_in" = true) (k150 : PySem.W.keepIn K (.ref f150) = true)
    (a152 : PySem.W.nsIn K mainGlobals "_suits" = some (some (.ref f152))) (l152 : K.lookup f152 = some ⟨oc152, od152, .func (PySem.W.fnOf "_suits" "_suits" (defArgs s_152) (defBody s_152) (defScope s_152) .none kV152 dc152 pm152 an152 cd152 ct152), sl152⟩) (c152 : PySem.W.codeIn K cd152 "_suits" = true) (k152 : PySem.W.keepIn K (.ref f152) = true)
    (a151 : PySem.W.nsIn K mainGlobals "_ahead_of" = some (some (.ref f151))) (l151 : K.lookup f151 = some ⟨oc151, od151, .func (PySem.W.fnOf "_ahead_of" "_ahead_of" (defArgs s_151) (defBody s_151) (defScope s_151) .none kV151 dc151 pm151 an151 cd151 ct151), sl151⟩) (c151 : PySem.W.codeIn K cd151 "_ahead_of" = true) (k151 : PySem.W.keepIn K (.ref f151) = true)
    (a98 : PySem.W.nsIn K mainGlobals "_law_bag_of" = some (some (.ref f98))) (l98 : K.lookup f98 = some ⟨oc98, od98, .func (PySem.W.fnOf "_law_bag_of" "_law_bag_of" (defArgs s_98) (defBody s_98) (defScope s_98) .none kV98 dc98 pm98 an98 cd98 ct98), sl98⟩) (c98 : PySem.W.codeIn K cd98 "_law_bag_of" = true) (k98 : PySem.W.keepIn K (.ref f98) = true)
    (a99 : PySem.W.nsIn K mainGlobals "_law_pick" = some (some (.ref f99))) (l99 : K.lookup f99 = some ⟨oc99, od99, .func (PySem.W.fnOf "_law_pick" "_law_pick" (defArgs s_99) (defBody s_99) (defScope s_99) .none kV99 dc99 pm99 an99 cd99 ct99), sl99⟩) (c99 : PySem.W.codeIn K cd99 "_law_pick" = true) (k99 : PySem.W.keepIn K (.ref f99) = true)
    (a100 : PySem.W.nsIn K mainGlobals "_law_any_belt" = some (some (.ref f100))) (l100 : K.lookup f100 = some ⟨oc100, od100, .func (PySem.W.fnOf "_law_any_belt" "_law_any_belt" (defArgs s_100) (defBody s_100) (defScope s_100) .none kV100 dc100 pm100 an100 cd100 ct100), sl100⟩) (c100 : PySem.W.codeIn K cd100 "_law_any_belt" = true) (k100 : PySem.W.keepIn K (.ref f100) = true)
    (a101 : PySem.W.nsIn K mainGlobals "_law_any_belts" = some (some (.ref f101))) (l101 : K.lookup f101 = some ⟨oc101, od101, .func (PySem.W.fnOf "_law_any_belts" "_law_any_belts" (defArgs s_101) (defBody s_101) (defScope s_101) .none kV101 dc101 pm101 an101 cd101 ct101), sl101⟩) (c101 : PySem.W.codeIn K cd101 "_law_any_belts" = true) (k101 : PySem.W.keepIn K (.ref f101) = true)
    (a102 : PySem.W.nsIn K mainGlobals "_law_same" = some (some (.ref f102))) (l102 : K.lookup f102 = some ⟨oc102, od102, .func (PySem.W.fnOf "_law_same" "_law_same" (defArgs s_102) (defBody s_102) (defScope s_102) .none kV102 dc102 pm102 an102 cd102 ct102), sl102⟩) (c102 : PySem.W.codeIn K cd102 "_law_same" = true) (k102 : PySem.W.keepIn K (.ref f102) = true)
    (a103 : PySem.W.nsIn K mainGlobals "_law_spot" = some (some (.ref f103))) (l103 : K.lookup f103 = some ⟨oc103, od103, .func (PySem.W.fnOf "_law_spot" "_law_spot" (defArgs s_103) (defBody s_103) (defScope s_103) .none kV103 dc103 pm103 an103 cd103 ct103), sl103⟩) (c103 : PySem.W.codeIn K cd103 "_law_spot" = true) (k103 : PySem.W.keepIn K (.ref f103) = true)
    (a104 : PySem.W.nsIn K mainGlobals "_law_minutes" = some (some (.ref f104))) (l104 : K.lookup f104 = some ⟨oc104, od104, .func (PySem.W.fnOf "_law_minutes" "_law_minutes" (defArgs s_104) (defBody s_104) (defScope s_104) .none kV104 dc104 pm104 an104 cd104 ct104), sl104⟩) (c104 : PySem.W.codeIn K cd104 "_law_minutes" = true) (k104 : PySem.W.keepIn K (.ref f104) = true)
    (a157 : PySem.W.nsIn K mainGlobals "_law_next_words" = some (some (.ref f157))) (l157 : K.lookup f157 = some ⟨oc157, od157, .func (PySem.W.fnOf "_law_next_words" "_law_next_words" (defArgs s_157) (defBody s_157) (defScope s_157) .none kV157 dc157 pm157 an157 cd157 ct157), sl157⟩) (c157 : PySem.W.codeIn K cd157 "_law_next_words" = true) (k157 : PySem.W.keepIn K (.ref f157) = true)
    (a105 : PySem.W.nsIn K mainGlobals "_law_any_rules" = some (some (.ref f105))) (l105 : K.lookup f105 = some ⟨oc105, od105, .func (PySem.W.fnOf "_law_any_rules" "_law_any_rules" (defArgs s_105) (defBody s_105) (defScope s_105) .none kV105 dc105 pm105 an105 cd105 ct105), sl105⟩) (c105 : PySem.W.codeIn K cd105 "_law_any_rules" = true) (k105 : PySem.W.keepIn K (.ref f105) = true)
    (a158 : PySem.W.nsIn K mainGlobals "_law_any_deed" = some (some (.ref f158))) (l158 : K.lookup f158 = some ⟨oc158, od158, .func (PySem.W.fnOf "_law_any_deed" "_law_any_deed" (defArgs s_158) (defBody s_158) (defScope s_158) .none kV158 dc158 pm158 an158 cd158 ct158), sl158⟩) (c158 : PySem.W.codeIn K cd158 "_law_any_deed" = true) (k158 : PySem.W.keepIn K (.ref f158) = true)
    (a159 : PySem.W.nsIn K mainGlobals "_law_kind_made" = some (some (.ref f159))) (l159 : K.lookup f159 = some ⟨oc159, od159, .func (PySem.W.fnOf "_law_kind_made" "_law_kind_made" (defArgs s_159) (defBody s_159) (defScope s_159) .none kV159 dc159 pm159 an159 cd159 ct159), sl159⟩) (c159 : PySem.W.codeIn K cd159 "_law_kind_made" = true) (k159 : PySem.W.keepIn K (.ref f159) = true)
    (a160 : PySem.W.nsIn K mainGlobals "_law_kind_row" = some (some (.ref f160))) (l160 : K.lookup f160 = some ⟨oc160, od160, .func (PySem.W.fnOf "_law_kind_row" "_law_kind_row" (defArgs s_160) (defBody s_160) (defScope s_160) .none kV160 dc160 pm160 an160 cd160 ct160), sl160⟩) (c160 : PySem.W.codeIn K cd160 "_law_kind_row" = true) (k160 : PySem.W.keepIn K (.ref f160) = true)
    (a106 : PySem.W.nsIn K mainGlobals "_law_less_room" = some (some (.ref f106))) (l106 : K.lookup f106 = some ⟨oc106, od106, .func (PySem.W.fnOf "_law_less_room" "_law_less_room" (defArgs s_106) (defBody s_106) (defScope s_106) .none kV106 dc106 pm106 an106 cd106 ct106), sl106⟩) (c106 : PySem.W.codeIn K cd106 "_law_less_room" = true) (k106 : PySem.W.keepIn K (.ref f106) = true)
    (a161 : PySem.W.nsIn K mainGlobals "_law_longer_plan" = some (some (.ref f161))) (l161 : K.lookup f161 = some ⟨oc161, od161, .func (PySem.W.fnOf "_law_longer_plan" "_law_longer_plan" (defArgs s_161) (defBody s_161) (defScope s_161) .none kV161 dc161 pm161 an161 cd161 ct161), sl161⟩) (c161 : PySem.W.codeIn K cd161 "_law_longer_plan" = true) (k161 : PySem.W.keepIn K (.ref f161) = true)
    (a162 : PySem.W.nsIn K mainGlobals "_law_any_plan" = some (some (.ref f162))) (l162 : K.lookup f162 = some ⟨oc162, od162, .func (PySem.W.fnOf "_law_any_plan" "_law_any_plan" (defArgs s_162) (defBody s_162) (defScope s_162) .none kV162 dc162 pm162 an162 cd162 ct162), sl162⟩) (c162 : PySem.W.codeIn K cd162 "_law_any_plan" = true) (k162 : PySem.W.keepIn K (.ref f162) = true)
    (a163 : PySem.W.nsIn K mainGlobals "_law_holds" = some (some (.ref f163))) (l163 : K.lookup f163 = some ⟨oc163, od163, .func (PySem.W.fnOf "_law_holds" "_law_holds" (defArgs s_163) (defBody s_163) (defScope s_163) .none kV163 dc163 pm163 an163 cd163 ct163), sl163⟩) (c163 : PySem.W.codeIn K cd163 "_law_holds" = true) (k163 : PySem.W.keepIn K (.ref f163) = true)
    (a164 : PySem.W.nsIn K mainGlobals "_law_searched" = some (some (.ref f164))) (l164 : K.lookup f164 = some ⟨oc164, od164, .func (PySem.W.fnOf "_law_searched" "_law_searched" (defArgs s_164) (defBody s_164) (defScope s_164) .none kV164 dc164 pm164 an164 cd164 ct164), sl164⟩) (c164 : PySem.W.codeIn K cd164 "_law_searched" = true) (k164 : PySem.W.keepIn K (.ref f164) = true)
    (a165 : PySem.W.nsIn K mainGlobals "_law_asked_at" = some (some (.ref f165))) (l165 : K.lookup f165 = some ⟨oc165, od165, .func (PySem.W.fnOf "_law_asked_at" "_law_asked_at" (defArgs s_165) (defBody s_165) (defScope s_165) .none kV165 dc165 pm165 an165 cd165 ct165), sl165⟩) (c165 : PySem.W.codeIn K cd165 "_law_asked_at" = true) (k165 : PySem.W.keepIn K (.ref f165) = true)
    (a166 : PySem.W.nsIn K mainGlobals "_law_worth_made" = some (some (.ref f166))) (l166 : K.lookup f166 = some ⟨oc166, od166, .func (PySem.W.fnOf "_law_worth_made" "_law_worth_made" (defArgs s_166) (defBody s_166) (defScope s_166) .none kV166 dc166 pm166 an166 cd166 ct166), sl166⟩) (c166 : PySem.W.codeIn K cd166 "_law_worth_made" = true) (k166 : PySem.W.keepIn K (.ref f166) = true)
    (a167 : PySem.W.nsIn K mainGlobals "_law_agree" = some (some (.ref f167))) (l167 : K.lookup f167 = some ⟨oc167, od167, .func (PySem.W.fnOf "_law_agree" "_law_agree" (defArgs s_167) (defBody s_167) (defScope s_167) .none kV167 dc167 pm167 an167 cd167 ct167), sl167⟩) (c167 : PySem.W.codeIn K cd167 "_law_agree" = true) (k167 : PySem.W.keepIn K (.ref f167) = true)
    (a168 : PySem.W.nsIn K mainGlobals "_law_follow" = some (some (.ref f168))) (l168 : K.lookup f168 = some ⟨oc168, od168, .func (PySem.W.fnOf "_law_follow" "_law_follow" (defArgs s_168) (defBody s_168) (defScope s_168) .none kV168 dc168 pm168 an168 cd168 ct168), sl168⟩) (c168 : PySem.W.codeIn K cd168 "_law_follow" = true) (k168 : PySem.W.keepIn K (.ref f168) = true)
    (a169 : PySem.W.nsIn K mainGlobals "_law_any_chart" = some (some (.ref f169))) (l169 : K.lookup f169 = some ⟨oc169, od169, .func (PySem.W.fnOf "_law_any_chart" "_law_any_chart" (defArgs s_169) (defBody s_169) (defScope s_169) .none kV169 dc169 pm169 an169 cd169 ct169), sl169⟩) (c169 : PySem.W.codeIn K cd169 "_law_any_chart" = true) (k169 : PySem.W.keepIn K (.ref f169) = true)
    (a170 : PySem.W.nsIn K mainGlobals "_law_any_later" = some (some (.ref f170))) (l170 : K.lookup f170 = some ⟨oc170, od170, .func (PySem.W.fnOf "_law_any_later" "_law_any_later" (defArgs s_170) (defBody s_170) (defScope s_170) .none kV170 dc170 pm170 an170 cd170 ct170), sl170⟩) (c170 : PySem.W.codeIn K cd170 "_law_any_later" = true) (k170 : PySem.W.keepIn K (.ref f170) = true)
    (a171 : PySem.W.nsIn K mainGlobals "_law_any_origin" = some (some (.ref f171))) (l171 : K.lookup f171 = some ⟨oc171, od171, .func (PySem.W.fnOf "_law_any_origin" "_law_any_origin" (defArgs s_171) (defBody s_171) (defScope s_171) .none kV171 dc171 pm171 an171 cd171 ct171), sl171⟩) (c171 : PySem.W.codeIn K cd171 "_law_any_origin" = true) (k171 : PySem.W.keepIn K (.ref f171) = true)
    (a172 : PySem.W.nsIn K mainGlobals "_law_any_earth" = some (some (.ref f172))) (l172 : K.lookup f172 = some ⟨oc172, od172, .func (PySem.W.fnOf "_law_any_earth" "_law_any_earth" (defArgs s_172) (defBody s_172) (defScope s_172) .none kV172 dc172 pm172 an172 cd172 ct172), sl172⟩) (c172 : PySem.W.codeIn K cd172 "_law_any_earth" = true) (k172 : PySem.W.keepIn K (.ref f172) = true)
    (a173 : PySem.W.nsIn K mainGlobals "law" = some (some (.ref f173))) (l173 : K.lookup f173 = some ⟨oc173, od173, .func (PySem.W.fnOf "law" "law" (defArgs s_173) (defBody s_173) (defScope s_173) .none kV173 dc173 pm173 an173 cd173 ct173), sl173⟩) (c173 : PySem.W.codeIn K cd173 "law" = true) (k173 : PySem.W.keepIn K (.ref f173) = true)
    (n_all : PySem.W.nsIn K mainGlobals "all" = some none)
    (n_bool : PySem.W.nsIn K mainGlobals "bool" = some none)
    (n_enumerate : PySem.W.nsIn K mainGlobals "enumerate" = some none)
    (n_int : PySem.W.nsIn K mainGlobals "int" = some none)
    (n_isinstance : PySem.W.nsIn K mainGlobals "isinstance" = some none)
    (n_len : PySem.W.nsIn K mainGlobals "len" = some none)
    (n_list : PySem.W.nsIn K mainGlobals "list" = some none)
    (n_max : PySem.W.nsIn K mainGlobals "max" = some none)
    (n_min : PySem.W.nsIn K mainGlobals "min" = some none)
    (n_range : PySem.W.nsIn K mainGlobals "range" = some none)
    (n_repr : PySem.W.nsIn K mainGlobals "repr" = some none)
    (n_str : PySem.W.nsIn K mainGlobals "str" = some none)
    (n_sum : PySem.W.nsIn K mainGlobals "sum" = some none)
    (n_tuple : PySem.W.nsIn K mainGlobals "tuple" = some none)
    (n_zip : PySem.W.nsIn K mainGlobals "zip" = some none)
    {t_MOST_SPACING : Tok} (c_MOST_SPACING : PySem.W.nsIn K mainGlobals "MOST_SPACING" = some (some (.int 1000000 t_MOST_SPACING)))
    {t_MOST_ZONES : Tok} (c_MOST_ZONES : PySem.W.nsIn K mainGlobals "MOST_ZONES" = some (some (.int 2 t_MOST_ZONES)))
    {a_GAP_RULES : Addr} {t_GAP_RULES0 t_GAP_RULES1 t_GAP_RULES2 : Tok} {od_GAP_RULES : Option Addr} {n_GAP_RULES : Nat} {sl_GAP_RULES : Array (Option Value)} (c_GAP_RULES : PySem.W.nsIn K mainGlobals "GAP_RULES" = some (some (.ref a_GAP_RULES))) (l_GAP_RULES : K.lookup a_GAP_RULES = some ⟨.type "tuple", od_GAP_RULES, .seq #[.str "ahead" t_GAP_RULES0, .str "behind" t_GAP_RULES1, .str "refuse" t_GAP_RULES2] n_GAP_RULES, sl_GAP_RULES⟩)
    {a_FOLD_RULES : Addr} {t_FOLD_RULES0 t_FOLD_RULES1 t_FOLD_RULES2 : Tok} {od_FOLD_RULES : Option Addr} {n_FOLD_RULES : Nat} {sl_FOLD_RULES : Array (Option Value)} (c_FOLD_RULES : PySem.W.nsIn K mainGlobals "FOLD_RULES" = some (some (.ref a_FOLD_RULES))) (l_FOLD_RULES : K.lookup a_FOLD_RULES = some ⟨.type "tuple", od_FOLD_RULES, .seq #[.str "early" t_FOLD_RULES0, .str "late" t_FOLD_RULES1, .str "refuse" t_FOLD_RULES2] n_FOLD_RULES, sl_FOLD_RULES⟩)
    {t_MOST_OFFSETS : Tok} (c_MOST_OFFSETS : PySem.W.nsIn K mainGlobals "MOST_OFFSETS" = some (some (.int 3 t_MOST_OFFSETS)))
    {t_FARTHEST_OFFSET : Tok} (c_FARTHEST_OFFSET : PySem.W.nsIn K mainGlobals "FARTHEST_OFFSET" = some (some (.int 900 t_FARTHEST_OFFSET)))
    {t_MOST_STEPS : Tok} (c_MOST_STEPS : PySem.W.nsIn K mainGlobals "MOST_STEPS" = some (some (.int 8 t_MOST_STEPS)))
    {t_FARTHEST_MINUTES : Tok} (c_FARTHEST_MINUTES : PySem.W.nsIn K mainGlobals "FARTHEST_MINUTES" = some (some (.int 100000 t_FARTHEST_MINUTES)))
    {a_STEP_ROLES : Addr} {n_STEP_ROLES : Nat} {h_STEP_ROLES0 : Int} {t_STEP_ROLES0 : Tok} {u_STEP_ROLES0 : Addr} {od_STEP_ROLES0 : Option Addr} {n_STEP_ROLES0 : Nat} {sl_STEP_ROLES0 : Array (Option Value)} {s_STEP_ROLES0_0 : Tok} {s_STEP_ROLES0_1 : Tok} {h_STEP_ROLES1 : Int} {t_STEP_ROLES1 : Tok} {u_STEP_ROLES1 : Addr} {od_STEP_ROLES1 : Option Addr} {n_STEP_ROLES1 : Nat} {sl_STEP_ROLES1 : Array (Option Value)} {s_STEP_ROLES1_0 : Tok} {s_STEP_ROLES1_1 : Tok} {s_STEP_ROLES1_2 : Tok} {s_STEP_ROLES1_3 : Tok} {h_STEP_ROLES2 : Int} {t_STEP_ROLES2 : Tok} {u_STEP_ROLES2 : Addr} {od_STEP_ROLES2 : Option Addr} {n_STEP_ROLES2 : Nat} {sl_STEP_ROLES2 : Array (Option Value)} {s_STEP_ROLES2_0 : Tok} {s_STEP_ROLES2_1 : Tok} {h_STEP_ROLES3 : Int} {t_STEP_ROLES3 : Tok} {u_STEP_ROLES3 : Addr} {od_STEP_ROLES3 : Option Addr} {n_STEP_ROLES3 : Nat} {sl_STEP_ROLES3 : Array (Option Value)} {s_STEP_ROLES3_0 : Tok} {s_STEP_ROLES3_1 : Tok} {h_STEP_ROLES4 : Int} {t_STEP_ROLES4 : Tok} {u_STEP_ROLES4 : Addr} {od_STEP_ROLES4 : Option Addr} {n_STEP_ROLES4 : Nat} {sl_STEP_ROLES4 : Array (Option Value)} {s_STEP_ROLES4_0 : Tok} {s_STEP_ROLES4_1 : Tok} {h_STEP_ROLES5 : Int} {t_STEP_ROLES5 : Tok} {u_STEP_ROLES5 : Addr} {od_STEP_ROLES5 : Option Addr} {n_STEP_ROLES5 : Nat} {sl_STEP_ROLES5 : Array (Option Value)} {s_STEP_ROLES5_0 : Tok} {s_STEP_ROLES5_1 : Tok} {h_STEP_ROLES6 : Int} {t_STEP_ROLES6 : Tok} {u_STEP_ROLES6 : Addr} {od_STEP_ROLES6 : Option Addr} {n_STEP_ROLES6 : Nat} {sl_STEP_ROLES6 : Array (Option Value)} {s_STEP_ROLES6_0 : Tok} {s_STEP_ROLES6_1 : Tok} (c_STEP_ROLES : PySem.W.nsIn K mainGlobals "STEP_ROLES" = some (some (.ref a_STEP_ROLES))) (l_STEP_ROLES : K.lookup a_STEP_ROLES = some ⟨.type "dict", none, .dict #[⟨h_STEP_ROLES0, .str "read" t_STEP_ROLES0, .ref u_STEP_ROLES0⟩, ⟨h_STEP_ROLES1, .str "find" t_STEP_ROLES1, .ref u_STEP_ROLES1⟩, ⟨h_STEP_ROLES2, .str "offset" t_STEP_ROLES2, .ref u_STEP_ROLES2⟩, ⟨h_STEP_ROLES3, .str "edition" t_STEP_ROLES3, .ref u_STEP_ROLES3⟩, ⟨h_STEP_ROLES4, .str "plus" t_STEP_ROLES4, .ref u_STEP_ROLES4⟩, ⟨h_STEP_ROLES5, .str "less" t_STEP_ROLES5, .ref u_STEP_ROLES5⟩, ⟨h_STEP_ROLES6, .str "add" t_STEP_ROLES6, .ref u_STEP_ROLES6⟩] n_STEP_ROLES, #[]⟩) (q_STEP_ROLES : PySem.W.KeysLit w.params [⟨h_STEP_ROLES0, .str "read" t_STEP_ROLES0, .ref u_STEP_ROLES0⟩, ⟨h_STEP_ROLES1, .str "find" t_STEP_ROLES1, .ref u_STEP_ROLES1⟩, ⟨h_STEP_ROLES2, .str "offset" t_STEP_ROLES2, .ref u_STEP_ROLES2⟩, ⟨h_STEP_ROLES3, .str "edition" t_STEP_ROLES3, .ref u_STEP_ROLES3⟩, ⟨h_STEP_ROLES4, .str "plus" t_STEP_ROLES4, .ref u_STEP_ROLES4⟩, ⟨h_STEP_ROLES5, .str "less" t_STEP_ROLES5, .ref u_STEP_ROLES5⟩, ⟨h_STEP_ROLES6, .str "add" t_STEP_ROLES6, .ref u_STEP_ROLES6⟩]) (b_STEP_ROLES : (a_STEP_ROLES == sysModules) = false) (l_STEP_ROLES0 : K.lookup u_STEP_ROLES0 = some ⟨.type "tuple", od_STEP_ROLES0, .seq #[.str "moment" s_STEP_ROLES0_0, .str "place" s_STEP_ROLES0_1] n_STEP_ROLES0, sl_STEP_ROLES0⟩) (l_STEP_ROLES1 : K.lookup u_STEP_ROLES1 = some ⟨.type "tuple", od_STEP_ROLES1, .seq #[.str "reading" s_STEP_ROLES1_0, .str "place" s_STEP_ROLES1_1, .str "fold" s_STEP_ROLES1_2, .str "gap" s_STEP_ROLES1_3] n_STEP_ROLES1, sl_STEP_ROLES1⟩) (l_STEP_ROLES2 : K.lookup u_STEP_ROLES2 = some ⟨.type "tuple", od_STEP_ROLES2, .seq #[.str "moment" s_STEP_ROLES2_0, .str "place" s_STEP_ROLES2_1] n_STEP_ROLES2, sl_STEP_ROLES2⟩) (l_STEP_ROLES3 : K.lookup u_STEP_ROLES3 = some ⟨.type "tuple", od_STEP_ROLES3, .seq #[.str "moment" s_STEP_ROLES3_0, .str "place" s_STEP_ROLES3_1] n_STEP_ROLES3, sl_STEP_ROLES3⟩) (l_STEP_ROLES4 : K.lookup u_STEP_ROLES4 = some ⟨.type "tuple", od_STEP_ROLES4, .seq #[.str "moment" s_STEP_ROLES4_0, .str "span" s_STEP_ROLES4_1] n_STEP_ROLES4, sl_STEP_ROLES4⟩) (l_STEP_ROLES5 : K.lookup u_STEP_ROLES5 = some ⟨.type "tuple", od_STEP_ROLES5, .seq #[.str "reading" s_STEP_ROLES5_0, .str "span" s_STEP_ROLES5_1] n_STEP_ROLES5, sl_STEP_ROLES5⟩) (l_STEP_ROLES6 : K.lookup u_STEP_ROLES6 = some ⟨.type "tuple", od_STEP_ROLES6, .seq #[.str "time" s_STEP_ROLES6_0, .str "minutes" s_STEP_ROLES6_1] n_STEP_ROLES6, sl_STEP_ROLES6⟩)
    {a_MADE_KINDS : Addr} {n_MADE_KINDS : Nat} {h_MADE_KINDS0 : Int} {t_MADE_KINDS0 : Tok} {s_MADE_KINDS0 : Tok} {h_MADE_KINDS1 : Int} {t_MADE_KINDS1 : Tok} {s_MADE_KINDS1 : Tok} {h_MADE_KINDS2 : Int} {t_MADE_KINDS2 : Tok} {s_MADE_KINDS2 : Tok} {h_MADE_KINDS3 : Int} {t_MADE_KINDS3 : Tok} {s_MADE_KINDS3 : Tok} {h_MADE_KINDS4 : Int} {t_MADE_KINDS4 : Tok} {s_MADE_KINDS4 : Tok} {h_MADE_KINDS5 : Int} {t_MADE_KINDS5 : Tok} {s_MADE_KINDS5 : Tok} (c_MADE_KINDS : PySem.W.nsIn K mainGlobals "MADE_KINDS" = some (some (.ref a_MADE_KINDS))) (l_MADE_KINDS : K.lookup a_MADE_KINDS = some ⟨.type "dict", none, .dict #[⟨h_MADE_KINDS0, .str "read" t_MADE_KINDS0, .str "reading" s_MADE_KINDS0⟩, ⟨h_MADE_KINDS1, .str "find" t_MADE_KINDS1, .str "moment" s_MADE_KINDS1⟩, ⟨h_MADE_KINDS2, .str "offset" t_MADE_KINDS2, .str "span" s_MADE_KINDS2⟩, ⟨h_MADE_KINDS3, .str "edition" t_MADE_KINDS3, .str "moment" s_MADE_KINDS3⟩, ⟨h_MADE_KINDS4, .str "plus" t_MADE_KINDS4, .str "reading" s_MADE_KINDS4⟩, ⟨h_MADE_KINDS5, .str "less" t_MADE_KINDS5, .str "moment" s_MADE_KINDS5⟩] n_MADE_KINDS, #[]⟩) (q_MADE_KINDS : PySem.W.KeysLit w.params [⟨h_MADE_KINDS0, .str "read" t_MADE_KINDS0, .str "reading" s_MADE_KINDS0⟩, ⟨h_MADE_KINDS1, .str "find" t_MADE_KINDS1, .str "moment" s_MADE_KINDS1⟩, ⟨h_MADE_KINDS2, .str "offset" t_MADE_KINDS2, .str "span" s_MADE_KINDS2⟩, ⟨h_MADE_KINDS3, .str "edition" t_MADE_KINDS3, .str "moment" s_MADE_KINDS3⟩, ⟨h_MADE_KINDS4, .str "plus" t_MADE_KINDS4, .str "reading" s_MADE_KINDS4⟩, ⟨h_MADE_KINDS5, .str "less" t_MADE_KINDS5, .str "moment" s_MADE_KINDS5⟩]) (b_MADE_KINDS : (a_MADE_KINDS == sysModules) = false) 
    (n : Nat) : ∃ fd : FuncData, (∀ (s : Shared) (v : Value), BindsTo s fd ⟨[v], []⟩ [("_law_script", v)]) ∧ ∀ base : Heap, K.In base → base.Ns mainGlobals mg → FnG l.prog w K mg base n fa fd P_173 (spF K (run T n) 173) := by
  have F : Fs0 K mg := ⟨⟨f0, _, PySem.W.mg_of X G a0, fun_mk (st := s_0) l0 c0 k0⟩, ⟨f1, _, PySem.W.mg_of X G a1, fun_mk (st := s_1) l1 c1 k1⟩, ⟨f84, _, PySem.W.mg_of X G a84, fun_mk (st := s_84) l84 c84 k84⟩, ⟨f2, _, PySem.W.mg_of X G a2, fun_mk (st := s_2) l2 c2 k2⟩, ⟨f6, _, PySem.W.mg_of X G a6, fun_mk (st := s_6) l6 c6 k6⟩, ⟨f85, _, PySem.W.mg_of X G a85, fun_mk (st := s_85) l85 c85 k85⟩, ⟨f86, _, PySem.W.mg_of X G a86, fun_mk (st := s_86) l86 c86 k86⟩, ⟨f12, _, PySem.W.mg_of X G a12, fun_mk (st := s_12) l12 c12 k12⟩, ⟨f87, _, PySem.W.mg_of X G a87, fun_mk (st := s_87) l87 c87 k87⟩, ⟨f65, _, PySem.W.mg_of X G a65, fun_mk (st := s_65) l65 c65 k65⟩, ⟨f9, _, PySem.W.mg_of X G a9, fun_mk (st := s_9) l9 c9 k9⟩, ⟨f11, _, PySem.W.mg_of X G a11, fun_mk (st := s_11) l11 c11 k11⟩, ⟨f3, _, PySem.W.mg_of X G a3, fun_mk (st := s_3) l3 c3 k3⟩, ⟨f14, _, PySem.W.mg_of X G a14, fun_mk (st := s_14) l14 c14 k14⟩, ⟨f28, _, PySem.W.mg_of X G a28, fun_mk (st := s_28) l28 c28 k28⟩, ⟨f27, _, PySem.W.mg_of X G a27, fun_mk (st := s_27) l27 c27 k27⟩, ⟨f68, _, PySem.W.mg_of X G a68, fun_mk (st := s_68) l68 c68 k68⟩, ⟨f5, _, PySem.W.mg_of X G a5, fun_mk (st := s_5) l5 c5 k5⟩, ⟨f4, _, PySem.W.mg_of X G a4, fun_mk (st := s_4) l4 c4 k4⟩, ⟨f10, _, PySem.W.mg_of X G a10, fun_mk (st := s_10) l10 c10 k10⟩, ⟨f8, _, PySem.W.mg_of X G a8, fun_mk (st := s_8) l8 c8 k8⟩, ⟨f67, _, PySem.W.mg_of X G a67, fun_mk (st := s_67) l67 c67 k67⟩, ⟨f156, _, PySem.W.mg_of X G a156, ⟨⟨oc156, od156, .ref T156, kV156, dc156, pm156, an156, cd156, ct156, sl156, rfl, l156, c156, .inr ⟨List.cons_ne_nil _ _, T156, _, [.int 0 te156_0], ne156, rfl, e156, rfl, (.cons ⟨_, rfl⟩ .nil)⟩, .inl rfl⟩, k156⟩⟩, ⟨f95, _, PySem.W.mg_of X G a95, fun_mk (st := s_95) l95 c95 k95⟩, ⟨f148, _, PySem.W.mg_of X G a148, fun_mk (st := s_148) l148 c148 k148⟩, ⟨f93, _, PySem.W.mg_of X G a93, fun_mk (st := s_93) l93 c93 k93⟩, ⟨f147, _, PySem.W.mg_of X G a147, fun_mk (st := s_147) l147 c147 k147⟩, ⟨f90, _, PySem.W.mg_of X G a90, fun_mk (st := s_90) l90 c90 k90⟩, ⟨f89, _, PySem.W.mg_of X G a89, fun_mk (st := s_89) l89 c89 k89⟩, ⟨f155, _, PySem.W.mg_of X G a155, fun_mk (st := s_155) l155 c155 k155⟩, ⟨f153, _, PySem.W.mg_of X G a153, fun_mk (st := s_153) l153 c153 k153⟩, ⟨f149, _, PySem.W.mg_of X G a149, fun_mk (st := s_149) l149 c149 k149⟩, ⟨f91, _, PySem.W.mg_of X G a91, fun_mk (st := s_91) l91 c91 k91⟩, ⟨f88, _, PySem.W.mg_of X G a88, fun_mk (st := s_88) l88 c88 k88⟩, ⟨f92, _, PySem.W.mg_of X G a92, fun_mk (st := s_92) l92 c92 k92⟩, ⟨f146, _, PySem.W.mg_of X G a146, fun_mk (st := s_146) l146 c146 k146⟩, ⟨f154, _, PySem.W.mg_of X G a154, fun_mk (st := s_154) l154 c154 k154⟩, ⟨f150, _, PySem.W.mg_of X G a150, fun_mk (st := s_150) l150 c150 k150⟩, ⟨f152, _, PySem.W.mg_of X G a152, fun_mk (st := s_152) l152 c152 k152⟩, ⟨f151, _, PySem.W.mg_of X G a151, fun_mk (st := s_151) l151 c151 k151⟩, ⟨f98, _, PySem.W.mg_of X G a98, fun_mk (st := s_98) l98 c98 k98⟩, ⟨f99, _, PySem.W.mg_of X G a99, fun_mk (st := s_99) l99 c99 k99⟩, ⟨f100, _, PySem.W.mg_of X G a100, fun_mk (st := s_100) l100 c100 k100⟩, ⟨f101, _, PySem.W.mg_of X G a101, fun_mk (st := s_101) l101 c101 k101⟩, ⟨f102, _, PySem.W.mg_of X G a102, fun_mk (st := s_102) l102 c102 k102⟩, ⟨f103, _, PySem.W.mg_of X G a103, fun_mk (st := s_103) l103 c103 k103⟩, ⟨f104, _, PySem.W.mg_of X G a104, fun_mk (st := s_104) l104 c104 k104⟩, ⟨f157, _, PySem.W.mg_of X G a157, fun_mk (st := s_157) l157 c157 k157⟩, ⟨f105, _, PySem.W.mg_of X G a105, fun_mk (st := s_105) l105 c105 k105⟩, ⟨f158, _, PySem.W.mg_of X G a158, fun_mk (st := s_158) l158 c158 k158⟩, ⟨f159, _, PySem.W.mg_of X G a159, fun_mk (st := s_159) l159 c159 k159⟩, ⟨f160, _, PySem.W.mg_of X G a160, fun_mk (st := s_160) l160 c160 k160⟩, ⟨f106, _, PySem.W.mg_of X G a106, fun_mk (st := s_106) l106 c106 k106⟩, ⟨f161, _, PySem.W.mg_of X G a161, fun_mk (st := s_161) l161 c161 k161⟩, ⟨f162, _, PySem.W.mg_of X G a162, fun_mk (st := s_162) l162 c162 k162⟩, ⟨f163, _, PySem.W.mg_of X G a163, fun_mk (st := s_163) l163 c163 k163⟩, ⟨f164, _, PySem.W.mg_of X G a164, fun_mk (st := s_164) l164 c164 k164⟩, ⟨f165, _, PySem.W.mg_of X G a165, fun_mk (st := s_165) l165 c165 k165⟩, ⟨f166, _, PySem.W.mg_of X G a166, fun_mk (st := s_166) l166 c166 k166⟩, ⟨f167, _, PySem.W.mg_of X G a167, fun_mk (st := s_167) l167 c167 k167⟩, ⟨f168, _, PySem.W.mg_of X G a168, fun_mk (st := s_168) l168 c168 k168⟩, ⟨f169, _, PySem.W.mg_of X G a169, fun_mk (st := s_169) l169 c169 k169⟩, ⟨f170, _, PySem.W.mg_of X G a170, fun_mk (st := s_170) l170 c170 k170⟩, ⟨f171, _, PySem.W.mg_of X G a171, fun_mk (st := s_171) l171 c171 k171⟩, ⟨f172, _, PySem.W.mg_of X G a172, fun_mk (st := s_172) l172 c172 k172⟩, ⟨f173, _, PySem.W.mg_of X G a173, fun_mk (st := s_173) l173 c173 k173⟩⟩
  have Gx : Gs w K mg := ⟨PySem.W.mg_none_of X G n_all, PySem.W.mg_none_of X G n_bool, PySem.W.mg_none_of X G n_enumerate, PySem.W.mg_none_of X G n_int, PySem.W.mg_none_of X G n_isinstance, PySem.W.mg_none_of X G n_len, PySem.W.mg_none_of X G n_list, PySem.W.mg_none_of X G n_max, PySem.W.mg_none_of X G n_min, PySem.W.mg_none_of X G n_range, PySem.W.mg_none_of X G n_repr, PySem.W.mg_none_of X G n_str, PySem.W.mg_none_of X G n_sum, PySem.W.mg_none_of X G n_tuple, PySem.W.mg_none_of X G n_zip, ⟨t_MOST_SPACING, PySem.W.mg_of X G c_MOST_SPACING⟩, ⟨t_MOST_ZONES, PySem.W.mg_of X G c_MOST_ZONES⟩, ⟨a_GAP_RULES, PySem.W.mg_of X G c_GAP_RULES, fun α H => have r : Rps K α H [D.str "ahead", D.str "behind", D.str "refuse"] [V.str "ahead", V.str "behind", V.str "refuse"] := (.cons (.str _) (.cons (.str _) (.cons (.str _) .nil))); .tup (vs := [V.str "ahead", V.str "behind", V.str "refuse"]) (.inr ⟨_, _, _, l_GAP_RULES, rfl, rfl, (show 3 ≤ sizeLine by decide), (.cons ⟨_, rfl⟩ (.cons ⟨_, rfl⟩ (.cons ⟨_, rfl⟩ .nil)))⟩) r.len r.at_⟩, ⟨a_FOLD_RULES, PySem.W.mg_of X G c_FOLD_RULES, fun α H => have r : Rps K α H [D.str "early", D.str "late", D.str "refuse"] [V.str "early", V.str "late", V.str "refuse"] := (.cons (.str _) (.cons (.str _) (.cons (.str _) .nil))); .tup (vs := [V.str "early", V.str "late", V.str "refuse"]) (.inr ⟨_, _, _, l_FOLD_RULES, rfl, rfl, (show 3 ≤ sizeLine by decide), (.cons ⟨_, rfl⟩ (.cons ⟨_, rfl⟩ (.cons ⟨_, rfl⟩ .nil)))⟩) r.len r.at_⟩, ⟨t_MOST_OFFSETS, PySem.W.mg_of X G c_MOST_OFFSETS⟩, ⟨t_FARTHEST_OFFSET, PySem.W.mg_of X G c_FARTHEST_OFFSET⟩, ⟨t_MOST_STEPS, PySem.W.mg_of X G c_MOST_STEPS⟩, ⟨t_FARTHEST_MINUTES, PySem.W.mg_of X G c_FARTHEST_MINUTES⟩, ⟨a_STEP_ROLES, PySem.W.mg_of X G c_STEP_ROLES, kt_of l_STEP_ROLES q_STEP_ROLES b_STEP_ROLES (.cons t_STEP_ROLES0 (.ref u_STEP_ROLES0) rfl rfl (fun α H => have r : Rps K α H [D.str "moment", D.str "place"] [V.str "moment", V.str "place"] := (.cons (.str _) (.cons (.str _) .nil)); .tup (vs := [V.str "moment", V.str "place"]) (.inr ⟨_, _, _, l_STEP_ROLES0, rfl, rfl, (show 2 ≤ sizeLine by decide), (.cons ⟨_, rfl⟩ (.cons ⟨_, rfl⟩ .nil))⟩) r.len r.at_) (.cons t_STEP_ROLES1 (.ref u_STEP_ROLES1) rfl rfl (fun α H => have r : Rps K α H [D.str "reading", D.str "place", D.str "fold", D.str "gap"] [V.str "reading", V.str "place", V.str "fold", V.str "gap"] := (.cons (.str _) (.cons (.str _) (.cons (.str _) (.cons (.str _) .nil)))); .tup (vs := [V.str "reading", V.str "place", V.str "fold", V.str "gap"]) (.inr ⟨_, _, _, l_STEP_ROLES1, rfl, rfl, (show 4 ≤ sizeLine by decide), (.cons ⟨_, rfl⟩ (.cons ⟨_, rfl⟩ (.cons ⟨_, rfl⟩ (.cons ⟨_, rfl⟩ .nil))))⟩) r.len r.at_) (.cons t_STEP_ROLES2 (.ref u_STEP_ROLES2) rfl rfl (fun α H => have r : Rps K α H [D.str "moment", D.str "place"] [V.str "moment", V.str "place"] := (.cons (.str _) (.cons (.str _) .nil)); .tup (vs := [V.str "moment", V.str "place"]) (.inr ⟨_, _, _, l_STEP_ROLES2, rfl, rfl, (show 2 ≤ sizeLine by decide), (.cons ⟨_, rfl⟩ (.cons ⟨_, rfl⟩ .nil))⟩) r.len r.at_) (.cons t_STEP_ROLES3 (.ref u_STEP_ROLES3) rfl rfl (fun α H => have r : Rps K α H [D.str "moment", D.str "place"] [V.str "moment", V.str "place"] := (.cons (.str _) (.cons (.str _) .nil)); .tup (vs := [V.str "moment", V.str "place"]) (.inr ⟨_, _, _, l_STEP_ROLES3, rfl, rfl, (show 2 ≤ sizeLine by decide), (.cons ⟨_, rfl⟩ (.cons ⟨_, rfl⟩ .nil))⟩) r.len r.at_) (.cons t_STEP_ROLES4 (.ref u_STEP_ROLES4) rfl rfl (fun α H => have r : Rps K α H [D.str "moment", D.str "span"] [V.str "moment", V.str "span"] := (.cons (.str _) (.cons (.str _) .nil)); .tup (vs := [V.str "moment", V.str "span"]) (.inr ⟨_, _, _, l_STEP_ROLES4, rfl, rfl, (show 2 ≤ sizeLine by decide), (.cons ⟨_, rfl⟩ (.cons ⟨_, rfl⟩ .nil))⟩) r.len r.at_) (.cons t_STEP_ROLES5 (.ref u_STEP_ROLES5) rfl rfl (fun α H => have r : Rps K α H [D.str "reading", D.str "span"] [V.str "reading", V.str "span"] := (.cons (.str _) (.cons (.str _) .nil)); .tup (vs := [V.str "reading", V.str "span"]) (.inr ⟨_, _, _, l_STEP_ROLES5, rfl, rfl, (show 2 ≤ sizeLine by decide), (.cons ⟨_, rfl⟩ (.cons ⟨_, rfl⟩ .nil))⟩) r.len r.at_) (.cons t_STEP_ROLES6 (.ref u_STEP_ROLES6) rfl rfl (fun α H => have r : Rps K α H [D.str "time", D.str "minutes"] [V.str "time", V.str "minutes"] := (.cons (.str _) (.cons (.str _) .nil)); .tup (vs := [V.str "time", V.str "minutes"]) (.inr ⟨_, _, _, l_STEP_ROLES6, rfl, rfl, (show 2 ≤ sizeLine by decide), (.cons ⟨_, rfl⟩ (.cons ⟨_, rfl⟩ .nil))⟩) r.len r.at_) .nil)))))))⟩, ⟨a_MADE_KINDS, PySem.W.mg_of X G c_MADE_KINDS, kt_of l_MADE_KINDS q_MADE_KINDS b_MADE_KINDS (.cons t_MADE_KINDS0 (.str "reading") rfl ⟨_, rfl⟩ (fun _ _ => .str _) (.cons t_MADE_KINDS1 (.str "moment") rfl ⟨_, rfl⟩ (fun _ _ => .str _) (.cons t_MADE_KINDS2 (.str "span") rfl ⟨_, rfl⟩ (fun _ _ => .str _) (.cons t_MADE_KINDS3 (.str "moment") rfl ⟨_, rfl⟩ (fun _ _ => .str _) (.cons t_MADE_KINDS4 (.str "reading") rfl ⟨_, rfl⟩ (fun _ _ => .str _) (.cons t_MADE_KINDS5 (.str "moment") rfl ⟨_, rfl⟩ (fun _ _ => .str _) .nil))))))⟩⟩
  have e := hfa.symm.trans (PySem.W.mg_of X G a173)
  cases e
  refine ⟨PySem.W.fnOf "law" "law" (defArgs s_173) (defBody s_173) (defScope s_173) .none kV173 dc173 pm173 an173 cd173 ct173, fun s v => .of_eq rfl, fun base _ _ => ?_⟩
  obtain ⟨fa', fd', h1, h2, h3, h4⟩ := (all_ok (P := l.prog) (w := w) (base := base) F Gx n).f173.ex
  have e2 := h1.symm.trans (PySem.W.mg_of X G a173)
  cases e2
  obtain ⟨oc, od, kV, doc, pm, an, cdv, ct, osl, e3, lk, hcd⟩ := h2.ex
  rw [lk] at l173
  have e4 := Option.some.inj l173
  injection e4 with e5 e6 e7 e8
  injection e7 with e9
  rw [← e9]
  exact h3
theorem walk {l : PySem.W.OpenLaw} {q : Program} {loose : List Str} {XP : (Str → Option Value) → Heap → Prop} {YP : World → Heap → Prop} {d : DefRec} {K : Params → PySem.W.Frag} (hn : l.most = some 63) (hdf : d.params.defaults = [])
    (hY : ∀ (w : World) (h : Heap), YP w h → (K w.params).In h)
    (F : ∀ (w : World) (mg : Str → Option Value) (fa : Addr) (h : Heap), (K w.params).In h → h.Ns mainGlobals mg → mg d.name = some (.ref fa) →
      ∃ fd : FuncData, (∀ (s : Shared) (u : Value), BindsTo s fd ⟨[u], []⟩ [("_law_script", u)]) ∧ ∀ base : Heap, (K w.params).In base → base.Ns mainGlobals mg → FnG l.prog w (K w.params) mg base lev fa fd P_173 (spF (K w.params) (run T lev) 173)) :
    PySem.W.WalkO q loose XP YP l.row.toRowW d [] (fun f vs => PySem.call f vs) :=
  walkG (n := 63) (k := lev) (x := "_law_script") (sp := fun w => spF (K w.params) (run T lev) 173) hn (by decide) hdf ⟨⟨rfl, by decide, by decide⟩, rfl⟩ hY F
    (fun w H a ns hl hb hO hS => by
      obtain ⟨S', e⟩ := law_true ns hl hb
      refine ⟨[], [], [.ro ns], .bl true, S', ⟨rfl, fun i j a h => by simp at h, fun k o a h => by simp at h⟩, Rps.one (.ro ?_), e, fun α' H' v _ _ r => by cases r; rfl⟩
      rcases hS with (h | h) | h
      · rcases hO a with z | ⟨o, xs, z⟩
        · rw [z] at h; cases h
        · rw [z] at h; cases h
      · exact .inl h
      · exact .inr h)
end Lw

open PySem PySem.W PyProof.Rows in
set_option maxRecDepth 100000 in
set_option maxHeartbeats 0 in
theorem PySem.Challenge.cw_hoursmeant_k22_runs_without_finds_holds : PySem.Challenge.rw_hoursmeant_k22_runs_without_finds.Holds := by
  w_on; o_law; k_head; (case hw => w_witness2)
  k_fill
  refine Lw.walk (l := PySem.Challenge.rw_hoursmeant_k22_runs_without_finds) rfl rfl (fun w h Y => PySem.W.kIn_of Y) ?F
  case F =>
    intro w mg fa h KX G hmg
    refine' Lw.all_mk KX G hmg ?a0 ?l0 ?c0 ?k0 ?a1 ?l1 ?c1 ?k1 ?a84 ?l84 ?c84 ?k84 ?a2 ?l2 ?c2 ?k2 ?a6 ?l6 ?c6 ?k6 ?a85 ?l85 ?c85 ?k85 ?a86 ?l86 ?c86 ?k86 ?a12 ?l12 ?c12 ?k12 ?a87 ?l87 ?c87 ?k87 ?a65 ?l65 ?c65 ?k65 ?a9 ?l9 ?c9 ?k9 ?a11 ?l11 ?c11 ?k11 ?a3 ?l3 ?c3 ?k3 ?a14 ?l14 ?c14 ?k14 ?a28 ?l28 ?c28 ?k28 ?a27 ?l27 ?c27 ?k27 ?a68 ?l68 ?c68 ?k68 ?a5 ?l5 ?c5 ?k5 ?a4 ?l4 ?c4 ?k4 ?a10 ?l10 ?c10 ?k10 ?a8 ?l8 ?c8 ?k8 ?a67 ?l67 ?c67 ?k67 ?a156 ?l156 ?c156 ?k156 ?e156 ?a95 ?l95 ?c95 ?k95 ?a148 ?l148 ?c148 ?k148 ?a93 ?l93 ?c93 ?k93 ?a147 ?l147 ?c147 ?k147 ?a90 ?l90 ?c90 ?k90 ?a89 ?l89 ?c89 ?k89 ?a155 ?l155 ?c155 ?k155 ?a153 ?l153 ?c153 ?k153 ?a149 ?l149 ?c149 ?k149 ?a91 ?l91 ?c91 ?k91 ?a88 ?l88 ?c88 ?k88 ?a92 ?l92 ?c92 ?k92 ?a146 ?l146 ?c146 ?k146 ?a154 ?l154 ?c154 ?k154 ?a150 ?l150 ?c150 ?k150 ?a152 ?l152 ?c152 ?k152 ?a151 ?l151 ?c151 ?k151 ?a98 ?l98 ?c98 ?k98 ?a99 ?l99 ?c99 ?k99 ?a100 ?l100 ?c100 ?k100 ?a101 ?l101 ?c101 ?k101 ?a102 ?l102 ?c102 ?k102 ?a103 ?l103 ?c103 ?k103 ?a104 ?l104 ?c104 ?k104 ?a157 ?l157 ?c157 ?k157 ?a105 ?l105 ?c105 ?k105 ?a158 ?l158 ?c158 ?k158 ?a159 ?l159 ?c159 ?k159 ?a160 ?l160 ?c160 ?k160 ?a106 ?l106 ?c106 ?k106 ?a161 ?l161 ?c161 ?k161 ?a162 ?l162 ?c162 ?k162 ?a163 ?l163 ?c163 ?k163 ?a164 ?l164 ?c164 ?k164 ?a165 ?l165 ?c165 ?k165 ?a166 ?l166 ?c166 ?k166 ?a167 ?l167 ?c167 ?k167 ?a168 ?l168 ?c168 ?k168 ?a169 ?l169 ?c169 ?k169 ?a170 ?l170 ?c170 ?k170 ?a171 ?l171 ?c171 ?k171 ?a172 ?l172 ?c172 ?k172 ?a173 ?l173 ?c173 ?k173 ?n_all ?n_bool ?n_enumerate ?n_int ?n_isinstance ?n_len ?n_list ?n_max ?n_min ?n_range ?n_repr ?n_str ?n_sum ?n_tuple ?n_zip ?c_MOST_SPACING ?c_MOST_ZONES ?c_GAP_RULES ?l_GAP_RULES ?c_FOLD_RULES ?l_FOLD_RULES ?c_MOST_OFFSETS ?c_FARTHEST_OFFSET ?c_MOST_STEPS ?c_FARTHEST_MINUTES ?c_STEP_ROLES ?l_STEP_ROLES ?q_STEP_ROLES ?b_STEP_ROLES ?l_STEP_ROLES0 ?l_STEP_ROLES1 ?l_STEP_ROLES2 ?l_STEP_ROLES3 ?l_STEP_ROLES4 ?l_STEP_ROLES5 ?l_STEP_ROLES6 ?c_MADE_KINDS ?l_MADE_KINDS ?q_MADE_KINDS ?b_MADE_KINDS Lw.lev
    (case a0 => k_is)
    (case l0 => k_is)
    (case c0 => k_is)
    (case k0 => k_is)
    (case a1 => k_is)
    (case l1 => k_is)
    (case c1 => k_is)
    (case k1 => k_is)
    (case a84 => k_is)
    (case l84 => k_is)
    (case c84 => k_is)
    (case k84 => k_is)
    (case a2 => k_is)
    (case l2 => k_is)
    (case c2 => k_is)
    (case k2 => k_is)
    (case a6 => k_is)
    (case l6 => k_is)
    (case c6 => k_is)
    (case k6 => k_is)
    (case a85 => k_is)
    (case l85 => k_is)
    (case c85 => k_is)
    (case k85 => k_is)
    (case a86 => k_is)
    (case l86 => k_is)
    (case c86 => k_is)
    (case k86 => k_is)
    (case a12 => k_is)
    (case l12 => k_is)
    (case c12 => k_is)
    (case k12 => k_is)
    (case a87 => k_is)
    (case l87 => k_is)
    (case c87 => k_is)
    (case k87 => k_is)
    (case a65 => k_is)
    (case l65 => k_is)
    (case c65 => k_is)
    (case k65 => k_is)
    (case a9 => k_is)
    (case l9 => k_is)
    (case c9 => k_is)
    (case k9 => k_is)
    (case a11 => k_is)
    (case l11 => k_is)
    (case c11 => k_is)
    (case k11 => k_is)
    (case a3 => k_is)
    (case l3 => k_is)
    (case c3 => k_is)
    (case k3 => k_is)
    (case a14 => k_is)
    (case l14 => k_is)
    (case c14 => k_is)
    (case k14 => k_is)
    (case a28 => k_is)
    (case l28 => k_is)
    (case c28 => k_is)
    (case k28 => k_is)
    (case a27 => k_is)
    (case l27 => k_is)
    (case c27 => k_is)
    (case k27 => k_is)
    (case a68 => k_is)
    (case l68 => k_is)
    (case c68 => k_is)
    (case k68 => k_is)
    (case a5 => k_is)
    (case l5 => k_is)
    (case c5 => k_is)
    (case k5 => k_is)
    (case a4 => k_is)
    (case l4 => k_is)
    (case c4 => k_is)
    (case k4 => k_is)
    (case a10 => k_is)
    (case l10 => k_is)
    (case c10 => k_is)
    (case k10 => k_is)
    (case a8 => k_is)
    (case l8 => k_is)
    (case c8 => k_is)
    (case k8 => k_is)
    (case a67 => k_is)
    (case l67 => k_is)
    (case c67 => k_is)
    (case k67 => k_is)
    (case a156 => k_is)
    (case l156 => k_is)
    (case c156 => k_is)
    (case k156 => k_is)
    (case e156 => k_is)
    (case a95 => k_is)
    (case l95 => k_is)
    (case c95 => k_is)
    (case k95 => k_is)
    (case a148 => k_is)
    (case l148 => k_is)
    (case c148 => k_is)
    (case k148 => k_is)
    (case a93 => k_is)
    (case l93 => k_is)
    (case c93 => k_is)
    (case k93 => k_is)
    (case a147 => k_is)
    (case l147 => k_is)
    (case c147 => k_is)
    (case k147 => k_is)
    (case a90 => k_is)
    (case l90 => k_is)
    (case c90 => k_is)
    (case k90 => k_is)
    (case a89 => k_is)
    (case l89 => k_is)
    (case c89 => k_is)
    (case k89 => k_is)
    (case a155 => k_is)
    (case l155 => k_is)
    (case c155 => k_is)
    (case k155 => k_is)
    (case a153 => k_is)
    (case l153 => k_is)
    (case c153 => k_is)
    (case k153 => k_is)
    (case a149 => k_is)
    (case l149 => k_is)
    (case c149 => k_is)
    (case k149 => k_is)
    (case a91 => k_is)
    (case l91 => k_is)
    (case c91 => k_is)
    (case k91 => k_is)
    (case a88 => k_is)
    (case l88 => k_is)
    (case c88 => k_is)
    (case k88 => k_is)
    (case a92 => k_is)
    (case l92 => k_is)
    (case c92 => k_is)
    (case k92 => k_is)
    (case a146 => k_is)
    (case l146 => k_is)
    (case c146 => k_is)
    (case k146 => k_is)
    (case a154 => k_is)
    (case l154 => k_is)
    (case c154 => k_is)
    (case k154 => k_is)
    (case a150 => k_is)
    (case l150 => k_is)
    (case c150 => k_is)
    (case k150 => k_is)
    (case a152 => k_is)
    (case l152 => k_is)
    (case c152 => k_is)
    (case k152 => k_is)
    (case a151 => k_is)
    (case l151 => k_is)
    (case c151 => k_is)
    (case k151 => k_is)
    (case a98 => k_is)
    (case l98 => k_is)
    (case c98 => k_is)
    (case k98 => k_is)
    (case a99 => k_is)
    (case l99 => k_is)
    (case c99 => k_is)
    (case k99 => k_is)
    (case a100 => k_is)
    (case l100 => k_is)
    (case c100 => k_is)
    (case k100 => k_is)
    (case a101 => k_is)
    (case l101 => k_is)
    (case c101 => k_is)
    (case k101 => k_is)
    (case a102 => k_is)
    (case l102 => k_is)
    (case c102 => k_is)
    (case k102 => k_is)
    (case a103 => k_is)
    (case l103 => k_is)
    (case c103 => k_is)
    (case k103 => k_is)
    (case a104 => k_is)
    (case l104 => k_is)
    (case c104 => k_is)
    (case k104 => k_is)
    (case a157 => k_is)
    (case l157 => k_is)
    (case c157 => k_is)
    (case k157 => k_is)
    (case a105 => k_is)
    (case l105 => k_is)
    (case c105 => k_is)
    (case k105 => k_is)
    (case a158 => k_is)
    (case l158 => k_is)
    (case c158 => k_is)
    (case k158 => k_is)
    (case a159 => k_is)
    (case l159 => k_is)
    (case c159 => k_is)
    (case k159 => k_is)
    (case a160 => k_is)
    (case l160 => k_is)
    (case c160 => k_is)
    (case k160 => k_is)
    (case a106 => k_is)
    (case l106 => k_is)
    (case c106 => k_is)
    (case k106 => k_is)
    (case a161 => k_is)
    (case l161 => k_is)
    (case c161 => k_is)
    (case k161 => k_is)
    (case a162 => k_is)
    (case l162 => k_is)
    (case c162 => k_is)
    (case k162 => k_is)
    (case a163 => k_is)
    (case l163 => k_is)
    (case c163 => k_is)
    (case k163 => k_is)
    (case a164 => k_is)
    (case l164 => k_is)
    (case c164 => k_is)
    (case k164 => k_is)
    (case a165 => k_is)
    (case l165 => k_is)
    (case c165 => k_is)
    (case k165 => k_is)
    (case a166 => k_is)
    (case l166 => k_is)
    (case c166 => k_is)
    (case k166 => k_is)
    (case a167 => k_is)
    (case l167 => k_is)
    (case c167 => k_is)
    (case k167 => k_is)
    (case a168 => k_is)
    (case l168 => k_is)
    (case c168 => k_is)
    (case k168 => k_is)
    (case a169 => k_is)
    (case l169 => k_is)
    (case c169 => k_is)
    (case k169 => k_is)
    (case a170 => k_is)
    (case l170 => k_is)
    (case c170 => k_is)
    (case k170 => k_is)
    (case a171 => k_is)
    (case l171 => k_is)
    (case c171 => k_is)
    (case k171 => k_is)
    (case a172 => k_is)
    (case l172 => k_is)
    (case c172 => k_is)
    (case k172 => k_is)
    (case a173 => k_is)
    (case l173 => k_is)
    (case c173 => k_is)
    (case k173 => k_is)
    (case n_all => k_is)
    (case n_bool => k_is)
    (case n_enumerate => k_is)
    (case n_int => k_is)
    (case n_isinstance => k_is)
    (case n_len => k_is)
    (case n_list => k_is)
    (case n_max => k_is)
    (case n_min => k_is)
    (case n_range => k_is)
    (case n_repr => k_is)
    (case n_str => k_is)
    (case n_sum => k_is)
    (case n_tuple => k_is)
    (case n_zip => k_is)
    (case c_MOST_SPACING => k_is)
    (case c_MOST_ZONES => k_is)
    (case c_GAP_RULES => k_is)
    (case l_GAP_RULES => k_is)
    (case c_FOLD_RULES => k_is)
    (case l_FOLD_RULES => k_is)
    (case c_MOST_OFFSETS => k_is)
    (case c_FARTHEST_OFFSET => k_is)
    (case c_MOST_STEPS => k_is)
    (case c_FARTHEST_MINUTES => k_is)
    (case c_STEP_ROLES => k_is)
    (case l_STEP_ROLES => k_is)
    (case q_STEP_ROLES => (repeat' (first | exact trivial | refine ⟨⟨_, _, rfl, rfl⟩, ?_⟩)))
    (case b_STEP_ROLES => first | rfl | decide | (decide +kernel))
    (case l_STEP_ROLES0 => k_is)
    (case l_STEP_ROLES1 => k_is)
    (case l_STEP_ROLES2 => k_is)
    (case l_STEP_ROLES3 => k_is)
    (case l_STEP_ROLES4 => k_is)
    (case l_STEP_ROLES5 => k_is)
    (case l_STEP_ROLES6 => k_is)
    (case c_MADE_KINDS => k_is)
    (case l_MADE_KINDS => k_is)
    (case q_MADE_KINDS => (repeat' (first | exact trivial | refine ⟨⟨_, _, rfl, rfl⟩, ?_⟩)))
    (case b_MADE_KINDS => first | rfl | decide | (decide +kernel))


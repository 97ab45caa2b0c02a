import PyProof.Rows.All
import Wide.All
import OpenK.AllK
import Wide.FinOn
import HandS.ForMost
import HandS.Wide
import HandS.IsInst
import HandS.TupAny
import HandS.Zip
import HandS.Walk
import HandS.Style
import HandS.EndBits
import HandS.Defaults
import HandS.Flow
import HandS.SortInts
import HandS.RaiseMore
import KE.GoesEnum
import HandS.MakeKwOnly
import HandS.SortRule
import HandS.SetFor
import HandS.Conv
import HandS.Strs
import HandS.NoneIn
import HandS.Deep
import HandS.More
import PySem.Challenge.RW_hoursmeant_k63_whole_programs_read_back
set_option Elab.async false
set_option linter.all false
set_option maxRecDepth 100000
set_option maxHeartbeats 4000000
/-! A small language of data: its meaning as a function, and that the text's own code means it. -/
namespace Ix
open PySem L2

/-! ### data -/
inductive D where
  | non | bl (b : Bool) | int (i : Int) | str (x : Str) | ty (n : String) | ref (k : Nat) | tup (xs : List D) | ro (xs : List Int)
inductive O where
  | lst (xs : List D) | dct (kvs : List (Key × D))
abbrev Hd := List O
abbrev Sl := List (Option D)

/-! ### how data lies in the heap -/
/-- a list that stands for good: the script, a list of the module -/
def SqR (K : PySem.W.Frag) (H : Hp) (a : Addr) (xs : List V) : Prop := (∃ o, H a = some (.frz o (.lst xs))) ∨
    ∃ (o : Obj) (its : Array Value) (n : Nat), K.lookup a = some o ∧ o.cls = .type "list" ∧ o.dict = none ∧ o.data = .seq its n ∧ its.size ≤ sizeLine ∧ Vals xs its.toList
inductive Rp (K : PySem.W.Frag) (α : List Addr) (H : Hp) : D → V → Prop where
  | non : Rp K α H .non .non
  | bl (b : Bool) : Rp K α H (.bl b) (.bl b)
  | int (i : Int) : Rp K α H (.int i) (.int i)
  | str (x : Str) : Rp K α H (.str x) (.str x)
  | ty (n : String) : Rp K α H (.ty n) (.ty n)
  | ref {k : Nat} {a : Addr} (h : α[k]? = some a) : Rp K α H (.ref k) (.ref a)
  | tup {xs : List D} {a : Addr} {vs : List V} (h : SqT K H a vs) (l : vs.length = xs.length) (r : ∀ (i : Nat) (x : D) (v : V), xs[i]? = some x → vs[i]? = some v → Rp K α H x v) : Rp K α H (.tup xs) (.ref a)
  | ro {xs : List Int} {a : Addr} (h : SqR K H a (xs.map V.int)) : Rp K α H (.ro xs) (.ref a)

structure Rps (K : PySem.W.Frag) (α : List Addr) (H : Hp) (xs : List D) (vs : List V) : Prop where
  len : vs.length = xs.length
  at_ : ∀ (i : Nat) (x : D) (v : V), xs[i]? = some x → vs[i]? = some v → Rp K α H x v

/-- what an object is -/
def Ob (K : PySem.W.Frag) (α : List Addr) (H : Hp) : O → HO → Prop
  | .lst xs, .lst vs => Rps K α H xs vs
  | .dct ks, .dK vs => vs.map (·.1) = ks.map (·.1) ∧ Rps K α H (ks.map (·.2)) (vs.map (·.2))
  | _, _ => False
structure Ok (K : PySem.W.Frag) (α : List Addr) (S : Hd) (H : Hp) : Prop where
  len : α.length = S.length
  nd : ∀ (i j : Nat) (a : Addr), α[i]? = some a → α[j]? = some a → i = j
  at_ : ∀ (k : Nat) (o : O) (a : Addr), S[k]? = some o → α[k]? = some a → ∃ u, H a = some u ∧ Ob K α H o u
structure En (K : PySem.W.Frag) (α : List Addr) (H : Hp) (env : Sl) (σ : L2.St) : Prop where
  len : σ.length = env.length
  at_ : ∀ (i : Nat) (d : D), env[i]? = some (some d) → ∃ v, σ[i]? = some (some v) ∧ Rp K α H d v
/-- what lasts -/
structure Xt (K : PySem.W.Frag) (α : List Addr) (H : Hp) (α' : List Addr) (H' : Hp) : Prop where
  pre : ∀ (k : Nat) (a : Addr), α[k]? = some a → α'[k]? = some a
  tup : ∀ (a : Addr) (vs : List V), SqT K H a vs → SqT K H' a vs
  frz : ∀ (a : Addr) (o : Obj) (u : HO), H a = some (.frz o u) → H' a = some (.frz o u)

section
variable {K : PySem.W.Frag} {α α1 α2 : List Addr} {H H1 H2 : Hp} {d : D} {v : V} {xs : List D} {vs : List V} {S : Hd} {env : Sl} {σ : L2.St}
theorem Xt.refl : Xt K α H α H := ⟨fun _ _ h => h, fun _ _ h => h, fun _ _ _ h => h⟩
theorem Xt.trans (a : Xt K α H α1 H1) (b : Xt K α1 H1 α2 H2) : Xt K α H α2 H2 := ⟨fun k x h => b.pre k x (a.pre k x h), fun x y h => b.tup x y (a.tup x y h), fun x y z h => b.frz x y z (a.frz x y z h)⟩
theorem Rp.mono (e : Xt K α H α1 H1) (h : Rp K α H d v) : Rp K α1 H1 d v := by
  induction h with
  | non => exact .non
  | bl b => exact .bl b
  | int i => exact .int i
  | str x => exact .str x
  | ty n => exact .ty n
  | ref h => exact .ref (e.pre _ _ h)
  | tup h l r ih => exact .tup (e.tup _ _ h) l ih
  | ro h =>
    rcases h with ⟨o, h⟩ | h
    · exact .ro (.inl ⟨o, e.frz _ _ _ h⟩)
    · exact .ro (.inr h)
theorem Rps.mono (e : Xt K α H α1 H1) (h : Rps K α H xs vs) : Rps K α1 H1 xs vs := ⟨h.len, fun i x v a b => (h.at_ i x v a b).mono e⟩
theorem En.mono (e : Xt K α H α1 H1) (h : En K α H env σ) : En K α1 H1 env σ := ⟨h.len, fun i d a => let ⟨v, b, c⟩ := h.at_ i d a; ⟨v, b, c.mono e⟩⟩
theorem Rps.nil : Rps K α H [] [] := ⟨rfl, fun i x v h => by simp at h⟩
theorem Rps.cons (h : Rp K α H d v) (r : Rps K α H xs vs) : Rps K α H (d :: xs) (v :: vs) := by
  refine ⟨by simp [r.len], fun i x w a b => ?_⟩
  cases i with
  | zero =>
    simp at a b
    subst a b
    exact h
  | succ i => exact r.at_ i x w (by simpa using a) (by simpa using b)
theorem Rps.append {ys : List D} {ws : List V} (h : Rps K α H xs vs) (r : Rps K α H ys ws) : Rps K α H (xs ++ ys) (vs ++ ws) := by
  refine ⟨by simp [h.len, r.len], fun i x w a b => ?_⟩
  by_cases hi : i < xs.length
  · rw [List.getElem?_append_left hi] at a
    rw [List.getElem?_append_left (by rw [h.len]; exact hi)] at b
    exact h.at_ i x w a b
  · rw [List.getElem?_append_right (by omega)] at a
    rw [List.getElem?_append_right (by rw [h.len]; omega), h.len] at b
    exact r.at_ _ x w a b
theorem Rps.one (h : Rp K α H d v) : Rps K α H [d] [v] := .cons h .nil
theorem Rps.uncons (h : Rps K α H (d :: xs) vs) : ∃ w ws, vs = w :: ws ∧ Rp K α H d w ∧ Rps K α H xs ws := by
  cases vs with
  | nil =>
    have := h.len
    simp at this
  | cons w ws => exact ⟨w, ws, rfl, h.at_ 0 d w rfl rfl, by have := h.len; simpa using this, fun i x v a b => h.at_ (i + 1) x v (by simpa using a) (by simpa using b)⟩
theorem Rps.unnil (h : Rps K α H [] vs) : vs = [] := List.eq_nil_of_length_eq_zero h.len
theorem Rps.take (h : Rps K α H xs vs) (n : Nat) : Rps K α H (xs.take n) (vs.take n) := by
  refine ⟨by simp [h.len], fun i x w a b => ?_⟩
  rw [List.getElem?_take] at a b
  split at a
  · rw [if_pos (by assumption)] at b
    exact h.at_ i x w a b
  · cases a
theorem Rps.drop (h : Rps K α H xs vs) (n : Nat) : Rps K α H (xs.drop n) (vs.drop n) := by
  refine ⟨by simp [h.len], fun i x w a b => ?_⟩
  rw [List.getElem?_drop] at a b
  exact h.at_ _ x w a b
theorem Rps.set (h : Rps K α H xs vs) (j : Nat) (r : Rp K α H d v) : Rps K α H (xs.set j d) (vs.set j v) := by
  refine ⟨by simp [h.len], fun i x w a b => ?_⟩
  by_cases e : j = i
  · subst e
    rw [List.getElem?_set] at a b
    simp only [if_true] at a b
    split at a
    · split at b
      · cases a
        cases b
        exact r
      · cases b
    · cases a
  · rw [List.getElem?_set_ne e] at a b
    exact h.at_ i x w a b
theorem Rps.reverse (h : Rps K α H xs vs) : Rps K α H xs.reverse vs.reverse := by
  refine ⟨by simp [h.len], fun i x w a b => ?_⟩
  by_cases hi : i < xs.length
  · rw [List.getElem?_reverse hi] at a
    rw [List.getElem?_reverse (by rw [h.len]; exact hi), h.len] at b
    exact h.at_ _ x w a b
  · rw [List.getElem?_eq_none (by simpa using hi)] at a
    cases a
theorem Rps.get (h : Rps K α H xs vs) {i : Nat} {x : D} (a : xs[i]? = some x) : ∃ v, vs[i]? = some v ∧ Rp K α H x v := by
  have hi : i < xs.length := (List.getElem?_eq_some_iff.mp a).1
  have hv : i < vs.length := by rw [h.len]; exact hi
  exact ⟨vs[i], by simp [hv], h.at_ i x _ a (by simp [hv])⟩
theorem Rps.getV (h : Rps K α H xs vs) {i : Nat} {v : V} (b : vs[i]? = some v) : ∃ x, xs[i]? = some x ∧ Rp K α H x v := by
  have hv : i < vs.length := (List.getElem?_eq_some_iff.mp b).1
  have hi : i < xs.length := by rw [← h.len]; exact hv
  exact ⟨xs[i], by simp [hi], h.at_ i _ v (by simp [hi]) b⟩
theorem En.set (h : En K α H env σ) (i : Nat) (r : Rp K α H d v) : En K α H (env.set i (some d)) (σ.set i (some v)) := by
  refine ⟨by simp [h.len], fun j x a => ?_⟩
  by_cases e : i = j
  · subst e
    rw [List.getElem?_set] at a
    simp only [if_true] at a
    split at a
    · cases a
      exact ⟨v, by rw [List.getElem?_set]; simp [h.len, *], r⟩
    · cases a
  · rw [List.getElem?_set_ne e] at a
    obtain ⟨w, b, c⟩ := h.at_ j x a
    exact ⟨w, by rw [List.getElem?_set_ne e]; exact b, c⟩
theorem Ob.mono (e : Xt K α H α1 H1) {o : O} {u : HO} (h : Ob K α H o u) : Ob K α1 H1 o u := by
  cases o with
  | lst xs =>
    cases u with
    | lst vs => exact Rps.mono e h
    | _ => exact h.elim
  | dct xs =>
    cases u with
    | dK vs => exact ⟨h.1, h.2.mono e⟩
    | _ => exact h.elim

/-- a new object that data knows -/
theorem Xt.fresh {p : Addr} {u : HO} (hp : H p = none) : Xt K α H α (upd H p u) :=
  ⟨fun _ _ h => h, fun a vs h => by
    rcases h with (h | ⟨o, h⟩) | h
    · exact .inl (.inl (by rw [upd_ne (ne_of_none h hp)]; exact h))
    · exact .inl (.inr ⟨o, by rw [upd_ne (ne_of_none h hp)]; exact h⟩)
    · exact .inr h, fun a o u h => by rw [upd_ne (ne_of_none h hp)]; exact h⟩
theorem Ok.fresh {p : Addr} {u : HO} (ok : Ok K α S H) (hp : H p = none) : Ok K α S (upd H p u) :=
  ⟨ok.len, ok.nd, fun k o a h1 h2 => by
    obtain ⟨w, e, b⟩ := ok.at_ k o a h1 h2
    exact ⟨w, by rw [upd_ne (ne_of_none e hp)]; exact e, b.mono (Xt.fresh hp)⟩⟩
theorem Xt.snoc {p : Addr} (hp : H p = none) {u : HO} : Xt K α H (α ++ [p]) (upd H p u) :=
  ⟨fun k a h => by rw [List.getElem?_append_left (List.getElem?_eq_some_iff.mp h).1]; exact h, (Xt.fresh (K := K) (α := α) hp).tup, (Xt.fresh (K := K) (α := α) hp).frz⟩
theorem Ok.snoc {p : Addr} {o : O} {u : HO} (ok : Ok K α S H) (hp : H p = none) (b : Ob K α H o u) : Ok K (α ++ [p]) (S ++ [o]) (upd H p u) := by
  have old : ∀ (i : Nat) (a : Addr), α[i]? = some a → a ≠ p := fun i a h => by
    have hi : i < S.length := by rw [← ok.len]; exact (List.getElem?_eq_some_iff.mp h).1
    obtain ⟨w, e, _⟩ := ok.at_ i _ a (List.getElem?_eq_getElem hi) h
    exact ne_of_none e hp
  have spl : ∀ (i : Nat) (a : Addr), (α ++ [p])[i]? = some a → (i < α.length ∧ α[i]? = some a) ∨ (i = α.length ∧ a = p) := fun i a h => by
    by_cases hi : i < α.length
    · rw [List.getElem?_append_left hi] at h
      exact .inl ⟨hi, h⟩
    · rw [List.getElem?_append_right (by omega)] at h
      have h0 : i - α.length = 0 := by
        have := (List.getElem?_eq_some_iff.mp h).1
        simp at this
        omega
      rw [h0] at h
      simp at h
      exact .inr ⟨by omega, h.symm⟩
  refine ⟨by simp [ok.len], fun i j a h1 h2 => ?_, fun k q a h1 h2 => ?_⟩
  · rcases spl i a h1 with ⟨_, q1⟩ | ⟨e1, f1⟩
    · rcases spl j a h2 with ⟨_, q2⟩ | ⟨_, f2⟩
      · exact ok.nd i j a q1 q2
      · exact absurd f2 (old i a q1)
    · rcases spl j a h2 with ⟨_, q2⟩ | ⟨e2, _⟩
      · exact absurd f1 (old j a q2)
      · omega
  · rcases spl k a h2 with ⟨hk, q2⟩ | ⟨e1, f1⟩
    · rw [List.getElem?_append_left (by rw [← ok.len]; exact hk)] at h1
      obtain ⟨w, e, c⟩ := ok.at_ k q a h1 q2
      exact ⟨w, by rw [upd_ne (old k a q2)]; exact e, c.mono (Xt.snoc hp)⟩
    · subst f1
      rw [List.getElem?_append_right (by rw [← ok.len]; omega), e1, ok.len, Nat.sub_self] at h1
      have e : o = q := by simpa using h1
      subst e
      exact ⟨u, upd_same, b.mono (Xt.snoc hp)⟩
theorem Rp.snoc {p : Addr} (hl : α.length = S.length) {H' : Hp} : Rp K (α ++ [p]) H' (.ref S.length) (.ref p) := .ref (by rw [← hl]; simp)
/-- a list of ours is changed -/
theorem Xt.write {p : Addr} {ws : List V} {u : HO} (hp : H p = some (.lst ws)) : Xt K α H α (upd H p u) :=
  ⟨fun _ _ h => h, fun a vs h => by
    rcases h with (h | ⟨o, h⟩) | h
    · exact .inl (.inl (by rw [upd_ne (ne_of h hp (by intro z; cases z))]; exact h))
    · exact .inl (.inr ⟨o, by rw [upd_ne (ne_of h hp (by intro z; cases z))]; exact h⟩)
    · exact .inr h, fun a o u h => by rw [upd_ne (ne_of h hp (by intro z; cases z))]; exact h⟩
theorem Ok.write {p : Addr} {ws : List V} {o : O} {u : HO} {k : Nat} (ok : Ok K α S H) (hk : α[k]? = some p) (hp : H p = some (.lst ws)) (b : Ob K α H o u) : Ok K α (S.set k o) (upd H p u) := by
  refine ⟨by simp [ok.len], ok.nd, fun j q a h1 h2 => ?_⟩
  by_cases e : k = j
  · subst e
    rw [hk] at h2
    cases h2
    rw [List.getElem?_set] at h1
    simp only [if_true] at h1
    split at h1
    · cases h1
      exact ⟨u, upd_same, b.mono (Xt.write hp)⟩
    · cases h1
  · rw [List.getElem?_set_ne e] at h1
    obtain ⟨w, f, c⟩ := ok.at_ j q a h1 h2
    exact ⟨w, by rw [upd_ne (fun z => e (ok.nd k j a (by rw [z]; exact hk) h2))]; exact f, c.mono (Xt.write hp)⟩
/-- a dict of ours is changed -/
theorem Xt.writeD {p : Addr} {ws : List (Key × V)} {u : HO} (hp : H p = some (.dK ws)) : Xt K α H α (upd H p u) :=
  ⟨fun _ _ h => h, fun a vs h => by
    rcases h with (h | ⟨o, h⟩) | h
    · exact .inl (.inl (by rw [upd_ne (ne_of h hp (by intro z; cases z))]; exact h))
    · exact .inl (.inr ⟨o, by rw [upd_ne (ne_of h hp (by intro z; cases z))]; exact h⟩)
    · exact .inr h, fun a o u h => by rw [upd_ne (ne_of h hp (by intro z; cases z))]; exact h⟩
theorem Ok.writeD {p : Addr} {ws : List (Key × V)} {o : O} {u : HO} {k : Nat} (ok : Ok K α S H) (hk : α[k]? = some p) (hp : H p = some (.dK ws)) (b : Ob K α H o u) : Ok K α (S.set k o) (upd H p u) := by
  refine ⟨by simp [ok.len], ok.nd, fun j q a h1 h2 => ?_⟩
  by_cases e : k = j
  · subst e
    rw [hk] at h2
    cases h2
    rw [List.getElem?_set] at h1
    simp only [if_true] at h1
    split at h1
    · cases h1
      exact ⟨u, upd_same, b.mono (Xt.writeD hp)⟩
    · cases h1
  · rw [List.getElem?_set_ne e] at h1
    obtain ⟨w, f, c⟩ := ok.at_ j q a h1 h2
    exact ⟨w, by rw [upd_ne (fun z => e (ok.nd k j a (by rw [z]; exact hk) h2))]; exact f, c.mono (Xt.writeD hp)⟩
theorem Ok.dct {k : Nat} {ks : List (Key × D)} {v : V} (ok : Ok K α S H) (h : S[k]? = some (.dct ks)) (r : Rp K α H (.ref k) v) : ∃ a vs, v = .ref a ∧ α[k]? = some a ∧ H a = some (.dK vs) ∧ vs.map (·.1) = ks.map (·.1) ∧ Rps K α H (ks.map (·.2)) (vs.map (·.2)) := by
  cases r with
  | ref e =>
    obtain ⟨u, e2, b⟩ := ok.at_ k _ _ h e
    cases u with
    | dK vs => exact ⟨_, vs, rfl, e, e2, b.1, b.2⟩
    | _ => exact b.elim
theorem Ok.get {k : Nat} {o : O} (ok : Ok K α S H) (h : S[k]? = some o) : ∃ a u, α[k]? = some a ∧ H a = some u ∧ Ob K α H o u := by
  have hk : k < α.length := by rw [ok.len]; exact (List.getElem?_eq_some_iff.mp h).1
  obtain ⟨u, e, b⟩ := ok.at_ k o _ h (List.getElem?_eq_getElem hk)
  exact ⟨_, u, List.getElem?_eq_getElem hk, e, b⟩
theorem Ok.lst {k : Nat} {xs : List D} {v : V} (ok : Ok K α S H) (h : S[k]? = some (.lst xs)) (r : Rp K α H (.ref k) v) : ∃ a vs, v = .ref a ∧ α[k]? = some a ∧ H a = some (.lst vs) ∧ Rps K α H xs vs := by
  cases r with
  | ref e =>
    obtain ⟨u, e2, b⟩ := ok.at_ k _ _ h e
    cases u with
    | lst vs => exact ⟨_, vs, rfl, e, e2, b⟩
    | _ => exact b.elim
end
end Ix

namespace Ix
open PySem L2
/-! ### the language -/
inductive Bo where | add | sub | mul | fdiv | mod | pow
inductive Co where | eq | ne | lt | le | gt | ge | is_ | isnot | in_ | notin
inductive Cd where | eq | ne | in_ | notin
inductive Bl where | len | int_ | max_ | min_ | abs_ | all_ | any_ | tuple_ | list_ | isi | str_ | sum_ | sorted_ | sortp_ | ssort_ | lrange_ | slen | sint
inductive Ik where | seq | range1 | range2 | zip | enum | chars
inductive Mt where | append | clear
inductive G where | name (i : Nat) | tup (g : G) | nil | cons (g h : G)
inductive E where
  | var (i : Nat) | c (d : D) | nop
  | bin (o : Bo) (a b : E) | neg (a : E) | not_ (a : E)
  | cmp (o : Co) (a b : E) | cmpd (o : Cd) (a b : E) | chain (o p : Co) (a b c : E)
  | and_ (a b : E) | or_ (a b : E) | orv (a b : E) | ite (c a b : E)
  | ix (a i : E) | sl (l h : Bool) (a lo hi : E) | rev (a : E)
  | tup (es : E) | lst (es : E) | nil | cons (e es : E)
  | dct (es : E) | dget (a i : E)
  | cix (t : List (Str × D)) (a : E) | cget (t : List (Str × D)) (a : E) | cnts (a b : E) | rpr (a : E)
  | call (f : Nat) (es : E) | callK (f : Nat) (es ks : E) (perm : List Nat)
  | blt (b : Bl) (es : E) | meth (m : Mt) (o es : E)
  | lc (k : Ik) (es : E) (g : G) (ifs elt : E) (own : List Nat)
  | getd (a i d : E) | joinS (z : Str) (a : E) | cin (neg : Bool) (t : List (Str × D)) (a : E) | sgn (a b : E) | stw (a : E) (z : Str) | split (a : E) (z : Str)
inductive Sx where
  | skip | seq (s t : Sx) | asg (g : G) (e : E) | asgL (g : G) (e : E) | setix (o i e : E) | drop (e : E) | ret (e : E) | retN
  | ite (c : E) (s t : Sx) | for_ (k : Ik) (es : E) (g : G) (b : Sx) | brk | cont | stuck | aug (i : Nat) (o : Bo) (e : E) | while_ (c : E) (b : Sx)
inductive Out where | nx | ret (d : D) | brk | cont

/-! ### operations -/
def most : Nat := 100000
def seqOf (S : Hd) : D → Option (List D)
  | .tup xs => some xs
  | .ref k => match S[k]? with | some (.lst xs) => some xs | _ => none
  | .ro ns => some (ns.map .int)
  | _ => none
def isTup : D → Bool
  | .tup _ => true
  | _ => false
def tru (S : Hd) : D → Option Bool
  | .non => some false
  | .bl b => some b
  | .int i => some (i != 0)
  | .str _ => none
  | .ty _ => none
  | d => (seqOf S d).map fun xs => !xs.isEmpty
def flat : D → Bool
  | .non => true | .bl _ => true | .int _ => true | .str _ => true | _ => false
def eqF : D → D → Bool
  | .non, .non => true
  | .bl a, .bl b => a == b
  | .bl a, .int b => (if a then 1 else 0) == b
  | .int a, .bl b => a == (if b then 1 else 0)
  | .int a, .int b => a == b
  | .str a, .str b => a == b
  | _, _ => false
def alloc (S : Hd) (xs : List D) : D × Hd := (.ref S.length, S ++ [.lst xs])
def binD : Bo → D → D → Hd → Option (D × Hd)
  | .add, .int i, .int j, S => some (.int (i + j), S)
  | .add, .str x, .str y, S => if x.length + y.length ≤ most then some (.str (x ++ y), S) else none
  | .add, .tup xs, .tup ys, S => if xs.length + ys.length ≤ most then some (.tup (xs ++ ys), S) else none
  | .add, .ref a, .ref b, S => match S[a]?, S[b]? with
    | some (.lst xs), some (.lst ys) => if xs.length + ys.length ≤ most then some (alloc S (xs ++ ys)) else none
    | _, _ => none
  | .add, .ro ns, .ref b, S => match S[b]? with
    | some (.lst ys) => if ns.length + ys.length ≤ most then some (alloc S (ns.map .int ++ ys)) else none
    | _ => none
  | .sub, .int i, .int j, S => some (.int (i - j), S)
  | .mul, .int i, .int j, S => if i.natAbs.log2 + j.natAbs.log2 < 1000000 then some (.int (i * j), S) else none
  | .mul, .ref a, .int k, S => match S[a]? with
    | some (.lst xs) => if -(2 ^ 63) ≤ k ∧ k < 2 ^ 63 ∧ xs.length * k.toNat ≤ most then some (alloc S (List.replicate k.toNat xs).flatten) else none
    | _ => none
  | .fdiv, .int i, .int j, S => if 0 < j ∧ j.natAbs.log2 < 9000 then some (.int (i / j), S) else none
  | .mod, .int i, .int j, S => if 0 < j then some (.int (i % j), S) else none
  | .pow, .int i, .int j, S => if 0 ≤ j ∧ j ≤ 1000000 ∧ i.natAbs < 2 ^ 64 then some (.int (i ^ j.toNat), S) else none
  | _, _, _, _ => none
/-- what == tells of scalars alike -/
def scalD : D → D → Option Bool
  | .non, .non => some true | .int i, .int j => some (decide (i = j)) | .bl i, .bl j => some (decide (i = j)) | .str i, .str j => some (decide (i = j))
  | .non, .int _ => some false | .int _, .non => some false | .non, .bl _ => some false | .bl _, .non => some false | .non, .str _ => some false | .str _, .non => some false
  | .int _, .str _ => some false | .str _, .int _ => some false | .bl _, .str _ => some false | .str _, .bl _ => some false
  | _, _ => none
def isNon : D → Bool
  | .non => true | _ => false
def cmpD : Co → D → D → Hd → Option (D × Hd)
  | .eq, x, y, S => (scalD x y).map fun b => (.bl b, S)
  | .ne, x, y, S => (scalD x y).map fun b => (.bl (!b), S)
  | .lt, .int i, .int j, S => some (.bl (decide (i < j)), S)
  | .le, .int i, .int j, S => some (.bl (decide (i ≤ j)), S)
  | .gt, .int i, .int j, S => some (.bl (decide (j < i)), S)
  | .ge, .int i, .int j, S => some (.bl (decide (j ≤ i)), S)
  | .is_, x, .non, S => some (.bl (isNon x), S)
  | .is_, .bl i, .bl j, S => some (.bl (decide (i = j)), S)
  | .isnot, .bl i, .bl j, S => some (.bl (!decide (i = j)), S)
  | .isnot, x, .non, S => some (.bl (!isNon x), S)
  | .in_, x, y, S => if flat x then (seqOf S y).bind fun xs => if xs.all flat then some (.bl (xs.any fun z => eqF z x), S) else none else none
  | .notin, x, y, S => if flat x then (seqOf S y).bind fun xs => if xs.all flat then some (.bl (!xs.any fun z => eqF z x), S) else none else none
  | _, _, _, _ => none
/-- keys and what stands beside them -/
def keyD : D → Option Key
  | .int i => some (.inl i)
  | .str x => some (.inr x)
  | _ => none
def pairUp : List D → Option (List (Key × D))
  | [] => some []
  | k :: v :: ds => (keyD k).bind fun x => (pairUp ds).map ((x, v) :: ·)
  | _ => none
def lookC (t : List (Str × D)) (z : Str) : Option D := (t.find? fun p => decide (p.1 = z)).map (·.2)
def strsD : List D → Option (List Str)
  | [] => some []
  | .str z :: ds => (strsD ds).map (z :: ·)
  | _ => none
def cntD (x y : D) (S : Hd) : Option (D × Hd) := match x, y with
  | .ref k, .str z => match S[k]? with
    | some (.lst xs) => (strsD xs).map fun ys => (.int (PySem.Spec.countIn (.str z) (ys.map PySem.PyData.str)), S)
    | _ => none
  | _, _ => none
def isDct (S : Hd) : D → Bool
  | .ref k => match S[k]? with
    | some (.dct _) => true
    | _ => false
  | _ => false
def joinD (z : Str) (x : D) (S : Hd) : Option (D × Hd) := ((seqOf S x).bind strsD).bind fun ys => if (ys.map (·.length)).sum + ys.length * z.length ≤ 16777216 then some (.str (Txt.join z ys), S) else none
def isE : Option O → Bool
  | some (.dct []) => true
  | _ => false
def findK (ks : List (Key × D)) (k : Key) : Option D := (ks.find? fun kv => decide (kv.1 = k)).map (·.2)
def dgetD (x i : D) (S : Hd) : Option (D × Hd) := match x with
  | .ref k => match S[k]? with
    | some (.dct ks) => (keyD i).bind fun y => (findK ks y).map fun d => (d, S)
    | _ => none
  | _ => none
def getdD (x i d : D) (S : Hd) : Option (D × Hd) := match x with
  | .ref k => match S[k]? with
    | some (.dct ks) => (keyD i).map fun y => ((findK ks y).getD d, S)
    | _ => none
  | _ => none
/-- data as the library compares it -/
def pyL (f : D → Option PyData) : List D → Option (List PyData)
  | [] => some []
  | d :: ds => (f d).bind fun x => (pyL f ds).map (x :: ·)
def py : Nat → Hd → D → Option PyData
  | 0, _, _ => none
  | _ + 1, _, .non => some .none
  | _ + 1, _, .bl b => some (.bool b)
  | _ + 1, _, .int i => some (.int i)
  | _ + 1, _, .str x => some (.str x)
  | n + 1, S, .tup xs => (pyL (py n S) xs).map .tuple
  | n + 1, S, .ref k => match S[k]? with
    | some (.lst xs) => (pyL (py n S) xs).map .list
    | _ => none
  | _ + 1, _, _ => none
def rprD (x : D) (S : Hd) : Option (D × Hd) := match x with
  | .int _ | .bl _ | .str _ | .non | .ro _ | .ty _ => none
  | x => (py 9 S x).bind fun d => if PySem.PyData.showable d = true ∧ PySem.PyData.hasDict d = false ∧ PySem.PyData.depth d ≤ 64 ∧ (PySem.PyData.shown d).length ≤ PySem.sizeLine then some (.str (PySem.PyData.shown d), S) else none
def cmpdD : Cd → D → D → Hd → Option (D × Hd)
  | .eq, x, y, S => (py 9 S x).bind fun d => (py 9 S y).bind fun e => if SeqAt.shaped d = true ∧ SeqAt.shaped e = true then some (.bl (PyData.eqv d e), S) else none
  | .ne, x, y, S => (py 9 S x).bind fun d => (py 9 S y).bind fun e => if SeqAt.shaped d = true ∧ SeqAt.shaped e = true then some (.bl (!PyData.eqv d e), S) else none
  | .in_, x, y, S => (py 9 S x).bind fun d => (py 9 S y).bind fun e => match e with
    | .list ds => if SeqAt.shaped d = true ∧ SeqAt.shaped (.list ds) = true then some (.bl (ds.any fun z => PyData.eqv z d), S) else none
    | _ => none
  | .notin, x, y, S => (py 9 S x).bind fun d => (py 9 S y).bind fun e => match e with
    | .list ds => if SeqAt.shaped d = true ∧ SeqAt.shaped (.list ds) = true then some (.bl (!ds.any fun z => PyData.eqv z d), S) else none
    | _ => none
def ixD (x i : D) (S : Hd) : Option (D × Hd) := match i with
  | .int k => (seqOf S x).bind fun xs => (atI xs k).map fun d => (d, S)
  | _ => none
def cutD (xs : List D) (lo hi : Option Int) : List D := (xs.drop (HT.sIx xs.length 0 lo)).take (HT.sIx xs.length xs.length hi - HT.sIx xs.length 0 lo)
def evP (b : Bool) (r : Option (D × Hd)) (S : Hd) : Option (Option Int × Hd) := if b = true then r.bind fun x => match x.1 with
    | .int i => some (some i, x.2)
    | _ => none
  else some (none, S)
def slD (x : D) (l h : Option Int) (S : Hd) : Option (D × Hd) := match x with
  | .str z => if z.length ≤ most then some (.str (cutS z l h), S) else none
  | .tup xs => some (.tup (cutD xs l h), S)
  | x => (seqOf S x).map fun xs => alloc S (cutD xs l h)
def revD (x : D) (S : Hd) : Option (D × Hd) := match x with
  | .tup xs => some (.tup xs.reverse, S)
  | x => (seqOf S x).map fun xs => alloc S xs.reverse
def tyName (S : Hd) : D → Option String
  | .non => some "NoneType" | .bl _ => some "bool" | .int _ => some "int" | .str _ => some "str" | .tup _ => some "tuple" | .ro _ => some "list"
  | .ref k => match S[k]? with | some (.lst _) => some "list" | _ => none
  | .ty _ => none
def isaN (n c : String) : Bool := n == c || (n == "bool" && c == "int")
def plainTy (c : String) : Bool := ["int", "bool", "str", "tuple", "list"].contains c
def bools : List D → Option (List Bool)
  | [] => some []
  | .bl b :: ds => (bools ds).map (b :: ·)
  | _ => none
def intsD : List D → Option (List Int)
  | [] => some []
  | .int i :: ds => (intsD ds).map (i :: ·)
  | _ => none
def maxL : List Int → Option Int
  | [] => none
  | i :: is => some (is.foldl (fun a b => if b > a then b else a) i)
def insI (i : Int) : List Int → List Int
  | [] => [i]
  | j :: js => if i ≤ j then i :: j :: js else j :: insI i js
def srtI : List Int → List Int
  | [] => []
  | i :: is => insI i (srtI is)
/-- the numbers of a list -/
def intsAt (S : Hd) (x : D) : Option (List Int) := if isTup x = true then none else (seqOf S x).bind intsD
def pairsD : List D → Option (List (Int × Int))
  | [] => some []
  | .tup [.int i, .int j] :: ds => (pairsD ds).map ((i, j) :: ·)
  | _ => none
def lexLe (p q : Int × Int) : Prop := p.1 < q.1 ∨ (p.1 = q.1 ∧ p.2 ≤ q.2)
instance (p q : Int × Int) : Decidable (lexLe p q) := by unfold lexLe; infer_instance
def insP (p : Int × Int) : List (Int × Int) → List (Int × Int)
  | [] => [p]
  | q :: qs => if lexLe p q then p :: q :: qs else q :: insP p qs
def srtP : List (Int × Int) → List (Int × Int)
  | [] => []
  | p :: ps => insP p (srtP ps)
def pairD (p : Int × Int) : D := .tup [.int p.1, .int p.2]
def pairsAt (S : Hd) (x : D) : Option (List (Int × Int)) := if isTup x = true then none else (seqOf S x).bind pairsD
/-- each number once -/
def insU (i : Int) : List Int → List Int
  | [] => [i]
  | j :: js => if i < j then i :: j :: js else if i = j then j :: js else j :: insU i js
def srtU : List Int → List Int
  | [] => []
  | i :: is => insU i (srtU is)
def tysOf : List D → Option (List String)
  | [] => some []
  | .ty c :: ds => if plainTy c then (tysOf ds).map (c :: ·) else none
  | _ => none
def bltD : Bl → List D → Hd → Option (D × Hd)
  | .len, [x], S => (seqOf S x).map fun xs => (.int xs.length, S)
  | .int_, [.int i], S => some (.int i, S)
  | .int_, [.bl b], S => some (.int (if b then 1 else 0), S)
  | .abs_, [.int i], S => some (.int (if i < 0 then -i else i), S)
  | .max_, [.int i, .int j], S => some (.int (if j > i then j else i), S)
  | .max_, [x], S => ((intsAt S x).bind maxL).map fun m => (.int m, S)
  | .sum_, [x], S => (intsAt S x).map fun ns => (.int ns.sum, S)
  | .sorted_, [x], S => (intsAt S x).map fun ns => alloc S ((srtI ns).map .int)
  | .sortp_, [x], S => (pairsAt S x).map fun ps => alloc S ((srtP ps).map pairD)
  | .ssort_, [x], S => (intsAt S x).bind fun ns => if ns.length ≤ 4000 ∧ (srtU ns).length < 64 then some (alloc S ((srtU ns).map .int)) else none
  | .lrange_, [.int a, .int b], S => if -(2 ^ 62) ≤ a ∧ a < 2 ^ 62 ∧ -(2 ^ 62) ≤ b ∧ b < 2 ^ 62 ∧ (b - a).toNat ≤ most then some (alloc S ((List.range (b - a).toNat).map fun (i : Nat) => .int (a + (i : Int)))) else none
  | .min_, [.int i, .int j], S => some (.int (if j < i then j else i), S)
  | .all_, [x], S => if isTup x then none else ((seqOf S x).bind bools).map fun bs => (.bl (bs.all id), S)
  | .any_, [x], S => if isTup x then none else ((seqOf S x).bind bools).map fun bs => (.bl (bs.any id), S)
  | .tuple_, [x], S => (seqOf S x).map fun xs => (.tup xs, S)
  | .list_, [x], S => (seqOf S x).map fun xs => alloc S xs
  | .slen, [.str z], S => if z.length ≤ most then some (.int z.length, S) else none
  | .sint, [.str z], S => if z.length ≤ 640 then (PySem.intText? z).map fun n => (.int n, S) else none
  | .str_, [.str z], S => some (.str z, S)
  | .str_, [.int i], S => if i.natAbs.log2 < 1920 then some (.str (toString i), S) else none
  | .isi, [x, .ty c], S => if plainTy c then (tyName S x).map fun n => (.bl (isaN n c), S) else none
  | .isi, [x, .tup cs], S => (tysOf cs).bind fun ts => (tyName S x).map fun n => (.bl (ts.any (isaN n)), S)
  | _, _, _ => none
def methD : Mt → D → List D → Hd → Option (D × Hd)
  | .clear, .ref k, [], S => match S[k]? with
    | some (.lst _) => some (.non, S.set k (.lst []))
    | _ => none
  | .append, .ref k, [x], S => match S[k]? with
    | some (.lst xs) => if xs.length < most then some (.non, S.set k (.lst (xs ++ [x]))) else none
    | _ => none
  | _, _, _, _ => none
def setD (o i x : D) (S : Hd) : Option Hd := match o, i with
  | .ref k, .int j => match S[k]? with
    | some (.lst xs) => (ixN xs.length j).map fun m => S.set k (.lst (xs.set m x))
    | _ => none
  | _, _ => none
def items : Ik → List D → Hd → Option (List D)
  | .chars, [.str z], _ => some (z.cps.toList.map fun c => .str ⟨#[c]⟩)
  | .seq, [x], S => seqOf S x
  | .range1, [.int n], _ => if -(2 ^ 62) ≤ n ∧ n < 2 ^ 62 then some ((List.range n.toNat).map fun (i : Nat) => .int (0 + (i : Int))) else none
  | .range2, [.int a, .int b], _ => if -(2 ^ 62) ≤ a ∧ a < 2 ^ 62 ∧ -(2 ^ 62) ≤ b ∧ b < 2 ^ 62 then some ((List.range (b - a).toNat).map fun (i : Nat) => .int (a + (i : Int))) else none
  | .enum, [x], S => (seqOf S x).map fun xs => xs.mapIdx fun i d => .tup [.int (i : Int), d]
  | .zip, [x, y], S => if isTup x = isTup y then (seqOf S x).bind fun xs => (seqOf S y).map fun ys => List.zipWith (fun a b => .tup [a, b]) xs ys else none
  | _, _, _ => none
mutual
  def gOk (own : List Nat) : G → Bool
    | .name i => own.contains i
    | .tup g => gOk own g
    | .nil => true
    | .cons g h => gOk own g && gOk own h
end
def gLen : G → Option Nat
  | .nil => some 0
  | .cons _ h => (gLen h).map (· + 1)
  | _ => none
/-- targets: a name, or a tuple of targets; .nil and .cons read the items of a tuple -/
def asgG : G → D → Sl → Option Sl
  | .name i, d, env => some (env.set i (some d))
  | .tup g, .tup xs, env => asgG g (.tup xs) env
  | .nil, .tup [], env => some env
  | .cons g h, .tup (x :: xs), env => (asgG g x env).bind fun env1 => asgG h (.tup xs) env1
  | _, _, _ => none
def wipeD (env : Sl) : List Nat → Sl
  | [] => env
  | v :: vs => (wipeD env vs).set v none
open Classical in
noncomputable def loopH (turn : D → Hd → Option Hd) (still : Hd → Prop) : List D → Hd → Option Hd
  | [], S => some S
  | d :: ds, S => (turn d S).bind fun S1 => if still S1 then loopH turn still ds S1 else none
open Classical in
noncomputable def loopS (turn : D → Sl → Hd → Option (Out × Sl × Hd)) (still : Hd → Prop) : List D → Sl → Hd → Option (Out × Sl × Hd)
  | [], env, S => some (.nx, env, S)
  | d :: ds, env, S => (turn d env S).bind fun r => match r.1 with
    | .brk => some (.nx, r.2)
    | .ret x => some (.ret x, r.2)
    | _ => if still r.2.2 then loopS turn still ds r.2.1 r.2.2 else none
open Classical in
noncomputable def loopW (test : Sl → Hd → Option (Bool × Hd)) (body : Sl → Hd → Option (Out × Sl × Hd)) : Nat → Sl → Hd → Option (Out × Sl × Hd)
  | 0, _, _ => none
  | n + 1, env, S => (test env S).bind fun t => if t.1 = true then (body env t.2).bind fun r => match r.1 with
    | .brk => some (.nx, r.2)
    | .ret x => some (.ret x, r.2)
    | _ => loopW test body n r.2.1 r.2.2
    else some (.nx, env, t.2)
def argsOf : D → Option (List D)
  | .tup ds => some ds
  | _ => none
def tst (r : Option (D × Hd)) : Option (Bool × Hd) := r.bind fun x => (tru x.2 x.1).map fun b => (b, x.2)
def pushD (k : Nat) (x : D) (S : Hd) : Option Hd := match S[k]? with
  | some (.lst xs) => if xs.length < most then some (S.set k (.lst (xs ++ [x]))) else none
  | _ => none
def isLst (S : Hd) : D → Bool
  | .ref k => match S[k]? with
    | some (.lst _) => true
    | _ => false
  | _ => false
abbrev Fs := Nat → List D → Hd → Option (D × Hd)
def permV {β : Type} (perm : List Nat) (zs : List β) : List β := perm.filterMap fun i => zs[i]?
open Classical in
noncomputable def ev (Γ : Fs) : E → Sl → Hd → Option (D × Hd)
  | .var i, env, S => match env[i]? with
    | some (some d) => some (d, S)
    | _ => none
  | .c d, _, S => some (d, S)
  | .nop, _, S => some (.ty "nop", S)
  | .bin o a b, env, S => (ev Γ a env S).bind fun x => (ev Γ b env x.2).bind fun y => binD o x.1 y.1 y.2
  | .neg a, env, S => (ev Γ a env S).bind fun x => match x.1 with
    | .int i => some (.int (-i), x.2)
    | _ => none
  | .not_ a, env, S => (tst (ev Γ a env S)).map fun x => (.bl (!x.1), x.2)
  | .cmp o a b, env, S => (ev Γ a env S).bind fun x => (ev Γ b env x.2).bind fun y => cmpD o x.1 y.1 y.2
  | .cmpd o a b, env, S => (ev Γ a env S).bind fun x => (ev Γ b env x.2).bind fun y => cmpdD o x.1 y.1 y.2
  | .chain o p a b c, env, S => (ev Γ a env S).bind fun x => (ev Γ b env x.2).bind fun y => (cmpD o x.1 y.1 y.2).bind fun z => match z.1 with
    | .bl true => (ev Γ c env z.2).bind fun u => cmpD p y.1 u.1 u.2
    | .bl false => some z
    | _ => none
  | .and_ a b, env, S => (ev Γ a env S).bind fun x => match x.1 with
    | .bl true => ev Γ b env x.2
    | .bl false => some x
    | _ => none
  | .or_ a b, env, S => (ev Γ a env S).bind fun x => match x.1 with
    | .bl false => ev Γ b env x.2
    | .bl true => some x
    | _ => none
  | .orv a b, env, S => (ev Γ a env S).bind fun x => (tru x.2 x.1).bind fun k => if k = true then some x else ev Γ b env x.2
  | .ite c a b, env, S => (tst (ev Γ c env S)).bind fun x => if x.1 = true then ev Γ a env x.2 else ev Γ b env x.2
  | .ix a b, env, S => (ev Γ a env S).bind fun x => (ev Γ b env x.2).bind fun y => ixD x.1 y.1 y.2
  | .sl bl bh a l h, env, S => (ev Γ a env S).bind fun x => (evP bl (ev Γ l env x.2) x.2).bind fun y => (evP bh (ev Γ h env y.2) y.2).bind fun z => slD x.1 y.1 z.1 z.2
  | .rev a, env, S => (ev Γ a env S).bind fun x => revD x.1 x.2
  | .tup es, env, S => (ev Γ es env S).bind fun x => (argsOf x.1).bind fun ds => if ds.length ≤ most then some (.tup ds, x.2) else none
  | .lst es, env, S => (ev Γ es env S).bind fun x => (argsOf x.1).bind fun ds => if ds.length ≤ most then some (alloc x.2 ds) else none
  | .nil, _, S => some (.tup [], S)
  | .cons e es, env, S => (ev Γ e env S).bind fun x => (ev Γ es env x.2).bind fun y => (argsOf y.1).map fun ds => (.tup (x.1 :: ds), y.2)
  | .dct es, env, S => (ev Γ es env (S ++ [.dct []])).bind fun x => (argsOf x.1).bind fun ds => (pairUp ds).bind fun ks => if (ks.map (·.1)).Nodup ∧ ks.length ≤ 15 ∧ isE (x.2[S.length]?) = true then some (.ref S.length, x.2.set S.length (.dct ks)) else none
  | .cix t a, env, S => (ev Γ a env S).bind fun x => match x.1 with
    | .str z => (lookC t z).map fun d => (d, x.2)
    | _ => none
  | .cget t a, env, S => (ev Γ a env S).bind fun x => match x.1 with
    | .str z => some ((lookC t z).getD .non, x.2)
    | _ => none
  | .rpr a, env, S => (ev Γ a env S).bind fun x => rprD x.1 x.2
  | .cnts a b, env, S => (ev Γ a env S).bind fun x => if isLst x.2 x.1 = true then (ev Γ b env x.2).bind fun y => cntD x.1 y.1 y.2 else none
  | .getd a i e, env, S => (ev Γ a env S).bind fun x => if isDct x.2 x.1 = true then (ev Γ i env x.2).bind fun y => (ev Γ e env y.2).bind fun z => getdD x.1 y.1 z.1 z.2 else none
  | .cin neg t a, env, S => (ev Γ a env S).bind fun x => match x.1 with
    | .str z => some (.bl (if neg then !(lookC t z).isSome else (lookC t z).isSome), x.2)
    | _ => none
  | .sgn a b, env, S => (ev Γ a env S).bind fun x => (ev Γ b env x.2).bind fun y => match x.1, y.1 with
    | .str u, .str z => if u.cps.size = 1 then some (.bl (decide (u.cps.getD 0 0 ∈ z.cps.toList)), y.2) else none
    | _, _ => none
  | .stw a z, env, S => (ev Γ a env S).bind fun x => match x.1 with
    | .str u => some (.bl (Txt.startswith u z), x.2)
    | _ => none
  | .split a z, env, S => (ev Γ a env S).bind fun x => match x.1 with
    | .str u => if (z.length == 0) = false ∧ u.length ≤ most ∧ (Txt.split u z).length ≤ most then some (alloc x.2 ((Txt.split u z).map .str)) else none
    | _ => none
  | .joinS z a, env, S => (ev Γ a env S).bind fun x => joinD z x.1 x.2
  | .dget a i, env, S => (ev Γ a env S).bind fun x => (ev Γ i env x.2).bind fun y => dgetD x.1 y.1 y.2
  | .call f es, env, S => (ev Γ es env S).bind fun x => (argsOf x.1).bind fun ds => Γ f ds x.2
  | .callK f es ks perm, env, S => (ev Γ es env S).bind fun x => (argsOf x.1).bind fun ds => (ev Γ ks env x.2).bind fun y => (argsOf y.1).bind fun zs => Γ f (permV perm (ds ++ zs)) y.2
  | .blt b es, env, S => (ev Γ es env S).bind fun x => (argsOf x.1).bind fun ds => bltD b ds x.2
  | .meth m o es, env, S => (ev Γ o env S).bind fun x => if isLst x.2 x.1 = true then (ev Γ es env x.2).bind fun y => (argsOf y.1).bind fun ds => methD m x.1 ds y.2 else none
  | .lc k es g ifs elt own, env, S => if gOk own g = true then (ev Γ es env S).bind fun x => (argsOf x.1).bind fun ds => (items k ds x.2).bind fun its =>
      (loopH (fun d S1 => (asgG g d (wipeD env own)).bind fun env1 => (tst (ev Γ ifs env1 S1)).bind fun t => if t.1 = true then (ev Γ elt env1 t.2).bind fun y => pushD x.2.length y.1 y.2 else some t.2)
        (fun S1 => items k ds S1 = some its) its (x.2 ++ [.lst []])).map fun S2 => (.ref x.2.length, S2)
    else none
noncomputable def ex (Γ : Fs) : Sx → Sl → Hd → Option (Out × Sl × Hd)
  | .skip, env, S => some (.nx, env, S)
  | .seq s t, env, S => (ex Γ s env S).bind fun r => match r.1 with
    | .nx => ex Γ t r.2.1 r.2.2
    | _ => some r
  | .asg g e, env, S => (ev Γ e env S).bind fun x => (asgG g x.1 env).map fun env1 => (.nx, env1, x.2)
  | .asgL g e, env, S => (ev Γ e env S).bind fun x => (if isTup x.1 = true then none else seqOf x.2 x.1).bind fun xs => (asgG g (.tup xs) env).map fun env1 => (.nx, env1, x.2)
  | .setix o i e, env, S => (ev Γ e env S).bind fun x => (ev Γ o env x.2).bind fun y => (ev Γ i env y.2).bind fun z => (setD y.1 z.1 x.1 z.2).map fun S1 => (.nx, env, S1)
  | .drop e, env, S => (ev Γ e env S).map fun x => (.nx, env, x.2)
  | .ret e, env, S => (ev Γ e env S).map fun x => (.ret x.1, env, x.2)
  | .retN, env, S => some (.ret .non, env, S)
  | .ite c s t, env, S => (tst (ev Γ c env S)).bind fun x => if x.1 = true then ex Γ s env x.2 else ex Γ t env x.2
  | .for_ k es g b, env, S => (ev Γ es env S).bind fun x => (argsOf x.1).bind fun ds => (items k ds x.2).bind fun its =>
      loopS (fun d env1 S1 => (asgG g d env1).bind fun env2 => ex Γ b env2 S1) (fun S1 => items k ds S1 = some its) its env x.2
  | .brk, env, S => some (.brk, env, S)
  | .cont, env, S => some (.cont, env, S)
  | .stuck, _, _ => none
  | .while_ c b, env, S => loopW (fun e S1 => tst (ev Γ c e S1)) (fun e S1 => ex Γ b e S1) most env S
  | .aug i o e, env, S => match env[i]? with
    | some (some (.int a)) => (ev Γ e env S).bind fun x => match o, x.1 with
      | .add, .int b => some (.nx, env.set i (some (.int (a + b))), x.2)
      | .sub, .int b => some (.nx, env.set i (some (.int (a - b))), x.2)
      | _, _ => none
    | _ => none
structure Fd where
  np : Nat
  m : Nat
  body : Sx
noncomputable def outD (r : Option (Out × Sl × Hd)) : Option (D × Hd) := r.bind fun r => match r.1 with
  | .ret d => some (d, r.2.2)
  | .nx => some (.non, r.2.2)
  | _ => none
noncomputable def runV (T : Nat → Option Fd) : Nat → Fs
  | 0, _, _, _ => none
  | n + 1, f, ds, S => (T f).bind fun F => if ds.length = F.np then outD (ex (runV T n) F.body (ds.map some ++ List.replicate (F.m - ds.length) none) S) else none
/-- the same, but never unfolded -/
noncomputable def run : (Nat → Option Fd) → Nat → Fs := Classical.choose (⟨runV, rfl⟩ : ∃ f, f = runV)
theorem run_eq : run = runV := Classical.choose_spec (⟨runV, rfl⟩ : ∃ f, f = runV)
theorem run_zero {T : Nat → Option Fd} {f : Nat} {ds : List D} {S : Hd} : run T 0 f ds S = none := by rw [run_eq]; rfl
theorem run_step {T : Nat → Option Fd} {n f : Nat} {ds : List D} {S : Hd} : run T (n + 1) f ds S = (T f).bind fun F => if ds.length = F.np then outD (ex (run T n) F.body (ds.map some ++ List.replicate (F.m - ds.length) none) S) else none := by rw [run_eq]; rfl
end Ix

namespace Ix
open PySem L2
section
variable (K : PySem.W.Frag) (Γ : Fs)
def tr (c : E) : TE := fun σ H Q => ∃ α env S d S', Ok K α S H ∧ En K α H env σ ∧ ev Γ c env S = some (d, S') ∧ ∀ α' H' v, Xt K α H α' H' → Ok K α' S' H' → Rp K α' H' d v → Q v H'
def trA (c : E) : TA := fun σ H Q => ∃ α env S ds S', Ok K α S H ∧ En K α H env σ ∧ ev Γ c env S = some (.tup ds, S') ∧ ∀ α' H' vs, Xt K α H α' H' → Ok K α' S' H' → Rps K α' H' ds vs → Q vs H'
def trT (c : E) : TT := fun σ H Q => ∃ α env S b S', Ok K α S H ∧ En K α H env σ ∧ tst (ev Γ c env S) = some (b, S') ∧ ∀ α' H', Xt K α H α' H' → Ok K α' S' H' → Q b H'
def trO (b : Bool) (c : E) : TO := fun σ H Q => ∃ α env S o S', Ok K α S H ∧ En K α H env σ ∧ evP b (ev Γ c env S) S = some (o, S') ∧ ∀ α' H', Xt K α H α' H' → Ok K α' S' H' → Q o H'
def endS (α' : List Addr) (H' : Hp) (env' : Sl) (D : Ends) : Out → Prop
  | .nx => ∀ σ', En K α' H' env' σ' → D.nx σ' H'
  | .brk => ∀ σ', En K α' H' env' σ' → D.bk σ' H'
  | .cont => ∀ σ', En K α' H' env' σ' → D.ct σ' H'
  | .ret d => ∀ v, Rp K α' H' d v → D.rt v H'
def trS (c : Sx) : TS := fun D σ H => ∃ α env S o env' S', Ok K α S H ∧ En K α H env σ ∧ ex Γ c env S = some (o, env', S') ∧ ∀ α' H', Xt K α H α' H' → Ok K α' S' H' → endS K α' H' env' D o
def trG (g : G) : TG := fun v σ H Q => ∃ α env d env', Rp K α H d v ∧ En K α H env σ ∧ asgG g d env = some env' ∧ ∀ σ', En K α H env' σ' → (∀ own, gOk own g = true → wipe σ' own = wipe σ own) → Q σ' H
def trGs (g : G) : TGs := fun vs σ H Q => ∃ α env ds env', Rps K α H ds vs ∧ En K α H env σ ∧ asgG g (.tup ds) env = some env' ∧ ∀ σ', En K α H env' σ' → (∀ own, gOk own g = true → wipe σ' own = wipe σ own) → Q σ' H
/-- two values in, by f; the arguments in -/
def rB (f : D → D → Hd → Option (D × Hd)) : R2 := fun x y H Q => ∃ α S d1 d2 d S', Ok K α S H ∧ Rp K α H d1 x ∧ Rp K α H d2 y ∧ f d1 d2 S = some (d, S') ∧ ∀ α' H' v, Xt K α H α' H' → Ok K α' S' H' → Rp K α' H' d v → Q v H'
def rA (f : List D → Hd → Option (D × Hd)) : List V → Hp → VK → Prop := fun vs H Q => ∃ α S ds d S', Ok K α S H ∧ Rps K α H ds vs ∧ f ds S = some (d, S') ∧ ∀ α' H' v, Xt K α H α' H' → Ok K α' S' H' → Rp K α' H' d v → Q v H'
def rM (f : D → List D → Hd → Option (D × Hd)) : V → List V → Hp → VK → Prop := fun x vs H Q => ∃ α S d1 ds d S', Ok K α S H ∧ Rp K α H d1 x ∧ Rps K α H ds vs ∧ f d1 ds S = some (d, S') ∧ ∀ α' H' v, Xt K α H α' H' → Ok K α' S' H' → Rp K α' H' d v → Q v H'
end
section
variable {K : PySem.W.Frag} {Γ : Fs} {α : List Addr} {S S' : Hd} {H : Hp} {d x y : D} {v u : V}
/-! ### reading values -/
theorem seq_of {xs : List D} (ok : Ok K α S H) (r : Rp K α H d v) (h : seqOf S d = some xs) : ∃ a vs, v = .ref a ∧ Rps K α H xs vs ∧ ((isTup d = true ∧ SqT K H a vs) ∨ (isTup d = false ∧ SqL K H a vs)) := by
  cases r with
  | tup h1 l q =>
    simp only [seqOf, Option.some.injEq] at h
    subst h
    exact ⟨_, _, rfl, ⟨l, q⟩, .inl ⟨rfl, h1⟩⟩
  | @ref k a e =>
    simp only [seqOf] at h
    split at h
    · rename_i ys e2
      simp only [Option.some.injEq] at h
      subst h
      obtain ⟨a', vs, e3, e4, e5, e6⟩ := ok.lst e2 (.ref e)
      cases e3
      exact ⟨a, vs, rfl, e6, .inr ⟨rfl, SqL.of e5⟩⟩
    · cases h
  | @ro ns a e =>
    simp only [seqOf, Option.some.injEq] at h
    subst h
    refine ⟨a, ns.map V.int, rfl, ⟨by simp, fun i x v h1 h2 => ?_⟩, .inr ⟨rfl, ?_⟩⟩
    · rw [List.getElem?_map] at h1 h2
      cases q : ns[i]? with
      | none =>
        rw [q] at h1
        cases h1
      | some z =>
        rw [q] at h1 h2
        cases h1
        cases h2
        exact .int z
    · rcases e with ⟨o, e⟩ | e
      · exact .inl (.inr ⟨o, e⟩)
      · exact .inr e
  | _ => simp [seqOf] at h
theorem Rps.empty {xs : List D} {vs : List V} (h : Rps K α H xs vs) : vs.isEmpty = xs.isEmpty := by
  cases xs <;> cases vs <;> first | rfl | (have := h.len; simp at this)
theorem tru_of {b : Bool} (ok : Ok K α S H) (r : Rp K α H d v) (h : tru S d = some b) : TruV K v H b := by
  have go : ∀ {e : D}, Rp K α H e v → ((seqOf S e).map fun xs => !xs.isEmpty) = some b → TruV K v H b := fun {e} r h => by
    cases q : seqOf S e with
    | none => rw [q] at h; cases h
    | some xs =>
      rw [q] at h
      have h : (!xs.isEmpty) = b := by simpa using h
      obtain ⟨a, vs, rfl, rs, z⟩ := seq_of ok r q
      rcases z with ⟨_, z⟩ | ⟨_, z⟩
      · exact .inr (.inl ⟨vs, z, by rw [rs.empty, h]⟩)
      · exact .inl ⟨vs, z, by rw [rs.empty, h]⟩
  cases d with
  | non => cases r; simp only [tru, Option.some.injEq] at h; exact h.symm
  | bl c => cases r; simp only [tru, Option.some.injEq] at h; exact h.symm
  | int i => cases r; simp only [tru, Option.some.injEq] at h; exact h.symm
  | str z => simp [tru] at h
  | ty z => simp [tru] at h
  | ref k => exact go r (by simpa [tru] using h)
  | tup xs => exact go r (by simpa [tru] using h)
  | ro xs => exact go r (by simpa [tru] using h)
theorem flat_of (r : Rp K α H d v) (h : flat d = true) : flatV v = true := by
  cases r <;> first | rfl | cases h
theorem flats_of {xs : List D} {vs : List V} (r : Rps K α H xs vs) (h : xs.all flat = true) : vs.all flatV = true := by
  rw [List.all_eq_true] at h ⊢
  intro w hw
  obtain ⟨i, hi⟩ := List.getElem?_of_mem hw
  obtain ⟨z, e, q⟩ := r.getV hi
  exact flat_of q (h z (List.mem_of_getElem? e))
theorem eqF_of (rx : Rp K α H x v) (ry : Rp K α H y u) (fx : flat x = true) (fy : flat y = true) : eqV v u = eqF x y := by
  cases rx <;> cases ry <;> first | rfl | (simp [flat] at fx fy)
theorem any_of {xs : List D} (rx : Rp K α H x v) (fx : flat x = true) : ∀ {xs : List D} {vs : List V}, Rps K α H xs vs → xs.all flat = true → inV v vs = xs.any fun z => eqF z x
  | [], vs, r, _ => by
    rw [r.unnil]
    rfl
  | z :: xs, vs, r, f => by
    obtain ⟨w, ws, rfl, r1, r2⟩ := r.uncons
    rw [List.all_cons, Bool.and_eq_true] at f
    have := any_of (xs := xs) rx fx r2 f.2
    unfold inV at this ⊢
    rw [List.any_cons, List.any_cons, this, eqF_of r1 rx f.1 fx]
theorem scal_of {b : Bool} (rx : Rp K α H x v) (ry : Rp K α H y u) (h : scalD x y = some b) : scal v u = true ∧ decide (v = u) = b := by
  cases rx <;> cases ry <;> simp [scalD] at h <;> (try subst h) <;> simp [scal]
theorem non_of (rx : Rp K α H x v) : decide (v = .non) = isNon x := by
  cases rx <;> simp [isNon]
theorem at_of {β : Type} {xs : List D} {vs : List V} {i : Int} (r : Rps K α H xs vs) (h : atI xs i = some d) : ∃ w, atI vs i = some w ∧ Rp K α H d w := by
  unfold atI at h ⊢
  rw [r.len]
  cases q : ixN xs.length i with
  | none => rw [q] at h; cases h
  | some j =>
    rw [q] at h
    exact r.get h
theorem cut_of {xs : List D} {vs : List V} (r : Rps K α H xs vs) (lo hi : Option Int) : Rps K α H (cutD xs lo hi) (cutV vs lo hi) := by
  unfold cutD cutV
  rw [r.len]
  exact (r.drop _).take _
theorem Rp.newT {p : Addr} {vs : List V} {xs : List D} (hp : H p = none) (r : Rps K α H xs vs) : Rp K α (upd H p (.tup vs)) (.tup xs) (.ref p) := .tup (SqT.of upd_same) r.len (r.mono (Xt.fresh hp)).at_
/-- a new list -/
theorem go_new {Q : VK} {p : Addr} {vs : List V} {xs : List D} (ok : Ok K α S H) (hp : H p = none) (r : Rps K α H xs vs)
    (k : ∀ α' H' v, Xt K α H α' H' → Ok K α' (S ++ [.lst xs]) H' → Rp K α' H' (.ref S.length) v → Q v H') : Q (.ref p) (upd H p (.lst vs)) :=
  k (α ++ [p]) _ _ (Xt.snoc hp) (ok.snoc hp (o := .lst xs) (u := .lst vs) r) (Rp.snoc ok.len)
/-- a new tuple -/
theorem go_tup {Q : VK} {p : Addr} {vs : List V} {xs : List D} (ok : Ok K α S H) (hp : H p = none) (r : Rps K α H xs vs)
    (k : ∀ α' H' v, Xt K α H α' H' → Ok K α' S H' → Rp K α' H' (.tup xs) v → Q v H') : Q (.ref p) (upd H p (.tup vs)) :=
  k α _ _ (Xt.fresh hp) (ok.fresh hp) (Rp.newT hp r)
end
theorem most_line {n : Nat} (h : n ≤ most) : n ≤ sizeLine := Nat.le_trans h (by decide)
theorem most_lt {n : Nat} (h : n < most) : n < sizeLine := Nat.lt_of_lt_of_le h (by decide)

/-! ### weakening -/
section
variable {X : Cx} {e : Expr} {es : List Expr} {st : Stmt} {sts : List Stmt}
theorem pe_w {t t' : TE} (h : PE X e t) (w : ∀ σ H Q, t' σ H Q → t σ H Q) : PE X e t' := ⟨fun pins s σ H Q I q => h.run pins s σ H Q I (w σ H Q q)⟩
theorem pt_w {t t' : TT} (h : PT X e t) (w : ∀ σ H Q, t' σ H Q → t σ H Q) : PT X e t' := ⟨fun pins s σ H Q I q => h.run pins s σ H Q I (w σ H Q q)⟩
theorem pw_w {t t' : TT} (h : PW X e t) (w : ∀ σ H Q, t' σ H Q → t σ H Q) : PW X e t' := ⟨fun wh pins s σ H Q I q => h.run wh pins s σ H Q I (w σ H Q q)⟩
theorem pa_w {t t' : TA} (h : PA X es t) (w : ∀ σ H Q, t' σ H Q → t σ H Q) : PA X es t' := ⟨fun pos pins s σ H Q I q => h.run pos pins s σ H Q I (w σ H Q q)⟩
theorem ps_w {t t' : TS} (h : PS X st t) (w : ∀ D σ H, t' D σ H → t D σ H) : PS X st t' := ⟨fun pins s σ H D I q => h.run pins s σ H D I (w D σ H q)⟩
theorem pss_w {t t' : TS} (h : PSs X sts t) (w : ∀ D σ H, t' D σ H → t D σ H) : PSs X sts t' := ⟨fun pins s σ H D I q => h.run pins s σ H D I (w D σ H q)⟩
theorem pg_w {g t' : TG} (h : PG X e g) (w : ∀ v σ H Q, t' v σ H Q → g v σ H Q) : PG X e t' := ⟨fun pins s σ H v u Q I r q => h.run pins s σ H v u Q I r (w v σ H Q q)⟩
end

/-! ### the operations -/
section
variable {X : Cx}
/-- a list and a list, wherever they lie -/
def rCatR (K : PySem.W.Frag) : R2 := fun x y H Q => ∃ l b xs ys, x = .ref l ∧ y = .ref b ∧ SqL K H l xs ∧ SqL K H b ys ∧ xs.length + ys.length ≤ sizeLine ∧ ∀ p, H p = none → Q (.ref p) (upd H p (.lst (xs ++ ys)))
theorem op_catR : OpR X (binaryOp .Add) (rCatR X.K) := by
  intro pins s σ H x y v u Q I rx ry ⟨l, b, xs, ys, e1, e2, h1, h2, hz, q⟩
  subst e1 e2
  cases rx
  cases ry
  obtain ⟨i1, r1, ⟨⟨cls, dd, data, sl⟩, n, ho, hc, _, hd⟩, _⟩ := I.list h1
  obtain ⟨i2, r2, ⟨⟨cls2, dd2, data2, sl2⟩, n2, ho2, hc2, _, hd2⟩, _⟩ := I.list h2
  simp only at hc hd hc2 hd2
  subst hc hd hc2 hd2
  have z1 := r1.length
  have z2 := r2.length
  refine PySem.concat_meets ⟨_, ho, rfl⟩ ⟨_, ho2, rfl⟩ PySem.noFill_list_add PySem.seq_list_add PySem.F.slot_list_add PySem.F.entry_list_add (PySem.F.args_list_add_2 _ _) (PyProof.Rows.list_addW l b i1.toArray i2.toArray n n2 dd dd2 sl sl2 (by rw [List.size_toArray, List.size_toArray]; omega)) ⟨ho, ho2, ?_⟩
  rw [show i1.toArray ++ i2.toArray = (i1 ++ i2).toArray by simp]
  exact ⟨.ref _, _, I.lnew (t' := s.toks) (r1.append r2) (by rw [List.length_append]; omega), rfl, q _ I.fresh⟩
theorem o_add : OpR X (binaryOp .Add) (rB X.K (binD .add)) := by
  intro pins s σ H x y v u Q I rx ry ⟨α, S, d1, d2, d, S', ok, r1, r2, e, k⟩
  cases d1 with
  | int i =>
    cases d2 with
    | int j =>
      simp only [binD, Option.some.injEq, Prod.mk.injEq] at e
      obtain ⟨rfl, rfl⟩ := e
      cases r1
      cases r2
      exact op_add pins s σ H _ _ v u Q I rx ry ⟨i, j, rfl, rfl, k α H _ Xt.refl ok (.int _)⟩
    | _ => simp [binD] at e
  | str i =>
    cases d2 with
    | str j =>
      simp only [binD] at e
      split at e
      · simp only [Option.some.injEq, Prod.mk.injEq] at e
        obtain ⟨rfl, rfl⟩ := e
        cases r1
        cases r2
        exact op_add_str pins s σ H _ _ v u Q I rx ry ⟨i, j, rfl, rfl, most_line (by assumption), k α H _ Xt.refl ok (.str _)⟩
      · cases e
    | _ => simp [binD] at e
  | tup xs =>
    cases d2 with
    | tup ys =>
      simp only [binD] at e
      split at e
      · rename_i hz
        simp only [Option.some.injEq, Prod.mk.injEq] at e
        obtain ⟨rfl, rfl⟩ := e
        cases r1 with
        | tup h1 l1 q1 =>
          cases r2 with
          | tup h2 l2 q2 =>
            rename_i a va b vb
            refine op_catA pins s σ H _ _ v u Q I rx ry ⟨a, b, va, vb, rfl, rfl, h1, h2, most_line (by omega), fun z => ?_, fun z z2 => ?_, fun z z2 p hp => ?_⟩
            · subst z
              have : xs = [] := by cases xs with
                | nil => rfl
                | cons _ _ => simp at l1
              subst this
              exact k α H _ Xt.refl ok (.tup h2 l2 q2)
            · subst z2
              have : ys = [] := by cases ys with
                | nil => rfl
                | cons _ _ => simp at l2
              subst this
              rw [List.append_nil] at k
              exact k α H _ Xt.refl ok (.tup h1 l1 q1)
            · exact go_tup ok hp (Rps.append ⟨l1, q1⟩ ⟨l2, q2⟩) k
      · cases e
    | _ => simp [binD] at e
  | ref a =>
    cases d2 with
    | ref b =>
      simp only [binD] at e
      split at e
      · rename_i xs ys e1 e2
        split at e
        · rename_i hz
          simp only [alloc, Option.some.injEq, Prod.mk.injEq] at e
          obtain ⟨rfl, rfl⟩ := e
          obtain ⟨a1, v1, rfl, _, h1, q1⟩ := ok.lst e1 r1
          obtain ⟨a2, v2, rfl, _, h2, q2⟩ := ok.lst e2 r2
          exact op_cat pins s σ H _ _ v u Q I rx ry ⟨a1, a2, v1, v2, rfl, rfl, h1, h2, most_line (by rw [q1.len, q2.len]; exact hz), fun p hp => go_new ok hp (q1.append q2) k⟩
        · cases e
      · cases e
    | _ => simp [binD] at e
  | ro ns =>
    cases d2 with
    | ref b =>
      simp only [binD] at e
      split at e
      · rename_i ys e2
        split at e
        · rename_i hz
          simp only [alloc, Option.some.injEq, Prod.mk.injEq] at e
          obtain ⟨rfl, rfl⟩ := e
          obtain ⟨a1, v1, rfl, q1, z1⟩ := seq_of ok r1 (show seqOf S (.ro ns) = some (ns.map .int) from rfl)
          obtain ⟨a2, v2, rfl, _, h2, q2⟩ := ok.lst e2 r2
          have h1 : SqL X.K H a1 v1 := by
            rcases z1 with z | z
            · exact absurd z.1 (by simp [isTup])
            · exact z.2
          exact op_catR pins s σ H _ _ v u Q I rx ry ⟨a1, a2, v1, v2, rfl, rfl, h1, SqL.of h2, most_line (by rw [q1.len, q2.len, List.length_map]; exact hz), fun p hp => go_new ok hp (q1.append q2) k⟩
        · cases e
      · cases e
    | _ => simp [binD] at e
  | _ => cases d2 <;> simp [binD] at e
theorem o_sub : OpR X (binaryOp .Sub) (rB X.K (binD .sub)) := by
  intro pins s σ H x y v u Q I rx ry ⟨α, S, d1, d2, d, S', ok, r1, r2, e, k⟩
  cases d1 <;> cases d2 <;> simp [binD] at e
  obtain ⟨rfl, rfl⟩ := e
  cases r1
  cases r2
  exact op_sub pins s σ H _ _ v u Q I rx ry ⟨_, _, rfl, rfl, k α H _ Xt.refl ok (.int _)⟩
theorem o_fdiv : OpR X (binaryOp .FloorDiv) (rB X.K (binD .fdiv)) := by
  intro pins s σ H x y v u Q I rx ry ⟨α, S, d1, d2, d, S', ok, r1, r2, e, k⟩
  cases d1 <;> cases d2 <;> simp [binD] at e
  obtain ⟨h, rfl, rfl⟩ := e
  cases r1
  cases r2
  exact op_fdivW pins s σ H _ _ v u Q I rx ry ⟨_, _, rfl, rfl, h, k α H _ Xt.refl ok (.int _)⟩
theorem o_mod : OpR X (binaryOp .Mod) (rB X.K (binD .mod)) := by
  intro pins s σ H x y v u Q I rx ry ⟨α, S, d1, d2, d, S', ok, r1, r2, e, k⟩
  cases d1 <;> cases d2 <;> simp [binD] at e
  obtain ⟨h, rfl, rfl⟩ := e
  cases r1
  cases r2
  exact op_mod pins s σ H _ _ v u Q I rx ry ⟨_, _, rfl, rfl, h, k α H _ Xt.refl ok (.int _)⟩
theorem o_pow : OpR X (binaryOp .Pow) (rB X.K (binD .pow)) := by
  intro pins s σ H x y v u Q I rx ry ⟨α, S, d1, d2, d, S', ok, r1, r2, e, k⟩
  cases d1 with
  | int i =>
    cases d2 with
    | int j =>
      simp only [binD] at e
      split at e
      · rename_i h
        simp only [Option.some.injEq, Prod.mk.injEq] at e
        obtain ⟨rfl, rfl⟩ := e
        cases r1
        cases r2
        exact op_pow pins s σ H _ _ v u Q I rx ry ⟨i, j, rfl, rfl, h, k α H _ Xt.refl ok (.int _)⟩
      · cases e
    | _ => simp [binD] at e
  | _ => cases d2 <;> simp [binD] at e
theorem flat_rep {K : PySem.W.Frag} {α : List Addr} {H : Hp} {xs : List D} {vs : List V} (r : Rps K α H xs vs) : ∀ n : Nat, Rps K α H (List.replicate n xs).flatten (List.replicate n vs).flatten
  | 0 => .nil
  | n + 1 => by
    rw [List.replicate_succ, List.replicate_succ, List.flatten_cons, List.flatten_cons]
    exact r.append (flat_rep r n)
theorem o_mul : OpR X (binaryOp .Mult) (rB X.K (binD .mul)) := by
  intro pins s σ H x y v u Q I rx ry ⟨α, S, d1, d2, d, S', ok, r1, r2, e, k⟩
  cases d1 with
  | int i =>
    cases d2 with
    | int j =>
      simp only [binD] at e
      split at e
      · rename_i h
        simp only [Option.some.injEq, Prod.mk.injEq] at e
        obtain ⟨rfl, rfl⟩ := e
        cases r1
        cases r2
        exact op_mulW pins s σ H _ _ v u Q I rx ry ⟨i, j, rfl, rfl, h, k α H _ Xt.refl ok (.int _)⟩
      · cases e
    | _ => simp [binD] at e
  | ref a =>
    cases d2 with
    | int j =>
      simp only [binD] at e
      split at e
      · rename_i xs e1
        split at e
        · rename_i hz
          simp only [alloc, Option.some.injEq, Prod.mk.injEq] at e
          obtain ⟨rfl, rfl⟩ := e
          obtain ⟨a1, v1, rfl, _, h1, q1⟩ := ok.lst e1 r1
          cases r2
          exact op_rep pins s σ H _ _ v u Q I rx ry ⟨a1, j, v1, rfl, rfl, h1, hz.1, hz.2.1, most_line (by rw [q1.len]; exact hz.2.2), fun p hp => go_new ok hp (flat_rep q1 _) k⟩
        · cases e
      · cases e
    | _ => simp [binD] at e
  | _ => cases d2 <;> simp [binD] at e
theorem c_eq : OpR X (compareOp .Eq) (rB X.K (cmpD .eq)) := by
  intro pins s σ H x y v u Q I rx ry ⟨α, S, d1, d2, d, S', ok, r1, r2, e, k⟩
  simp only [cmpD, Option.map_eq_some_iff, Prod.mk.injEq] at e
  obtain ⟨b, h, rfl, rfl⟩ := e
  obtain ⟨h1, h2⟩ := scal_of r1 r2 h
  exact op_eq pins s σ H _ _ v u Q I rx ry ⟨h1, k α H _ Xt.refl ok (by rw [h2]; exact .bl _)⟩
theorem c_ne : OpR X (compareOp .NotEq) (rB X.K (cmpD .ne)) := by
  intro pins s σ H x y v u Q I rx ry ⟨α, S, d1, d2, d, S', ok, r1, r2, e, k⟩
  simp only [cmpD, Option.map_eq_some_iff, Prod.mk.injEq] at e
  obtain ⟨b, h, rfl, rfl⟩ := e
  obtain ⟨h1, h2⟩ := scal_of r1 r2 h
  exact op_ne pins s σ H _ _ v u Q I rx ry ⟨h1, k α H _ Xt.refl ok (by rw [h2]; exact .bl _)⟩
theorem c_lt : OpR X (compareOp .Lt) (rB X.K (cmpD .lt)) := by
  intro pins s σ H x y v u Q I rx ry ⟨α, S, d1, d2, d, S', ok, r1, r2, e, k⟩
  cases d1 <;> cases d2 <;> simp [cmpD] at e
  obtain ⟨rfl, rfl⟩ := e
  cases r1
  cases r2
  exact op_lt pins s σ H _ _ v u Q I rx ry ⟨_, _, rfl, rfl, k α H _ Xt.refl ok (.bl _)⟩
theorem c_le : OpR X (compareOp .LtE) (rB X.K (cmpD .le)) := by
  intro pins s σ H x y v u Q I rx ry ⟨α, S, d1, d2, d, S', ok, r1, r2, e, k⟩
  cases d1 <;> cases d2 <;> simp [cmpD] at e
  obtain ⟨rfl, rfl⟩ := e
  cases r1
  cases r2
  exact op_le pins s σ H _ _ v u Q I rx ry ⟨_, _, rfl, rfl, k α H _ Xt.refl ok (.bl _)⟩
theorem c_gt : OpR X (compareOp .Gt) (rB X.K (cmpD .gt)) := by
  intro pins s σ H x y v u Q I rx ry ⟨α, S, d1, d2, d, S', ok, r1, r2, e, k⟩
  cases d1 <;> cases d2 <;> simp [cmpD] at e
  obtain ⟨rfl, rfl⟩ := e
  cases r1
  cases r2
  exact op_gt pins s σ H _ _ v u Q I rx ry ⟨_, _, rfl, rfl, k α H _ Xt.refl ok (.bl _)⟩
theorem c_ge : OpR X (compareOp .GtE) (rB X.K (cmpD .ge)) := by
  intro pins s σ H x y v u Q I rx ry ⟨α, S, d1, d2, d, S', ok, r1, r2, e, k⟩
  cases d1 <;> cases d2 <;> simp [cmpD] at e
  obtain ⟨rfl, rfl⟩ := e
  cases r1
  cases r2
  exact op_ge pins s σ H _ _ v u Q I rx ry ⟨_, _, rfl, rfl, k α H _ Xt.refl ok (.bl _)⟩
theorem c_is : OpR X (compareOp .Is) (rB X.K (cmpD .is_)) := by
  intro pins s σ H x y v u Q I rx ry ⟨α, S, d1, d2, d, S', ok, r1, r2, e, k⟩
  cases d2 with
  | non =>
    simp only [cmpD, Option.some.injEq, Prod.mk.injEq] at e
    obtain ⟨rfl, rfl⟩ := e
    cases r2
    exact op_isN pins s σ H _ _ v u Q I rx ry ⟨rfl, k α H _ Xt.refl ok (by rw [non_of r1]; exact .bl _)⟩
  | bl j =>
    cases d1 with
    | bl i =>
      simp only [cmpD, Option.some.injEq, Prod.mk.injEq] at e
      obtain ⟨rfl, rfl⟩ := e
      cases r1
      cases r2
      exact op_isBl pins s σ H _ _ v u Q I rx ry ⟨i, j, rfl, rfl, k α H _ Xt.refl ok (.bl _)⟩
    | _ => simp [cmpD] at e
  | _ => cases d1 <;> simp [cmpD] at e
theorem c_isnot : OpR X (compareOp .IsNot) (rB X.K (cmpD .isnot)) := by
  intro pins s σ H x y v u Q I rx ry ⟨α, S, d1, d2, d, S', ok, r1, r2, e, k⟩
  cases d2 with
  | non =>
    simp only [cmpD, Option.some.injEq, Prod.mk.injEq] at e
    obtain ⟨rfl, rfl⟩ := e
    cases r2
    exact op_notN pins s σ H _ _ v u Q I rx ry ⟨rfl, k α H _ Xt.refl ok (by rw [non_of r1]; exact .bl _)⟩
  | bl j =>
    cases d1 with
    | bl i =>
      simp only [cmpD, Option.some.injEq, Prod.mk.injEq] at e
      obtain ⟨rfl, rfl⟩ := e
      cases r1
      cases r2
      exact op_notBl pins s σ H _ _ v u Q I rx ry ⟨i, j, rfl, rfl, k α H _ Xt.refl ok (.bl _)⟩
    | _ => simp [cmpD] at e
  | _ => cases d1 <;> simp [cmpD] at e
theorem c_in : OpR X (compareOp .In) (rB X.K (cmpD .in_)) := by
  intro pins s σ H x y v u Q I rx ry ⟨α, S, d1, d2, d, S', ok, r1, r2, e, k⟩
  simp only [cmpD] at e
  split at e
  · rename_i f
    rw [Option.bind_eq_some_iff] at e
    obtain ⟨xs, h1, e⟩ := e
    split at e
    · rename_i g
      simp only [Option.some.injEq, Prod.mk.injEq] at e
      obtain ⟨rfl, rfl⟩ := e
      obtain ⟨a, vs, rfl, rs, z⟩ := seq_of ok r2 h1
      refine op_in_seq pins s σ H _ _ v u Q I rx ry ⟨a, vs, rfl, z.elim (fun z => .inr z.2) fun z => .inl z.2, flat_of r1 f, flats_of rs g, ?_⟩
      rw [any_of (xs := xs) r1 f rs g]
      exact k α H _ Xt.refl ok (.bl _)
    · cases e
  · cases e
theorem c_notin : OpR X (compareOp .NotIn) (rB X.K (cmpD .notin)) := by
  intro pins s σ H x y v u Q I rx ry ⟨α, S, d1, d2, d, S', ok, r1, r2, e, k⟩
  simp only [cmpD] at e
  split at e
  · rename_i f
    rw [Option.bind_eq_some_iff] at e
    obtain ⟨xs, h1, e⟩ := e
    split at e
    · rename_i g
      simp only [Option.some.injEq, Prod.mk.injEq] at e
      obtain ⟨rfl, rfl⟩ := e
      obtain ⟨a, vs, rfl, rs, z⟩ := seq_of ok r2 h1
      refine op_notIn_seq pins s σ H _ _ v u Q I rx ry ⟨a, vs, rfl, z.elim (fun z => .inr z.2) fun z => .inl z.2, flat_of r1 f, flats_of rs g, ?_⟩
      rw [any_of (xs := xs) r1 f rs g]
      exact k α H _ Xt.refl ok (.bl _)
    · cases e
  · cases e
theorem i_ix : IxR X (rB X.K ixD) := by
  intro value slice pins s σ H x y v u Q I rx ry ⟨α, S, d1, d2, d, S', ok, r1, r2, e, k⟩ hs
  cases d2 with
  | int i =>
    simp only [ixD, Option.bind_eq_some_iff, Option.map_eq_some_iff, Prod.mk.injEq] at e
    obtain ⟨xs, h1, d, h2, rfl, rfl⟩ := e
    cases r2
    obtain ⟨a, vs, rfl, rs, z⟩ := seq_of ok r1 h1
    obtain ⟨w, h3, r3⟩ := at_of (β := Unit) rs h2
    rcases z with ⟨_, z⟩ | ⟨_, z⟩
    · exact ix_tup value slice pins s σ H _ _ v u Q I rx ry ⟨a, vs, i, w, rfl, rfl, z, h3, k α H _ Xt.refl ok r3⟩ hs
    · exact ix_list value slice pins s σ H _ _ v u Q I rx ry ⟨a, vs, i, w, rfl, rfl, z, h3, k α H _ Xt.refl ok r3⟩ hs
  | _ => simp [ixD] at e
end
end Ix

namespace Ix
open PySem L2
/-! ### the words of the text, one by one: expressions -/
def opOf : Bo → Operator
  | .add => .Add | .sub => .Sub | .mul => .Mult | .fdiv => .FloorDiv | .mod => .Mod | .pow => .Pow
def coOf : Co → CmpOp
  | .eq => .Eq | .ne => .NotEq | .lt => .Lt | .le => .LtE | .gt => .Gt | .ge => .GtE | .is_ => .Is | .isnot => .IsNot | .in_ => .In | .notin => .NotIn
section
variable {X : Cx} {Γ : Fs}
theorem o_of : ∀ o : Bo, OpR X (binaryOp (opOf o)) (rB X.K (binD o))
  | .add => o_add | .sub => o_sub | .mul => o_mul | .fdiv => o_fdiv | .mod => o_mod | .pow => o_pow
theorem c_of : ∀ o : Co, OpR X (compareOp (coOf o)) (rB X.K (cmpD o))
  | .eq => c_eq | .ne => c_ne | .lt => c_lt | .le => c_le | .gt => c_gt | .ge => c_ge | .is_ => c_is | .isnot => c_isnot | .in_ => c_in | .notin => c_notin
section
variable {K : PySem.W.Frag} {f : D → D → Hd → Option (D × Hd)} {c a b : E} {σ : L2.St} {H : Hp} {Q : VK}
theorem w_bin (hev : ∀ env S, ev Γ c env S = (ev Γ a env S).bind fun x => (ev Γ b env x.2).bind fun y => f x.1 y.1 y.2) (h : tr K Γ c σ H Q) : tOp (rB K f) (tr K Γ a) (tr K Γ b) σ H Q := by
  obtain ⟨α, env, S, d, S', ok, en, e, k⟩ := h
  rw [hev] at e
  simp only [Option.bind_eq_some_iff] at e
  obtain ⟨⟨d1, S1⟩, e1, ⟨d2, S2⟩, e2, e3⟩ := e
  exact ⟨α, env, S, d1, S1, ok, en, e1, fun α1 H1 v1 x1 ok1 r1 => ⟨α1, env, S1, d2, S2, ok1, en.mono x1, e2, fun α2 H2 v2 x2 ok2 r2 =>
    ⟨α2, S2, d1, d2, d, S', ok2, r1.mono x2, r2, e3, fun α3 H3 v x3 ok3 r => k α3 H3 v (x1.trans (x2.trans x3)) ok3 r⟩⟩⟩
end
variable {a b c e : Expr} {es rest : List Expr} {ca cb cc ce cs : E} {pos : Pos}
theorem xe_var (i : Nat) {x : Str} (hN : X.N[i]? = some x := by rfl) (hv : Vis X.env.scope x := by first | exact Or.inl rfl | exact Or.inr (Or.inl rfl) | exact Or.inr (Or.inr rfl)) (hd : (x == ("__debug__" : Str)) = false := by decide)
    (hcd : (x == ("__classdict__" : Str)) = false := by decide) : PE X (.Name x pos) (tr X.K Γ (.var i)) :=
  pe_w (pe_var hN hv hd hcd) fun σ H Q ⟨α, env, S, d, S', ok, en, e, k⟩ => by
    simp only [ev] at e
    split at e
    · rename_i d' e2
      simp only [Option.some.injEq, Prod.mk.injEq] at e
      obtain ⟨rfl, rfl⟩ := e
      obtain ⟨v, h1, r⟩ := en.at_ i _ e2
      exact ⟨v, h1, k α H v Xt.refl ok r⟩
    · cases e
theorem xe_k {d : D} {v : V} (h : PE X e (tC v)) (r : ∀ α H, Rp X.K α H d v) : PE X e (tr X.K Γ (.c d)) :=
  pe_w h fun σ H Q ⟨α, env, S, d', S', ok, en, e, k⟩ => by
    simp only [ev, Option.some.injEq, Prod.mk.injEq] at e
    obtain ⟨rfl, rfl⟩ := e
    exact k α H v Xt.refl ok (r α H)
theorem xe_int {i : Int} {j : Nat} : PE X (.Constant (.int i) j pos) (tr X.K Γ (.c (.int i))) := xe_k pe_int fun _ _ => .int i
theorem xe_bl {b : Bool} {j : Nat} : PE X (.Constant (.bool b) j pos) (tr X.K Γ (.c (.bl b))) := xe_k pe_bl fun _ _ => .bl b
theorem xe_non {j : Nat} : PE X (.Constant .none j pos) (tr X.K Γ (.c .non)) := xe_k pe_non fun _ _ => .non
theorem xe_str {x : Str} {j : Nat} : PE X (.Constant (.str x) j pos) (tr X.K Γ (.c (.str x))) := xe_k pe_str fun _ _ => .str x
theorem xe_ty {x : Str} {n : String} (hg : Gl X x) (hm : X.mg x = none) (hv : bootBuiltins x = some (.type n)) (hn : x ≠ "__name__" := by decide) (hd : (x == ("__debug__" : Str)) = false := by decide) : PE X (.Name x pos) (tr X.K Γ (.c (.ty n))) :=
  xe_k (v := .ty n) (pe_bltn hg hm hv (rfl : RelV (.ty n) (.type n)) hn hd) fun _ _ => .ty n
theorem xe_glob {x : Str} {d : D} {v : V} {u : Value} (hg : Gl X x) (hm : X.mg x = some u) (r : RelV v u) (h : ∀ α H, Rp X.K α H d v) (hd : (x == ("__debug__" : Str)) = false := by decide) : PE X (.Name x pos) (tr X.K Γ (.c d)) := xe_k (pe_glob hg hm r hd) h
theorem xe_bin (o : Bo) (ha : PE X a (tr X.K Γ ca)) (hb : PE X b (tr X.K Γ cb)) : PE X (.BinOp a (opOf o) b pos) (tr X.K Γ (.bin o ca cb)) :=
  pe_w (pe_op (o_of o) ha hb) fun σ H Q h => w_bin (fun _ _ => rfl) h
theorem xe_cmp (o : Co) (ha : PE X a (tr X.K Γ ca)) (hb : PE X b (tr X.K Γ cb)) (hm : behindInMarks (coOf o) b = false) : PE X (.Compare a [coOf o] [b] pos) (tr X.K Γ (.cmp o ca cb)) :=
  pe_w (pe_cmpR (c_of o) ha hb hm) fun σ H Q h => w_bin (fun _ _ => rfl) h
theorem xe_ix (ha : PE X a (tr X.K Γ ca)) (hb : PE X b (tr X.K Γ cb)) (hs : PlainIx b) : PE X (.Subscript a b pos) (tr X.K Γ (.ix ca cb)) :=
  pe_w (pe_ix i_ix ha hb hs) fun σ H Q h => w_bin (fun _ _ => rfl) h
theorem xe_neg (ha : PE X a (tr X.K Γ ca)) : PE X (.UnaryOp .USub a pos) (tr X.K Γ (.neg ca)) :=
  pe_w (pe_un un_neg ha) fun σ H Q ⟨α, env, S, d, S', ok, en, e, k⟩ => by
    simp only [ev, Option.bind_eq_some_iff] at e
    obtain ⟨⟨d1, S1⟩, e1, e2⟩ := e
    refine ⟨α, env, S, d1, S1, ok, en, e1, fun α1 H1 v1 x1 ok1 r1 => ?_⟩
    cases d1 with
    | int i =>
      simp only [Option.some.injEq, Prod.mk.injEq] at e2
      obtain ⟨rfl, rfl⟩ := e2
      cases r1
      exact ⟨i, rfl, k α1 H1 _ x1 ok1 (.int _)⟩
    | _ => cases e2
theorem tst_some {r : Option (D × Hd)} {b : Bool} {S : Hd} (h : tst r = some (b, S)) : ∃ d, r = some (d, S) ∧ tru S d = some b := by
  unfold tst at h
  simp only [Option.bind_eq_some_iff, Option.map_eq_some_iff, Prod.mk.injEq] at h
  obtain ⟨⟨d, S1⟩, e1, b', e2, rfl, rfl⟩ := h
  exact ⟨d, e1, e2⟩
theorem tst_of {r : Option (D × Hd)} {b : Bool} {S : Hd} {d : D} (h1 : r = some (d, S)) (h2 : tru S d = some b) : tst r = some (b, S) := by
  unfold tst
  rw [h1]
  simp [h2]
theorem xe_not (ha : PE X a (tr X.K Γ ca)) : PE X (.UnaryOp .Not a pos) (tr X.K Γ (.not_ ca)) :=
  pe_w (pe_notT ha) fun σ H Q ⟨α, env, S, d, S', ok, en, e, k⟩ => by
    simp only [ev, Option.map_eq_some_iff, Prod.mk.injEq] at e
    obtain ⟨⟨b, S1⟩, e1, rfl, rfl⟩ := e
    obtain ⟨d1, e2, e3⟩ := tst_some e1
    exact ⟨α, env, S, d1, S1, ok, en, e2, fun α1 H1 v1 x1 ok1 r1 => ⟨b, tru_of ok1 r1 e3, k α1 H1 _ x1 ok1 (.bl _)⟩⟩
theorem xe_one {op} (ha : PE X a (tr X.K Γ ca)) : PE X (.BoolOp op [a] pos) (tr X.K Γ ca) := pe_one ha
theorem xe_and (ha : PE X a (tr X.K Γ ca)) (hb : PE X (.BoolOp .And (b :: rest) pos) (tr X.K Γ cb)) : PE X (.BoolOp .And (a :: b :: rest) pos) (tr X.K Γ (.and_ ca cb)) :=
  pe_w (pe_and ha hb) fun σ H Q ⟨α, env, S, d, S', ok, en, e, k⟩ => by
    simp only [ev, Option.bind_eq_some_iff] at e
    obtain ⟨⟨d1, S1⟩, e1, e2⟩ := e
    refine ⟨α, env, S, d1, S1, ok, en, e1, fun α1 H1 v1 x1 ok1 r1 => ?_⟩
    cases d1 with
    | bl i =>
      cases r1
      refine ⟨i, rfl, ?_⟩
      cases i with
      | true => exact ⟨α1, env, S1, d, S', ok1, en.mono x1, e2, fun α2 H2 v2 x2 ok2 r2 => k α2 H2 v2 (x1.trans x2) ok2 r2⟩
      | false =>
        simp only [Option.some.injEq, Prod.mk.injEq] at e2
        obtain ⟨rfl, rfl⟩ := e2
        exact k α1 H1 _ x1 ok1 (.bl _)
    | _ => cases e2
theorem xe_or (ha : PE X a (tr X.K Γ ca)) (hb : PE X (.BoolOp .Or (b :: rest) pos) (tr X.K Γ cb)) : PE X (.BoolOp .Or (a :: b :: rest) pos) (tr X.K Γ (.or_ ca cb)) :=
  pe_w (pe_or ha hb) fun σ H Q ⟨α, env, S, d, S', ok, en, e, k⟩ => by
    simp only [ev, Option.bind_eq_some_iff] at e
    obtain ⟨⟨d1, S1⟩, e1, e2⟩ := e
    refine ⟨α, env, S, d1, S1, ok, en, e1, fun α1 H1 v1 x1 ok1 r1 => ?_⟩
    cases d1 with
    | bl i =>
      cases r1
      refine ⟨i, rfl, ?_⟩
      cases i with
      | false => exact ⟨α1, env, S1, d, S', ok1, en.mono x1, e2, fun α2 H2 v2 x2 ok2 r2 => k α2 H2 v2 (x1.trans x2) ok2 r2⟩
      | true =>
        simp only [Option.some.injEq, Prod.mk.injEq] at e2
        obtain ⟨rfl, rfl⟩ := e2
        exact k α1 H1 _ x1 ok1 (.bl _)
    | _ => cases e2
theorem xe_ite {c : Expr} (hc : PT X c (trT X.K Γ cc)) (ha : PE X a (tr X.K Γ ca)) (hb : PE X b (tr X.K Γ cb)) : PE X (.IfExp c a b pos) (tr X.K Γ (.ite cc ca cb)) :=
  pe_w (pe_ifExp hc ha hb) fun σ H Q ⟨α, env, S, d, S', ok, en, e, k⟩ => by
    simp only [ev, Option.bind_eq_some_iff] at e
    obtain ⟨⟨t, S1⟩, e1, e2⟩ := e
    refine ⟨α, env, S, t, S1, ok, en, e1, fun α1 H1 x1 ok1 => ?_⟩
    cases t with
    | true =>
      rw [if_pos rfl] at e2 ⊢
      exact ⟨α1, env, S1, d, S', ok1, en.mono x1, e2, fun α2 H2 v2 x2 ok2 r2 => k α2 H2 v2 (x1.trans x2) ok2 r2⟩
    | false =>
      rw [if_neg Bool.false_ne_true] at e2 ⊢
      exact ⟨α1, env, S1, d, S', ok1, en.mono x1, e2, fun α2 H2 v2 x2 ok2 r2 => k α2 H2 v2 (x1.trans x2) ok2 r2⟩
theorem w_chain {o p : Co} {σ : L2.St} {H : Hp} {Q : VK} (h : tr X.K Γ (.chain o p ca cb cc) σ H Q) : tChain (rB X.K (cmpD o)) (rB X.K (cmpD p)) (tr X.K Γ ca) (tr X.K Γ cb) (tr X.K Γ cc) σ H Q := by
  obtain ⟨α, env, S, d, S', ok, en, e, k⟩ := h
  simp only [ev, Option.bind_eq_some_iff] at e
  obtain ⟨⟨d1, S1⟩, e1, ⟨d2, S2⟩, e2, ⟨d3, S3⟩, e3, e4⟩ := e
  refine ⟨α, env, S, d1, S1, ok, en, e1, fun α1 H1 v1 x1 ok1 r1 => ⟨α1, env, S1, d2, S2, ok1, en.mono x1, e2, fun α2 H2 v2 x2 ok2 r2 =>
    ⟨α2, S2, d1, d2, d3, S3, ok2, r1.mono x2, r2, e3, fun α3 H3 v3 x3 ok3 r3 => ?_⟩⟩⟩
  cases d3 with
  | bl t =>
    cases r3
    refine ⟨t, rfl, ?_⟩
    cases t with
    | true =>
      rw [if_pos rfl]
      simp only [Option.bind_eq_some_iff] at e4
      obtain ⟨⟨d5, S5⟩, e5, e6⟩ := e4
      exact ⟨α3, env, S3, d5, S5, ok3, en.mono (x1.trans (x2.trans x3)), e5, fun α4 H4 v4 x4 ok4 r4 => ⟨α4, S5, d2, d5, d, S', ok4, r2.mono (x3.trans x4), r4, e6, fun α5 H5 v5 x5 ok5 r5 =>
        k α5 H5 v5 (x1.trans (x2.trans (x3.trans (x4.trans x5)))) ok5 r5⟩⟩
    | false =>
      rw [if_neg Bool.false_ne_true]
      simp only [Option.some.injEq, Prod.mk.injEq] at e4
      obtain ⟨rfl, rfl⟩ := e4
      exact k α3 H3 _ (x1.trans (x2.trans x3)) ok3 (.bl _)
  | _ => cases e4
theorem xe_chain (o p : Co) (ha : PE X a (tr X.K Γ ca)) (hb : PE X b (tr X.K Γ cb)) (hc : PE X c (tr X.K Γ cc)) (hm : lastMarks [coOf o, coOf p] [b, c] = false := by with_unfolding_all rfl) :
    PE X (.Compare a [coOf o, coOf p] [b, c] pos) (tr X.K Γ (.chain o p ca cb cc)) := pe_w (pe_chain (c_of o) (c_of p) ha hb hc hm) fun σ H Q h => w_chain h

/-! ### arguments -/
theorem xa_nil : PA X [] (trA X.K Γ .nil) := pa_w pa_nil fun σ H Q ⟨α, env, S, ds, S', ok, en, e, k⟩ => by
  simp only [ev, Option.some.injEq, Prod.mk.injEq, D.tup.injEq] at e
  obtain ⟨rfl, rfl⟩ := e
  exact k α H [] Xt.refl ok .nil
theorem w_cons {es' : E} {σ : L2.St} {H : Hp} {Q : List V → Hp → Prop} (h : trA X.K Γ (.cons ca es') σ H Q) : tCons (tr X.K Γ ca) (trA X.K Γ es') σ H Q := by
  obtain ⟨α, env, S, ds, S', ok, en, e, k⟩ := h
  simp only [ev, Option.bind_eq_some_iff, Option.map_eq_some_iff, Prod.mk.injEq, D.tup.injEq] at e
  obtain ⟨⟨d1, S1⟩, e1, ⟨d2, S2⟩, e2, dr, e3, rfl, rfl⟩ := e
  cases d2 with
  | tup zs =>
    simp only [argsOf, Option.some.injEq] at e3
    subst e3
    exact ⟨α, env, S, d1, S1, ok, en, e1, fun α1 H1 v1 x1 ok1 r1 => ⟨α1, env, S1, _, S2, ok1, en.mono x1, e2, fun α2 H2 v2 x2 ok2 r2 => k α2 H2 _ (x1.trans x2) ok2 (.cons (r1.mono x2) r2)⟩⟩
  | _ => cases e3
theorem xa_cons (ha : PE X e (tr X.K Γ ca)) (hr : PA X es (trA X.K Γ cs)) (hs : starEach (e :: es) X.env = (false, eval e X.env) :: starEach es X.env := by rfl) : PA X (e :: es) (trA X.K Γ (.cons ca cs)) :=
  pa_w (pa_cons ha hr hs) fun σ H Q h => w_cons h
theorem argsOf_some {d : D} {ds : List D} (h : argsOf d = some ds) : d = .tup ds := by
  cases d <;> simp [argsOf] at h
  rw [h]
theorem xe_tup {x1} (h : PA X es (trA X.K Γ cs)) : PE X (.Tuple es x1 pos) (tr X.K Γ (.tup cs)) :=
  pe_w (pe_tup h) fun σ H Q ⟨α, env, S, d, S', ok, en, e, k⟩ => by
    simp only [ev, Option.bind_eq_some_iff] at e
    obtain ⟨⟨d1, S1⟩, e1, ds, e2, e3⟩ := e
    cases argsOf_some e2
    split at e3
    · rename_i hz
      simp only [Option.some.injEq, Prod.mk.injEq] at e3
      obtain ⟨rfl, rfl⟩ := e3
      exact ⟨α, env, S, ds, S1, ok, en, e1, fun α1 H1 vs x1 ok1 r1 => ⟨most_line (by rw [r1.len]; exact hz), fun p hp => go_tup ok1 hp r1 fun α2 H2 v2 x2 ok2 r2 => k α2 H2 v2 (x1.trans x2) ok2 r2⟩⟩
    · cases e3
theorem xe_lst (h : PA X es (trA X.K Γ cs)) : PE X (.List es pos) (tr X.K Γ (.lst cs)) :=
  pe_w (pe_lst h) fun σ H Q ⟨α, env, S, d, S', ok, en, e, k⟩ => by
    simp only [ev, Option.bind_eq_some_iff] at e
    obtain ⟨⟨d1, S1⟩, e1, ds, e2, e3⟩ := e
    cases argsOf_some e2
    split at e3
    · rename_i hz
      simp only [alloc, Option.some.injEq, Prod.mk.injEq] at e3
      obtain ⟨rfl, rfl⟩ := e3
      exact ⟨α, env, S, ds, S1, ok, en, e1, fun α1 H1 vs x1 ok1 r1 => ⟨most_line (by rw [r1.len]; exact hz), fun p hp => go_new ok1 hp r1 fun α2 H2 v2 x2 ok2 r2 => k α2 H2 v2 (x1.trans x2) ok2 r2⟩⟩
    · cases e3

/-! ### slices -/
theorem xo_none : PO X none (trO X.K Γ false .nop) := by
  refine ⟨fun pins s σ H Q I h => ?_⟩
  obtain ⟨α, env, S, o, S', ok, en, e, k⟩ := h
  simp only [evP, Bool.false_eq_true, if_false, Option.some.injEq, Prod.mk.injEq] at e
  obtain ⟨rfl, rfl⟩ := e
  exact po_none.run pins s σ H Q I (k α H Xt.refl ok)
theorem xo_some (h : PE X e (tr X.K Γ ce)) : PO X (some e) (trO X.K Γ true ce) := by
  refine ⟨fun pins s σ H Q I hw => ?_⟩
  obtain ⟨α, env, S, o, S', ok, en, e1, k⟩ := hw
  simp only [evP, if_true, Option.bind_eq_some_iff] at e1
  obtain ⟨⟨d, S1⟩, e1, e2⟩ := e1
  cases d with
  | int i =>
    simp only [Option.some.injEq, Prod.mk.injEq] at e2
    obtain ⟨rfl, rfl⟩ := e2
    exact (po_some h).run pins s σ H Q I ⟨α, env, S, _, S1, ok, en, e1, fun α' H' v x ok' r => by
      cases r
      exact ⟨i, rfl, k α' H' x ok'⟩⟩
  | _ => cases e2
def rSD (K : PySem.W.Frag) : V → Option Int → Option Int → Hp → VK → Prop := fun x l h H Q => ∃ α S d1 d S', Ok K α S H ∧ Rp K α H d1 x ∧ slD d1 l h S = some (d, S') ∧ ∀ α' H' v, Xt K α H α' H' → Ok K α' S' H' → Rp K α' H' d v → Q v H'
theorem cut_all {xs : List D} {lo hi : Option Int} (h : HT.sIx xs.length 0 lo = 0 ∧ HT.sIx xs.length xs.length hi = xs.length) : cutD xs lo hi = xs := by
  unfold cutD
  rw [h.1, h.2]
  simp
theorem s_sl : SlR X (rSD X.K) := by
  intro pins s σ H x v vl vu lo hi sl Q I rx hs pl pu ⟨α, S, d1, d, S', ok, r1, e, k⟩
  have lst : ∀ {xs : List D}, isTup d1 = false → (seqOf S d1).map (fun xs => alloc S (cutD xs lo hi)) = some (d, S') →
      ∃ T id, typeLookup (.type T) "__getitem__" = pure (some (.builtin id)) ∧ s.TypeIs v T ∧ wpAny (model X.prog X.w) X.A (getItem v (.ref sl)) (EP X pins σ Q) X.xe s := fun {xs} nt e => by
    simp only [Option.map_eq_some_iff, alloc, Prod.mk.injEq] at e
    obtain ⟨xs, h1, rfl, rfl⟩ := e
    obtain ⟨a, vs, rfl, rs, z⟩ := seq_of ok r1 h1
    rcases z with ⟨z1, _⟩ | ⟨_, z⟩
    · rw [nt] at z1
      cases z1
    · exact sl_list pins s σ H _ v vl vu lo hi sl Q I rx hs pl pu ⟨a, vs, rfl, z, fun p hp => go_new ok hp (cut_of rs lo hi) k⟩
  cases d1 with
  | tup xs =>
    simp only [slD, Option.some.injEq, Prod.mk.injEq] at e
    obtain ⟨rfl, rfl⟩ := e
    cases r1 with
    | tup h1 l1 q1 =>
      rename_i a vs
      refine sl_tupA pins s σ H _ v vl vu lo hi sl Q I rx hs pl pu ⟨a, vs, rfl, h1, fun z => ?_, fun z p hp => go_tup ok hp (cut_of ⟨l1, q1⟩ lo hi) k⟩
      rw [l1] at z
      rw [cut_all z] at k
      exact k α H _ Xt.refl ok (.tup h1 l1 q1)
  | str z =>
    simp only [slD] at e
    split at e
    · rename_i hz
      simp only [Option.some.injEq, Prod.mk.injEq] at e
      obtain ⟨rfl, rfl⟩ := e
      cases r1
      exact sl_str pins s σ H _ v vl vu lo hi sl Q I rx hs pl pu ⟨z, rfl, most_line hz, k α H _ Xt.refl ok (.str _)⟩
    · cases e
  | ref k => exact lst (xs := []) rfl e
  | ro ns => exact lst (xs := []) rfl e
  | _ => simp [slD, seqOf] at e
theorem xe_sl {lo hi : Option Expr} {p2 : Pos} {b1 b2 : Bool} {cl ch : E} (ha : PE X a (tr X.K Γ ca)) (hl : PO X lo (trO X.K Γ b1 cl)) (hh : PO X hi (trO X.K Γ b2 ch)) : PE X (.Subscript a (.Slice lo hi none p2) pos) (tr X.K Γ (.sl b1 b2 ca cl ch)) :=
  pe_w (pe_slice s_sl ha hl hh) fun σ H Q ⟨α, env, S, d, S', ok, en, e, k⟩ => by
    simp only [ev, Option.bind_eq_some_iff] at e
    obtain ⟨⟨d1, S1⟩, e1, ⟨o1, S2⟩, e2, ⟨o2, S3⟩, e3, e4⟩ := e
    exact ⟨α, env, S, d1, S1, ok, en, e1, fun α1 H1 v1 x1 ok1 r1 => ⟨α1, env, S1, o1, S2, ok1, en.mono x1, e2, fun α2 H2 x2 ok2 => ⟨α2, env, S2, o2, S3, ok2, en.mono (x1.trans x2), e3, fun α3 H3 x3 ok3 =>
      ⟨α3, S3, d1, d, S', ok3, r1.mono (x2.trans x3), e4, fun α4 H4 v4 x4 ok4 r4 => k α4 H4 v4 (x1.trans (x2.trans (x3.trans x4))) ok4 r4⟩⟩⟩⟩

/-! ### tests -/
theorem xt_truth (ha : PE X a (tr X.K Γ ca)) (he : ∀ whole, isTrue a X.env whole = (do let v ← whole; standAt a.pos; holding [v] (truthy v))) : PT X a (trT X.K Γ ca) :=
  pt_w (pt_truth ha he) fun σ H Q ⟨α, env, S, b, S', ok, en, e, k⟩ => by
    obtain ⟨d, e1, e2⟩ := tst_some e
    exact ⟨α, env, S, d, S', ok, en, e1, fun α' H' v x ok' r => ⟨b, tru_of ok' r e2, k α' H' x ok'⟩⟩
theorem cmp_bl {o : Co} {x y d : D} {S S' : Hd} (h : cmpD o x y S = some (d, S')) : ∃ b, d = .bl b := by
  unfold cmpD at h
  split at h
  · simp only [Option.map_eq_some_iff, Prod.mk.injEq] at h
    obtain ⟨b, _, rfl, _⟩ := h
    exact ⟨_, rfl⟩
  · simp only [Option.map_eq_some_iff, Prod.mk.injEq] at h
    obtain ⟨b, _, rfl, _⟩ := h
    exact ⟨_, rfl⟩
  · simp only [Option.some.injEq, Prod.mk.injEq] at h; exact ⟨_, h.1.symm⟩
  · simp only [Option.some.injEq, Prod.mk.injEq] at h; exact ⟨_, h.1.symm⟩
  · simp only [Option.some.injEq, Prod.mk.injEq] at h; exact ⟨_, h.1.symm⟩
  · simp only [Option.some.injEq, Prod.mk.injEq] at h; exact ⟨_, h.1.symm⟩
  · simp only [Option.some.injEq, Prod.mk.injEq] at h; exact ⟨_, h.1.symm⟩
  · simp only [Option.some.injEq, Prod.mk.injEq] at h; exact ⟨_, h.1.symm⟩
  · simp only [Option.some.injEq, Prod.mk.injEq] at h; exact ⟨_, h.1.symm⟩
  · simp only [Option.some.injEq, Prod.mk.injEq] at h; exact ⟨_, h.1.symm⟩
  · split at h
    · simp only [Option.bind_eq_some_iff] at h
      obtain ⟨xs, _, h⟩ := h
      split at h
      · simp only [Option.some.injEq, Prod.mk.injEq] at h; exact ⟨_, h.1.symm⟩
      · cases h
    · cases h
  · split at h
    · simp only [Option.bind_eq_some_iff] at h
      obtain ⟨xs, _, h⟩ := h
      split at h
      · simp only [Option.some.injEq, Prod.mk.injEq] at h; exact ⟨_, h.1.symm⟩
      · cases h
    · cases h
  · cases h
/-- a test whose value is a bool: back to the value -/
theorem w_test {t : TE} {σ : L2.St} {H : Hp} {Q : Bool → Hp → Prop} (hb : ∀ env S d S', ev Γ ca env S = some (d, S') → ∃ b, d = .bl b) (w : ∀ σ H Q, tr X.K Γ ca σ H Q → t σ H Q) (h : trT X.K Γ ca σ H Q) : tTest t σ H Q := by
  obtain ⟨α, env, S, b, S', ok, en, e, k⟩ := h
  obtain ⟨d, e1, e2⟩ := tst_some e
  obtain ⟨b', rfl⟩ := hb env S d S' e1
  simp only [tru, Option.some.injEq] at e2
  subst e2
  refine w σ H _ ⟨α, env, S, _, S', ok, en, e1, fun α' H' v x ok' r => ?_⟩
  cases r
  exact ⟨b', rfl, k α' H' x ok'⟩
theorem xt_cmp (o : Co) (ha : PE X a (tr X.K Γ ca)) (hb : PE X b (tr X.K Γ cb)) (hm : behindInMarks (coOf o) b = false) : PT X (.Compare a [coOf o] [b] pos) (trT X.K Γ (.cmp o ca cb)) :=
  pt_w (pt_cmpR (c_of o) ha hb hm) fun σ H Q h => w_test (fun env S d S' e => by
    simp only [ev, Option.bind_eq_some_iff] at e
    obtain ⟨_, _, _, _, e⟩ := e
    exact cmp_bl e) (fun σ H Q h => w_bin (fun _ _ => rfl) h) h
theorem xt_chain (o p : Co) (ha : PE X a (tr X.K Γ ca)) (hb : PE X b (tr X.K Γ cb)) (hc : PE X c (tr X.K Γ cc)) (hm : lastMarks [coOf o, coOf p] [b, c] = false := by with_unfolding_all rfl) :
    PT X (.Compare a [coOf o, coOf p] [b, c] pos) (trT X.K Γ (.chain o p ca cb cc)) :=
  pt_w (pt_chain (c_of o) (c_of p) ha hb hc hm) fun σ H Q h => w_test (fun env S d S' e => by
    simp only [ev, Option.bind_eq_some_iff] at e
    obtain ⟨_, _, _, _, ⟨d3, S3⟩, e3, e4⟩ := e
    obtain ⟨t, rfl⟩ := cmp_bl e3
    cases t with
    | true =>
      simp only [Option.bind_eq_some_iff] at e4
      obtain ⟨_, _, e4⟩ := e4
      exact cmp_bl e4
    | false =>
      simp only [Option.some.injEq, Prod.mk.injEq] at e4
      exact ⟨_, e4.1.symm⟩) (fun σ H Q h => w_chain h) h
theorem xt_not (ha : PT X a (trT X.K Γ ca)) : PT X (.UnaryOp .Not a pos) (trT X.K Γ (.not_ ca)) :=
  pt_w (pt_not ha) fun σ H Q ⟨α, env, S, b, S', ok, en, e, k⟩ => by
    obtain ⟨d, e1, e2⟩ := tst_some e
    simp only [ev, Option.map_eq_some_iff, Prod.mk.injEq] at e1
    obtain ⟨⟨b1, S1⟩, e3, rfl, rfl⟩ := e1
    simp only [tru, Option.some.injEq] at e2
    subst e2
    exact ⟨α, env, S, b1, S1, ok, en, e3, k⟩
theorem xw_and1 (ha : PT X a (trT X.K Γ ca)) : PW X (.BoolOp .And [a] pos) (trT X.K Γ ca) := pw_and1 ha
theorem xw_or1 (ha : PT X a (trT X.K Γ ca)) : PW X (.BoolOp .Or [a] pos) (trT X.K Γ ca) := pw_or1 ha
theorem xw_and (ha : PT X a (trT X.K Γ ca)) (hb : PW X (.BoolOp .And (b :: rest) pos) (trT X.K Γ cb)) : PW X (.BoolOp .And (a :: b :: rest) pos) (trT X.K Γ (.and_ ca cb)) :=
  pw_w (pw_and ha hb) fun σ H Q ⟨α, env, S, t, S', ok, en, e, k⟩ => by
    obtain ⟨d, e1, e2⟩ := tst_some e
    simp only [ev, Option.bind_eq_some_iff] at e1
    obtain ⟨⟨d1, S1⟩, e3, e4⟩ := e1
    cases d1 with
    | bl i =>
      refine ⟨α, env, S, i, S1, ok, en, tst_of e3 rfl, fun α1 H1 x1 ok1 => ?_⟩
      cases i with
      | true =>
        rw [if_pos rfl]
        exact ⟨α1, env, S1, t, S', ok1, en.mono x1, tst_of e4 e2, fun α2 H2 x2 ok2 => k α2 H2 (x1.trans x2) ok2⟩
      | false =>
        rw [if_neg Bool.false_ne_true]
        simp only [Option.some.injEq, Prod.mk.injEq] at e4
        obtain ⟨rfl, rfl⟩ := e4
        simp only [tru, Option.some.injEq] at e2
        subst e2
        exact k α1 H1 x1 ok1
    | _ => cases e4
theorem xw_or (ha : PT X a (trT X.K Γ ca)) (hb : PW X (.BoolOp .Or (b :: rest) pos) (trT X.K Γ cb)) : PW X (.BoolOp .Or (a :: b :: rest) pos) (trT X.K Γ (.or_ ca cb)) :=
  pw_w (pw_or ha hb) fun σ H Q ⟨α, env, S, t, S', ok, en, e, k⟩ => by
    obtain ⟨d, e1, e2⟩ := tst_some e
    simp only [ev, Option.bind_eq_some_iff] at e1
    obtain ⟨⟨d1, S1⟩, e3, e4⟩ := e1
    cases d1 with
    | bl i =>
      refine ⟨α, env, S, i, S1, ok, en, tst_of e3 rfl, fun α1 H1 x1 ok1 => ?_⟩
      cases i with
      | false =>
        rw [if_neg Bool.false_ne_true]
        exact ⟨α1, env, S1, t, S', ok1, en.mono x1, tst_of e4 e2, fun α2 H2 x2 ok2 => k α2 H2 (x1.trans x2) ok2⟩
      | true =>
        rw [if_pos rfl]
        simp only [Option.some.injEq, Prod.mk.injEq] at e4
        obtain ⟨rfl, rfl⟩ := e4
        simp only [tru, Option.some.injEq] at e2
        subst e2
        exact k α1 H1 x1 ok1
    | _ => cases e4
end
end Ix

namespace Ix
open PySem PySem.Spec PyProof.Rows L2
/-! ### arounds in which nothing is being written out (repr asks this) -/
structure RoomG (k : Nat) (A : Around) : Prop where
  room : Room k A
  none : A.guards = some []
theorem RoomG.deeper {k : Nat} {A : Around} (r : RoomG (k + 1) A) (env : Env) : RoomG k (A.deeper env) := ⟨r.room.deeper env, r.none⟩
theorem RoomG.mono {j k : Nat} {A : Around} (r : RoomG k A) (h : j ≤ k) : RoomG j A := ⟨r.room.mono h, r.none⟩
theorem RoomG.in1 {k : Nat} {A : Around} (r : RoomG (k + 1) A) : RoomG k A.in1 := ⟨r.room.in1, r.none⟩
variable {P : Program} {w : World} {K : PySem.W.Frag} {mg : Str → Option Value} {base : Heap}
/-- what a def promises where nothing is being written out -/
structure FnG (P : Program) (w : World) (K : PySem.W.Frag) (mg : Str → Option Value) (base : Heap) (k : Nat) (f : Addr) (fd : FuncData) (ps : List Str) (sp : Sp) : Prop where
  len : ∀ vs H Q E, sp vs H Q E → vs.length = ps.length
  run : ∀ {A : Around} {outer : List Env} {s : Shared} {H : Hp} {args : Args} {us : List Value} {vs : List V} {Q : VK} {E : XK}, RoomG k A → Env0 P w K mg base A outer s H → BindsTo s fd args (ps.zip us) →
    Vals vs us → sp vs H Q E → codeAny (model P w) A (.call (.ref f) args) (CR CX0 outer P w H s Q E) s
theorem fnG_of {x : Str} {st : Stmt} {f : Addr} {fd : FuncData} {N ps : List Str} {k : Nat} {sp : Sp} (F : Fun K x x st f fd) (S : FnScope N ps (defScope st)) (len : ∀ vs H Q E, sp vs H Q E → vs.length = ps.length)
    (body : ∀ (cdv : Value) (A : Around) (outer : List Env) (s : Shared) (H : Hp) (vs : List V) (Q : VK) (E : XK), RoomG k (A.deeper (PyProof.Rows.envOfC x (defScope st) s.heap.objs.size f cdv)) → sp vs H Q E →
      ∃ t, PSs (cxOf CX0 P w K mg base N x (defScope st) f cdv A outer s H E).nox (defBody st) t ∧ t { nx := fun _ H' => Q .non H', rt := Q } (start N vs) H) : FnG P w K mg base (k + 1) f fd ps sp := by
  obtain ⟨oc, od, kV, doc, pm, an, cdv, ct, osl, rfl, look, code⟩ := F.ex
  constructor
  · exact len
  intro A outer s H args us vs Q E rg e0 binds rv spec
  have kept : ∀ b o, base.get? b = some o → s.heap.get? b = some o := fun b o e => (e0.bs b o e).1
  have inK : K.In s.heap := e0.mod.kin.keeps kept
  have free : s.heap.NoLimit := e0.mod.nolimit.keeps kept
  have kinds : ∀ y ∈ ps.zip us, (defScope st).names.lookup y.1 = some .local ∨ ((defScope st).names.lookup y.1 = some .cell ∧ ((cellsFrom (s.heap.objs.size + 1) (defScope st).names []).lookup y.1).isSome = true) := by
    rintro ⟨n, v⟩ hy
    exact (S.par n (List.of_mem_zip hy).1).imp id fun q => ⟨q, PySem.W.cellsFrom_some _ _ _ (.inl q)⟩
  apply codeAny_call_function rg.room.depth (inK _ _ look) rfl S.co S.gen rfl (PySem.W.codeRec_of inK code)
  apply binds
  apply wpAny_newFunctionEnv_cells S.kind kinds
  rintro env rfl s1 laid
  constructor
  · exact free.keeps laid.toInCall.keep
  apply codeAny_func
  obtain ⟨t, tree, here⟩ := body cdv A outer s H vs Q E (rg.deeper _) spec
  have start0 : Inv (cxOf CX0 P w K mg base N x (defScope st) f cdv A outer s H E) [] (start N vs) H s1 := inv_start S rg.room.hd e0 (len _ _ _ _ spec) rv laid
  refine wpAny_mono (tree.nox.run [] s1 (start N vs) H _ start0 here) ?_ fun _ _ z => z
  intro fl s' q
  match fl, q with
  | .ret u, ⟨v, _, H', J, rv, z⟩ => exact ⟨v, H', J.os, J.bare, J.base, J.hok, rv, z⟩
  | .next, ⟨_, H', J, z⟩ => exact ⟨V.non, H', J.os, J.bare, J.base, J.hok, rfl, z⟩
  | .brk, ⟨_, _, _, z⟩ => exact z.elim
  | .cont, ⟨_, _, _, z⟩ => exact z.elim
section
variable {X : Cx} {k : Nat} {f : Addr} {fd : FuncData} {ps : List Str} {sp : Sp} {E : XK}
/-- the call itself, its arguments bound -/
theorem runG {pins : List (Addr × Obj)} {σ : L2.St} {H : Hp} {s : Shared} {Q : VK} {args : Args} {us : List Value} {vs : List V} (F : FnG X.prog X.w X.K X.mg X.base k f fd ps sp) (hr : RoomG k X.A) (hb : BindsTo s fd args (ps.zip us)) (hx : Passes CX0 X E)
    (I : Inv X pins σ H s) (r : Vals vs us) (h : sp vs H Q E) : wpAny (model X.prog X.w) X.A (call (.ref f) args.pos args.kw) (EP X pins σ Q) X.xe s := by
  apply wpAny_call
  refine codeAny_mono (F.run hr I.env0 hb r h) ?_
  intro res s' q
  match res, q with
  | .error e, q => exact hx pins σ H s e s' I q
  | .ok (.ret u), q => exact I.after q
  | .ok .next, q => exact False.elim q
  | .ok .brk, q => exact False.elim q
  | .ok .cont, q => exact False.elim q
variable {x : Str} {p pos : Pos} {e : Expr} {es : List Expr} {t : TA} {ds : List Value}
theorem pe_callG (F : FnG X.prog X.w X.K X.mg X.base k f fd ps sp) (hr : RoomG k X.A) (hg : Gl X x) (hm : X.mg x = some (.ref f)) (hk : PySem.W.keepIn X.K (.ref f) = true) (hb : Binds X.K fd ps []) (hx : Passes CX0 X E)
    (ha : PA X (e :: es) t) (hdb : (x == ("__debug__" : Str)) = false) (he : starEach (e :: es) X.env = (false, eval e X.env) :: starEach es X.env) (hpl : (backTo pos (starEach es X.env)).any (·.1) = false) :
    PE X (.Call (.Name x p) (e :: es) [] pos) (tCall sp [] E t) := by
  constructor
  intro pins s σ H Q I h
  apply wpAny_Call_Name_kw
  refine ld_glob I hg hm ?_ hdb
  refine PySem.W.callWith_K I.ok.mod.kin hk (thn (ha.run pos pins s σ H _ I h) ?_) he hpl
  rintro us s1 ⟨vs, H1, I1, r, q⟩
  have q' : sp (vs ++ []) H1 Q E := q
  rw [List.append_nil] at q'
  refine ⟨I1.kIn, ?_⟩
  have l : us.length = ps.length := by rw [← r.length]; exact F.len _ _ _ _ q'
  have b := hb s1 us I1.kIn (by rw [List.append_nil]; exact l)
  rw [List.append_nil] at b
  exact runG (args := ⟨us, []⟩) F hr b hx I1 r q'
end
section
variable {X : Cx} {k n : Nat} {f : Addr} {fd : FuncData} {ps ks : List Str} {sp : Sp} {E : XK} {g : List Value → List Value → List Value} {gV : List V → List V → List V}
theorem run_fnG {pins : List (Addr × Obj)} {σ : L2.St} {H : Hp} {s : Shared} {Q : VK} {us ws : List Value} {vs zs : List V} (F : FnG X.prog X.w X.K X.mg X.base k f fd ps sp) (hr : RoomG k X.A) (hb : KBn X.K fd ps n ks g gV) (hx : Passes CX0 X E)
    (I : Inv X pins σ H s) (r : Vals vs us) (rz : Vals zs ws) (l1 : vs.length = n) (l2 : zs.length = ks.length) (h : sp (gV vs zs) H Q E) : wpAny (model X.prog X.w) X.A (call (.ref f) us (ks.zip ws)) (EP X pins σ Q) X.xe s := by
  have b := hb.to s us ws I.kIn (by rw [← r.length]; exact l1) (by rw [← rz.length]; exact l2)
  exact runG (args := ⟨us, ks.zip ws⟩) F hr b hx I (hb.rel r rz) h
variable {x : Str} {p pos : Pos} {e : Expr} {es : List Expr} {t tk : TA} {kws : List Keyword}
theorem pe_callNG (F : FnG X.prog X.w X.K X.mg X.base k f fd ps sp) (hr : RoomG k X.A) (hg : Gl X x) (hm : X.mg x = some (.ref f)) (hk : PySem.W.keepIn X.K (.ref f) = true) (hb : KBn X.K fd ps n ks g gV) (hx : Passes CX0 X E)
    (ha : PA X (e :: es) t) (hkw : PK X kws tk) (hall : (backToKw pos (keywordEach kws X.env)).all (·.1.isSome) = true) (hks : (backToKw pos (keywordEach kws X.env)).filterMap (·.1) = ks)
    (hdb : (x == ("__debug__" : Str)) = false) (he : starEach (e :: es) X.env = (false, eval e X.env) :: starEach es X.env)
    (hpl : ((backTo pos (starEach (e :: es) X.env)).any (·.1) || (backToKw pos (keywordEach kws X.env)).any (·.1.isNone)) = false) :
    PE X (.Call (.Name x p) (e :: es) kws pos) (tCallN n ks.length sp gV E t tk) := by
  constructor
  intro pins s σ H Q I h
  apply wpAny_Call_Name_kw
  refine ld_glob I hg hm ?_ hdb
  refine PySem.W.callWith_KW I.ok.mod.kin hk hall (thn (ha.run pos pins s σ H _ I h) ?_) hpl he
  rintro us s1 ⟨vs, H1, I1, r, q⟩
  refine thn (hkw.run pos pins s1 σ H1 _ I1 q) ?_
  rintro ws s2 ⟨zs, H2, I2, rz, l1, l2, z⟩
  refine ⟨I2.kIn, ?_⟩
  subst hks
  exact run_fnG F hr hb hx I2 r rz l1 l2 z
end
/-! ### the law's own call -/
theorem law_callG {mb : Str → Option Value} {k : Nat} {fa a : Addr} {fd : FuncData} {x : Str} {sp : Sp} {s₁ : Shared} {vs : List Value} {ns : List Int} (inK : K.In s₁.heap) (names : s₁.heap.Ns mainGlobals mg) (nb : s₁.heap.Ns builtinsNs mb) (boot : ∀ x : Str, x ≠ "__name__" → mb x = bootBuiltins x)
    (free : s₁.heap.NoLimit) (nogen : s₁.gens = #[]) (ha : s₁.heap.get? a = some { cls := .type "list", data := .seq vs.toArray }) (hi : IntsAre vs ns) (hl : ns.length ≤ sizeLine) (hr : RoomG k callerA)
    (F : ∀ base : Heap, K.In base → base.Ns mainGlobals mg → FnG P w K mg base k fa fd [x] sp) (bind : ∀ (s : Shared) (u : Value), BindsTo s fd ⟨[u], []⟩ [(x, u)])
    (hsp : ∀ H : Hp, Only H → SqL K H a (ns.map V.int) → sp [.ref a] H (fun v _ => v = .bl true) E0) :
    codeAny (model P w) callerA (.call (.ref fa) ⟨[.ref a], []⟩) (fun r s' => r = .ok (.ret (.bool true)) ∧ OldK s₁.heap s'.heap ∧ s'.os = s₁.os ∧ AllBare s'.gens) s₁ := by
  have rv := vals_ints hi
  have lenV := hi.length
  obtain ⟨H, only, seq, hok, own, out⟩ : ∃ H : Hp, Only H ∧ SqL K H a (ns.map V.int) ∧ HOk P w H s₁.heap ∧ (∀ b, H b ≠ none → b = a) ∧ (H a ≠ none → K.lookup a = none) := by
    cases look : K.lookup a with
    | some o =>
      have same := inK a o look
      rw [ha] at same
      cases same
      refine ⟨fun _ => none, fun _ => .inl rfl, .inr ⟨_, vs.toArray, _, look, rfl, rfl, rfl, ?_, ?_⟩, ?_, ?_, ?_⟩
      · rw [List.size_toArray, lenV]; exact hl
      · simpa using rv
      · intro b u z; cases (show (none : Option HO) = some u from z)
      · intro b z; exact absurd rfl z
      · intro z; exact absurd rfl z
    | none =>
      let T : HO := .frz { cls := .type "list", data := .seq vs.toArray } (.lst (ns.map V.int))
      obtain ⟨H, here, there⟩ : ∃ H : Hp, H a = some T ∧ ∀ b, b ≠ a → H b = none := ⟨fun b => if b = a then some T else none, if_pos rfl, fun b e => if_neg e⟩
      have only1 : ∀ b u, H b = some u → b = a := fun b u z => Classical.byContradiction fun e => by rw [there b e] at z; cases z
      refine ⟨H, fun b => ?_, .inl (.inr ⟨_, here⟩), fun b u z => ?_, fun b z => ?_, fun _ => rfl⟩
      · by_cases e : b = a
        · subst e
          exact .inr ⟨_, _, here⟩
        · exact .inl (there b e)
      · have e := only1 b u z
        subst e
        rw [here] at z
        cases z
        exact ⟨ha, by rw [List.length_map]; exact hl, vs, _, rv, ha⟩
      · exact Classical.byContradiction fun e => z (there b e)
  have bare : ∀ {b : Addr} {o : Obj}, s₁.heap.get? b = some o → (b = a → False) → (hidT s₁.heap H).get? b = some o := fun {b o} e ne => hidT_get e (Classical.byContradiction fun q => ne (own b q))
  have dict : ∀ {b : Addr} {o : Obj} {es : Array DictEntry} {ep : Nat}, s₁.heap.get? b = some o → o.data = .dict es ep → b = a → False := fun {b o es ep} e d z => by
    subst z
    rw [ha] at e
    cases e
    cases d
  have nsB : ∀ {b : Addr} {m : Str → Option Value}, s₁.heap.Ns b m → (hidT s₁.heap H).Ns b m := fun {b m} ⟨o, es, ep, e, d, r⟩ => ⟨o, es, ep, bare e (dict e d), d, r⟩
  have inB : K.In (hidT s₁.heap H) := fun b o e => hidT_get (inK b o e) (Classical.byContradiction fun q => by
    have z := own b q
    subst z
    rw [out q] at e
    cases e)
  obtain ⟨mc, f1, f2⟩ := free
  have e0 : Env0 P w K mg (hidT s₁.heap H) callerA [] s₁ H := ⟨rfl, ⟨inB, nsB names, ⟨mb, nsB nb, boot⟩, ⟨mc, nsB f1, f2⟩⟩, fun b o e => of_hidT e, Nat.le_of_eq (hidT_size _ _), trivial, (fun b hb => by simp [frs] at hb), hok, AllBare.of_eq nogen⟩
  refine codeAny_mono ((F _ inB (nsB names)).run (args := ⟨[.ref a], []⟩) (us := [.ref a]) (vs := [.ref a]) hr e0 (bind s₁ (.ref a)) (.cons rfl .nil) (hsp H only seq)) ?_
  intro r s' q
  match r, q with
  | .error e, q => exact q.elim
  | .ok .next, q => exact False.elim q
  | .ok .brk, q => exact False.elim q
  | .ok .cont, q => exact False.elim q
  | .ok (.ret u), ⟨v, H', os, br, un, hok', r', z⟩ =>
    have z : v = .bl true := z
    subst z
    have r' : u = Value.bool true := r'
    subst r'
    refine ⟨rfl, OldK.of_keep fun b o e => ?_, os, br⟩
    cases hb : H b with
    | none => exact un.keep b o e hb (fun z => by cases z) (by simp)
    | some u =>
      rcases only b with z | ⟨ob, xs, z⟩
      · rw [hb] at z; cases z
      · obtain ⟨e1, _⟩ := hok b _ z
        obtain ⟨e2, _⟩ := hok' b _ (un.frzs b ob _ z)
        rw [e] at e1
        cases e1
        exact e2
theorem walkG {l : PySem.W.OpenLaw} {n k : Nat} {q : Program} {loose : List Str} {XP : (Str → Option Value) → Heap → Prop} {YP : World → Heap → Prop} {d : DefRec} {K : Params → PySem.W.Frag} {sp : World → Sp} {x : Str}
    (hn : l.most = some n) (small : n ≤ sizeLine) (hdf : d.params.defaults = []) (hr : RoomG k callerA) (hY : ∀ (w : World) (h : Heap), YP w h → (K w.params).In h)
    (F : ∀ (w : World) (mg : Str → Option Value) (fa : Addr) (h : Heap), (K w.params).In h → h.Ns mainGlobals mg → mg d.name = some (.ref fa) →
      ∃ fd : FuncData, (∀ (s : Shared) (u : Value), BindsTo s fd ⟨[u], []⟩ [(x, u)]) ∧ ∀ base : Heap, (K w.params).In base → base.Ns mainGlobals mg → FnG l.prog w (K w.params) mg base k fa fd [x] (sp w))
    (holds : ∀ (w : World) (H : Hp) (a : Addr) (ns : List Int), ns.length ≤ n → (∀ z ∈ ns, Builtin.Int.intBits z ≤ 1048576) → Only H → SqL (K w.params) H a (ns.map V.int) → sp w [.ref a] H (fun v _ => v = .bl true) E0) :
    PySem.W.WalkO q loose XP YP l.row.toRowW d [] (fun f vs => PySem.call f vs) := by
  apply Att.attach_callB hn hdf
  intro w s₀ s₁ mg mb fa o pm cd doc a vs ns ground Y ho hd hcd hmg hobj hints hlen hbits nogen
  have inK := hY w _ Y
  obtain ⟨fd, bind, fn⟩ := F w mg fa _ inK ground.T.g hmg
  exact law_callG inK ground.T.g ground.T.b ground.T.builtins ground.T.nolimit nogen hobj hints (Nat.le_trans hlen small) hr fn bind fun H only seq => holds w H a ns hlen hbits only seq
end Ix

namespace Ix
open PySem L2
/-! ### built-ins, methods, calls -/
section
variable {X : Cx} {Γ : Fs} {a b c e : Expr} {es rest : List Expr} {ca cb cc ce cs : E} {pos : Pos}
theorem w_args {c2 : E} {f : List D → Hd → Option (D × Hd)} {σ : L2.St} {H : Hp} {Q : VK} (hev : ∀ env S, ev Γ c2 env S = (ev Γ cs env S).bind fun x => (argsOf x.1).bind fun ds => f ds x.2) (h : tr X.K Γ c2 σ H Q) : tCB (rA X.K f) (trA X.K Γ cs) σ H Q := by
  obtain ⟨α, env, S, d, S', ok, en, e, k⟩ := h
  rw [hev] at e
  simp only [Option.bind_eq_some_iff] at e
  obtain ⟨⟨d1, S1⟩, e1, ds, e2, e3⟩ := e
  cases argsOf_some e2
  exact ⟨α, env, S, ds, S1, ok, en, e1, fun α1 H1 vs x1 ok1 r1 => ⟨α1, S1, ds, d, S', ok1, r1, e3, fun α2 H2 v x2 ok2 r2 => k α2 H2 v (x1.trans x2) ok2 r2⟩⟩
theorem Rps.one' {K : PySem.W.Frag} {α : List Addr} {H : Hp} {x : D} {vs : List V} (h : Rps K α H [x] vs) : ∃ v, vs = [v] ∧ Rp K α H x v := by
  obtain ⟨w, ws, rfl, r, t⟩ := h.uncons
  exact ⟨w, by rw [t.unnil], r⟩
theorem Rps.two' {K : PySem.W.Frag} {α : List Addr} {H : Hp} {x y : D} {vs : List V} (h : Rps K α H [x, y] vs) : ∃ v u, vs = [v, u] ∧ Rp K α H x v ∧ Rp K α H y u := by
  obtain ⟨w, ws, rfl, r, t⟩ := h.uncons
  obtain ⟨u, rfl, q⟩ := t.one'
  exact ⟨w, u, rfl, r, q⟩
theorem bools_of {K : PySem.W.Frag} {α : List Addr} {H : Hp} : ∀ {xs : List D} {bs : List Bool} {vs : List V}, bools xs = some bs → Rps K α H xs vs → vs = bs.map V.bl
  | [], bs, vs, h, r => by
    simp only [bools, Option.some.injEq] at h
    subst h
    exact r.unnil
  | x :: xs, bs, vs, h, r => by
    cases x with
    | bl b =>
      simp only [bools, Option.map_eq_some_iff] at h
      obtain ⟨cs, h, rfl⟩ := h
      obtain ⟨w, ws, rfl, r1, r2⟩ := r.uncons
      cases r1
      rw [bools_of h r2]
      rfl
    | _ => simp [bools] at h
theorem len1 {α : Type} {f : Bl} {xs : List D} {S : Hd} {r : D × Hd} (h : bltD f xs S = some r) : True := trivial
theorem b_len : CallR X (.builtin "len") (rA X.K (bltD .len)) := by
  intro pins s σ H xs us Q I r ⟨α, S, ds, d, S', ok, rs, e, k⟩
  match ds, e with
  | [x], e =>
    simp only [bltD, Option.map_eq_some_iff, Prod.mk.injEq] at e
    obtain ⟨ys, h1, rfl, rfl⟩ := e
    obtain ⟨v, rfl, r1⟩ := rs.one'
    obtain ⟨a, vs, rfl, q, z⟩ := seq_of ok r1 h1
    exact call_len_seq pins s σ H _ us Q I r ⟨a, vs, rfl, z.elim (fun z => .inr z.2) fun z => .inl z.2, by rw [q.len]; exact k α H _ Xt.refl ok (.int _)⟩
  | [], e => simp [bltD] at e
  | _ :: _ :: _, e => simp [bltD] at e
theorem b_int : CallR X (.type "int") (rA X.K (bltD .int_)) := by
  intro pins s σ H xs us Q I r ⟨α, S, ds, d, S', ok, rs, e, k⟩
  match ds, e with
  | [x], e =>
    obtain ⟨v, rfl, r1⟩ := rs.one'
    cases x with
    | int i =>
      simp only [bltD, Option.some.injEq, Prod.mk.injEq] at e
      obtain ⟨rfl, rfl⟩ := e
      cases r1
      exact call_int1 pins s σ H _ us Q I r (.inl ⟨i, rfl, k α H _ Xt.refl ok (.int _)⟩)
    | bl i =>
      simp only [bltD, Option.some.injEq, Prod.mk.injEq] at e
      obtain ⟨rfl, rfl⟩ := e
      cases r1
      exact call_int1 pins s σ H _ us Q I r (.inr ⟨i, rfl, k α H _ Xt.refl ok (.int _)⟩)
    | _ => simp [bltD] at e
  | [], e => simp [bltD] at e
  | x :: _ :: _, e => cases x <;> simp [bltD] at e
theorem b_abs : CallR X (.builtin "abs") (rA X.K (bltD .abs_)) := by
  intro pins s σ H xs us Q I r ⟨α, S, ds, d, S', ok, rs, e, k⟩
  match ds, e with
  | [x], e =>
    obtain ⟨v, rfl, r1⟩ := rs.one'
    cases x with
    | int i =>
      simp only [bltD, Option.some.injEq, Prod.mk.injEq] at e
      obtain ⟨rfl, rfl⟩ := e
      cases r1
      exact call_abs pins s σ H _ us Q I r ⟨i, rfl, k α H _ Xt.refl ok (.int _)⟩
    | _ => simp [bltD] at e
  | [], e => simp [bltD] at e
  | x :: _ :: _, e => cases x <;> simp [bltD] at e
theorem ints_of {K : PySem.W.Frag} {α : List Addr} {H : Hp} : ∀ {xs : List D} {ns : List Int} {vs : List V}, intsD xs = some ns → Rps K α H xs vs → vs = ns.map V.int
  | [], ns, vs, h, r => by
    simp only [intsD, Option.some.injEq] at h
    subst h
    exact r.unnil
  | x :: xs, ns, vs, h, r => by
    cases x with
    | int b =>
      simp only [intsD, Option.map_eq_some_iff] at h
      obtain ⟨cs, h, rfl⟩ := h
      obtain ⟨w, ws, rfl, r1, r2⟩ := r.uncons
      cases r1
      rw [ints_of h r2]
      rfl
    | _ => simp [intsD] at h
theorem intsAt_of {K : PySem.W.Frag} {α : List Addr} {S : Hd} {H : Hp} {d : D} {v : V} {ns : List Int} (ok : Ok K α S H) (r : Rp K α H d v) (h : intsAt S d = some ns) : ∃ a, v = .ref a ∧ SqL K H a (ns.map V.int) := by
  unfold intsAt at h
  split at h
  · cases h
  · rename_i nt
    simp only [Option.bind_eq_some_iff] at h
    obtain ⟨xs, h1, h2⟩ := h
    obtain ⟨a, vs, rfl, q, z⟩ := seq_of ok r h1
    rcases z with ⟨z, _⟩ | ⟨_, z⟩
    · exact absurd z nt
    · rw [ints_of h2 q] at z
      exact ⟨a, rfl, z⟩
theorem fold_max : ∀ (is : List Int) (i m : Int), (m = i ∨ m ∈ is) → i ≤ m → (∀ y ∈ is, y ≤ m) → is.foldl (fun a b => if b > a then b else a) i = m
  | [], i, m, h, _, _ => by
    rcases h with h | h
    · exact h.symm
    · simp at h
  | j :: is, i, m, h, hi, hm => by
    have hj := hm j List.mem_cons_self
    refine fold_max is _ m ?_ ?_ fun y hy => hm y (List.mem_cons_of_mem _ hy)
    · rcases h with h | h
      · subst h
        left
        show m = if j > m then j else m
        rw [if_neg (by omega)]
      · rcases List.mem_cons.mp h with h | h
        · subst h
          left
          show m = if m > i then m else i
          split <;> omega
        · exact .inr h
    · show (if j > i then j else i) ≤ m
      split <;> omega
theorem maxL_is {ns : List Int} {m m' : Int} (h : maxL ns = some m) (h1 : m' ∈ ns) (h2 : ∀ y ∈ ns, y ≤ m') : m = m' := by
  cases ns with
  | nil => cases h
  | cons i is =>
    simp only [maxL, Option.some.injEq] at h
    rw [← h]
    exact fold_max is i m' (List.mem_cons.mp h1) (h2 i List.mem_cons_self) fun y hy => h2 y (List.mem_cons_of_mem _ hy)
theorem insI_perm (i : Int) : ∀ js : List Int, (insI i js).Perm (i :: js)
  | [] => .refl _
  | j :: js => by
    unfold insI
    split
    · exact .refl _
    · exact ((insI_perm i js).cons j).trans (.swap i j js)
theorem srtI_perm : ∀ is : List Int, (srtI is).Perm is
  | [] => .refl _
  | i :: is => (insI_perm i _).trans ((srtI_perm is).cons i)
theorem insI_le (i : Int) : ∀ {js : List Int}, js.Pairwise (· ≤ ·) → (insI i js).Pairwise (· ≤ ·)
  | [], _ => by simp [insI]
  | j :: js, h => by
    unfold insI
    have h' := List.pairwise_cons.mp h
    split
    · refine List.pairwise_cons.mpr ⟨fun y hy => ?_, h⟩
      rcases List.mem_cons.mp hy with e | hy
      · omega
      · have := h'.1 y hy
        omega
    · refine List.pairwise_cons.mpr ⟨fun y hy => ?_, insI_le i h'.2⟩
      rcases List.mem_cons.mp ((insI_perm i js).mem_iff.mp hy) with e | hy
      · omega
      · exact h'.1 y hy
theorem srtI_le : ∀ is : List Int, (srtI is).Pairwise (· ≤ ·)
  | [] => .nil
  | i :: is => insI_le i (srtI_le is)
theorem srt_one {A B : List Int} (p : A.Perm B) (ha : A.Pairwise (· ≤ ·)) (hb : B.Pairwise (· ≤ ·)) : A = B :=
  p.eq_of_pairwise (fun a b _ _ h1 h2 => by omega) ha hb
theorem b_sum (hc : X.calm = true) : CallR X (.builtin "sum") (rA X.K (bltD .sum_)) := by
  intro pins s σ H xs us Q I r ⟨α, S, ds, d, S', ok, rs, e, k⟩
  match ds, e with
  | [x], e =>
    simp only [bltD, Option.map_eq_some_iff, Prod.mk.injEq] at e
    obtain ⟨ns, h1, rfl, rfl⟩ := e
    obtain ⟨v, rfl, r1⟩ := rs.one'
    obtain ⟨a, rfl, z⟩ := intsAt_of ok r1 h1
    exact cr_sum hc pins s σ H _ us Q I r ⟨a, ns, rfl, z, k α H _ Xt.refl ok (.int _)⟩
  | [], e => simp [bltD] at e
  | _ :: _ :: _, e => simp [bltD] at e
theorem b_sorted : CallR X (.builtin "sorted") (rA X.K (bltD .sorted_)) := by
  intro pins s σ H xs us Q I r ⟨α, S, ds, d, S', ok, rs, e, k⟩
  match ds, e with
  | [x], e =>
    simp only [bltD, Option.map_eq_some_iff, alloc, Prod.mk.injEq] at e
    obtain ⟨ns, h1, rfl, rfl⟩ := e
    obtain ⟨v, rfl, r1⟩ := rs.one'
    obtain ⟨a, rfl, z⟩ := intsAt_of ok r1 h1
    refine cr_sortedI pins s σ H _ us Q I r ⟨a, ns, rfl, z, fun ns' p pm le hp => ?_⟩
    have e2 : ns' = srtI ns := srt_one (pm.trans (srtI_perm ns).symm) le (srtI_le ns)
    subst e2
    refine go_new ok hp ⟨by simp, fun i x v h1 h2 => ?_⟩ k
    rw [List.getElem?_map] at h1 h2
    cases hx : (srtI ns)[i]? with
    | none => rw [hx] at h1; cases h1
    | some m =>
      rw [hx] at h1 h2
      cases h1
      cases h2
      exact .int m
  | [], e => simp [bltD] at e
  | _ :: _ :: _, e => simp [bltD] at e
theorem b_max (hc : X.calm = true) : CallR X (.builtin "max") (rA X.K (bltD .max_)) := by
  intro pins s σ H xs us Q I r ⟨α, S, ds, d, S', ok, rs, e, k⟩
  match ds, e with
  | [x], e =>
    simp only [bltD, Option.map_eq_some_iff, Option.bind_eq_some_iff, Prod.mk.injEq] at e
    obtain ⟨m, ⟨ns, h1, h2⟩, rfl, rfl⟩ := e
    obtain ⟨v, rfl, r1⟩ := rs.one'
    obtain ⟨a, rfl, z⟩ := intsAt_of ok r1 h1
    refine cr_max hc pins s σ H _ us Q I r ⟨a, ns, rfl, z, ?_, fun m' q1 q2 => ?_⟩
    · cases ns with
      | nil => cases h2
      | cons i is => exact Nat.succ_pos _
    · rw [← maxL_is h2 q1 q2]
      exact k α H _ Xt.refl ok (.int _)
  | [x, y], e =>
    obtain ⟨v, u, rfl, r1, r2⟩ := rs.two'
    cases x with
    | int i =>
      cases y with
      | int j =>
        simp only [bltD, Option.some.injEq, Prod.mk.injEq] at e
        obtain ⟨rfl, rfl⟩ := e
        cases r1
        cases r2
        exact call_max2 hc pins s σ H _ us Q I r ⟨i, j, rfl, k α H _ Xt.refl ok (.int _)⟩
      | _ => simp [bltD] at e
    | _ => cases y <;> simp [bltD] at e
  | [], e => simp [bltD] at e
  | x :: y :: _ :: _, e => cases x <;> cases y <;> simp [bltD] at e
theorem b_min (hc : X.calm = true) : CallR X (.builtin "min") (rA X.K (bltD .min_)) := by
  intro pins s σ H xs us Q I r ⟨α, S, ds, d, S', ok, rs, e, k⟩
  match ds, e with
  | [x, y], e =>
    obtain ⟨v, u, rfl, r1, r2⟩ := rs.two'
    cases x with
    | int i =>
      cases y with
      | int j =>
        simp only [bltD, Option.some.injEq, Prod.mk.injEq] at e
        obtain ⟨rfl, rfl⟩ := e
        cases r1
        cases r2
        exact call_min2 hc pins s σ H _ us Q I r ⟨i, j, rfl, k α H _ Xt.refl ok (.int _)⟩
      | _ => simp [bltD] at e
    | _ => cases y <;> simp [bltD] at e
  | [], e => simp [bltD] at e
  | [x], e => cases x <;> simp [bltD] at e
  | x :: y :: _ :: _, e => cases x <;> cases y <;> simp [bltD] at e
theorem b_all (hc : X.calm = true) : CallR X (.builtin "all") (rA X.K (bltD .all_)) := by
  intro pins s σ H xs us Q I r ⟨α, S, ds, d, S', ok, rs, e, k⟩
  match ds, e with
  | [x], e =>
    simp only [bltD] at e
    split at e
    · cases e
    · rename_i nt
      simp only [Option.map_eq_some_iff, Option.bind_eq_some_iff, Prod.mk.injEq] at e
      obtain ⟨bs, ⟨ys, h1, h2⟩, rfl, rfl⟩ := e
      obtain ⟨v, rfl, r1⟩ := rs.one'
      obtain ⟨a, vs, rfl, q, z⟩ := seq_of ok r1 h1
      rcases z with ⟨z, _⟩ | ⟨_, z⟩
      · exact absurd z nt
      · rw [bools_of h2 q] at z
        exact cr_all hc pins s σ H _ us Q I r ⟨a, bs, rfl, z, k α H _ Xt.refl ok (.bl _)⟩
  | [], e => simp [bltD] at e
  | _ :: _ :: _, e => simp [bltD] at e
theorem b_any (hc : X.calm = true) : CallR X (.builtin "any") (rA X.K (bltD .any_)) := by
  intro pins s σ H xs us Q I r ⟨α, S, ds, d, S', ok, rs, e, k⟩
  match ds, e with
  | [x], e =>
    simp only [bltD] at e
    split at e
    · cases e
    · rename_i nt
      simp only [Option.map_eq_some_iff, Option.bind_eq_some_iff, Prod.mk.injEq] at e
      obtain ⟨bs, ⟨ys, h1, h2⟩, rfl, rfl⟩ := e
      obtain ⟨v, rfl, r1⟩ := rs.one'
      obtain ⟨a, vs, rfl, q, z⟩ := seq_of ok r1 h1
      rcases z with ⟨z, _⟩ | ⟨_, z⟩
      · exact absurd z nt
      · rw [bools_of h2 q] at z
        exact cr_any hc pins s σ H _ us Q I r ⟨a, bs, rfl, z, k α H _ Xt.refl ok (.bl _)⟩
  | [], e => simp [bltD] at e
  | _ :: _ :: _, e => simp [bltD] at e
theorem b_tuple : CallR X (.type "tuple") (rA X.K (bltD .tuple_)) := by
  intro pins s σ H xs us Q I r ⟨α, S, ds, d, S', ok, rs, e, k⟩
  match ds, e with
  | [x], e =>
    simp only [bltD, Option.map_eq_some_iff, Prod.mk.injEq] at e
    obtain ⟨ys, h1, rfl, rfl⟩ := e
    obtain ⟨v, rfl, r1⟩ := rs.one'
    obtain ⟨a, vs, rfl, q, z⟩ := seq_of ok r1 h1
    rcases z with ⟨_, z⟩ | ⟨_, z⟩
    · exact call_tuple_of pins s σ H _ us Q I r ⟨a, vs, rfl, .inr ⟨z, k α H _ Xt.refl ok (.tup z q.len q.at_)⟩⟩
    · exact call_tuple_of pins s σ H _ us Q I r ⟨a, vs, rfl, .inl ⟨z, fun p hp => go_tup ok hp q k⟩⟩
  | [], e => simp [bltD] at e
  | _ :: _ :: _, e => simp [bltD] at e
theorem b_list : CallR X (.type "list") (rA X.K (bltD .list_)) := by
  intro pins s σ H xs us Q I r ⟨α, S, ds, d, S', ok, rs, e, k⟩
  match ds, e with
  | [x], e =>
    simp only [bltD, Option.map_eq_some_iff, alloc, Prod.mk.injEq] at e
    obtain ⟨ys, h1, rfl, rfl⟩ := e
    obtain ⟨v, rfl, r1⟩ := rs.one'
    obtain ⟨a, vs, rfl, q, z⟩ := seq_of ok r1 h1
    exact call_list_of pins s σ H _ us Q I r ⟨a, vs, rfl, z.elim (fun z => .inr z.2) fun z => .inl z.2, fun p hp => go_new ok hp q k⟩
  | [], e => simp [bltD] at e
  | _ :: _ :: _, e => simp [bltD] at e
theorem b_str : CallR X (.type "str") (rA X.K (bltD .str_)) := by
  intro pins s σ H xs us Q I r ⟨α, S, ds, d, S', ok, rs, e, k⟩
  match ds, e with
  | [x], e =>
    obtain ⟨v, rfl, r1⟩ := rs.one'
    cases x with
    | str z =>
      simp only [bltD, Option.some.injEq, Prod.mk.injEq] at e
      obtain ⟨rfl, rfl⟩ := e
      cases r1
      exact SkE.call_str_str pins s σ H _ us Q I r ⟨z, rfl, k α H _ Xt.refl ok (.str _)⟩
    | int i =>
      simp only [bltD] at e
      split at e
      · simp only [Option.some.injEq, Prod.mk.injEq] at e
        obtain ⟨rfl, rfl⟩ := e
        cases r1
        exact call_str_int pins s σ H _ us Q I r ⟨i, rfl, by assumption, k α H _ Xt.refl ok (.str _)⟩
      · cases e
    | _ => simp [bltD] at e
  | [], e => simp [bltD] at e
  | x :: _ :: _, e => cases x <;> simp [bltD] at e
/-! isinstance -/
theorem tyX_of {K : PySem.W.Frag} {α : List Addr} {H : Hp} {S : Hd} {x : D} {v : V} {n : String} (ok : Ok K α S H) (r : Rp K α H x v) (h : tyName S x = some n) : TyX K H v (.type n) := by
  cases r with
  | non => simp only [tyName, Option.some.injEq] at h; subst h; exact .base .non
  | bl b => simp only [tyName, Option.some.injEq] at h; subst h; exact .base (.bl b)
  | int i => simp only [tyName, Option.some.injEq] at h; subst h; exact .base (.int i)
  | str z => simp only [tyName, Option.some.injEq] at h; subst h; exact .base (.str z)
  | ty z => simp [tyName] at h
  | tup h1 l q =>
    simp only [tyName, Option.some.injEq] at h
    subst h
    rcases h1 with (h1 | ⟨o, h1⟩) | ⟨o, its, m, h1, h2, _⟩
    · exact .base (.tup h1)
    · exact .fTuple h1
    · exact .kTuple h1 h2
  | @ref k a e =>
    simp only [tyName] at h
    split at h
    · rename_i ys e2
      simp only [Option.some.injEq] at h
      subst h
      obtain ⟨a', vs, e3, e4, e5, e6⟩ := ok.lst e2 (.ref e)
      cases e3
      exact .base (.lst e5)
    · cases h
  | ro h1 =>
    simp only [tyName, Option.some.injEq] at h
    subst h
    rcases h1 with ⟨o, h1⟩ | ⟨o, its, m, h1, h2, _⟩
    · exact .base (.frz h1)
    · exact .kList h1 h2
def names7 : List String := ["NoneType", "bool", "int", "str", "tuple", "list"]
theorem tyName_in {S : Hd} {x : D} {n : String} (h : tyName S x = some n) : n ∈ names7 := by
  unfold tyName at h
  split at h <;> first
    | (simp only [Option.some.injEq] at h; subst h; decide)
    | (split at h <;> first | (simp only [Option.some.injEq] at h; subst h; decide) | cases h)
    | cases h
theorem kit_all : (names7.all fun n => ["int", "bool", "str", "tuple", "list"].all fun c => decide (kitB n c = some (isaN n c))) = true := by decide +kernel
theorem kit_of' {K : PySem.W.Frag} {n c : String} (hn : n ∈ names7) (hc : plainTy c = true) : PySem.W.kitOne K (.type n) (.type c) = some (isaN n c) := by
  have h := kit_all
  rw [List.all_eq_true] at h
  have h2 := h n hn
  rw [List.all_eq_true] at h2
  exact kit_ty (of_decide_eq_true (h2 c (by unfold plainTy at hc; simpa using hc)))
theorem tys_of {K : PySem.W.Frag} {α : List Addr} {H : Hp} : ∀ {xs : List D} {ts : List String} {vs : List V}, tysOf xs = some ts → Rps K α H xs vs → Paired ClsV vs (ts.map Value.type) ∧ ∀ t ∈ ts, plainTy t = true
  | [], ts, vs, h, r => by
    simp only [tysOf, Option.some.injEq] at h
    subst h
    rw [r.unnil]
    exact ⟨.nil, fun t ht => by cases ht⟩
  | x :: xs, ts, vs, h, r => by
    cases x with
    | ty c =>
      simp only [tysOf] at h
      split at h
      · rename_i hp
        simp only [Option.map_eq_some_iff] at h
        obtain ⟨cs, h, rfl⟩ := h
        obtain ⟨w, ws, rfl, r1, r2⟩ := r.uncons
        cases r1
        obtain ⟨p1, p2⟩ := tys_of h r2
        refine ⟨.cons (.ty c) p1, fun t ht => ?_⟩
        rcases List.mem_cons.mp ht with rfl | ht
        · exact hp
        · exact p2 t ht
      · cases h
    | _ => simp [tysOf] at h
theorem kit_any {K : PySem.W.Frag} {n : String} (hn : n ∈ names7) : ∀ {ts : List String}, (∀ t ∈ ts, plainTy t = true) → PySem.W.kitAny K (.type n) (ts.map Value.type) = some (ts.any (isaN n))
  | [], _ => kitAny_nil
  | t :: ts, h => by
    refine kitAny_cons (kit_of' hn (h t List.mem_cons_self)) (fun hb => ?_) fun hb => ?_
    · rw [List.any_cons, hb, Bool.false_or]
      exact kit_any hn fun u hu => h u (List.mem_cons_of_mem _ hu)
    · rw [List.any_cons, hb, Bool.true_or]
theorem b_isi : CallR X (.builtin "isinstance") (rA X.K (bltD .isi)) := by
  intro pins s σ H xs us Q I r ⟨α, S, ds, d, S', ok, rs, e, k⟩
  match ds, e with
  | [x, y], e =>
    obtain ⟨v, u, rfl, r1, r2⟩ := rs.two'
    cases y with
    | ty c =>
      simp only [bltD] at e
      split at e
      · rename_i hp
        simp only [Option.map_eq_some_iff, Prod.mk.injEq] at e
        obtain ⟨n, h1, rfl, rfl⟩ := e
        cases r2
        exact call_isi pins s σ H _ us Q I r ⟨v, .ty c, .type n, .type c, isaN n c, rfl, .ty c, tyX_of ok r1 h1, kit_of' (tyName_in h1) hp, k α H _ Xt.refl ok (.bl _)⟩
      · cases e
    | tup cs =>
      simp only [bltD, Option.bind_eq_some_iff, Option.map_eq_some_iff, Prod.mk.injEq] at e
      obtain ⟨ts, h2, n, h1, rfl, rfl⟩ := e
      cases r2 with
      | @tup _ tp vs h3 l q =>
        obtain ⟨p1, p2⟩ := tys_of h2 ⟨l, q⟩
        obtain ⟨u1, u2, rfl, q1, q2⟩ := vals2 r
        cases (show u2 = Value.ref tp from q2)
        obtain ⟨P, Z, p, hx⟩ := kit_of I q1 (tyX_of ok r1 h1)
        obtain ⟨its, rv, ⟨o, g1, g2, m, g3⟩, _⟩ := I.tuple h3
        have e3 := ClsV.all p1 rv
        subst e3
        obtain ⟨oc, od, dt, sl⟩ := o
        simp only at g2 g3
        subst g2 g3
        exact PySem.W.kia_tup Z I.kIn p g1 (kit_any (tyName_in h1) p2) hx fun tk => ⟨.bl _, H, I.tok tk, rfl, k α H _ Xt.refl ok (.bl _)⟩
    | _ => simp [bltD] at e
  | [], e => simp [bltD] at e
  | [_], e => simp [bltD] at e
  | _ :: _ :: _ :: _, e => simp [bltD] at e
/-- f(e, ..) of a built-in function, of a built-in class -/
theorem xe_blt {id : String} {x : Str} {p : Pos} (B : Bl) (hc : CallR X (.builtin id) (rA X.K (bltD B))) (hg : Gl X x) (hm : X.mg x = none) (hv : bootBuiltins x = some (.builtin id)) (ha : PA X (e :: es) (trA X.K Γ cs)) (hn : x ≠ "__name__" := by decide) (hdb : (x == ("__debug__" : Str)) = false := by decide)
    (he : starEach (e :: es) X.env = (false, eval e X.env) :: starEach es X.env := by rfl) (hpl : (backTo pos (starEach es X.env)).any (·.1) = false := by rfl) : PE X (.Call (.Name x p) (e :: es) [] pos) (tr X.K Γ (.blt B cs)) :=
  pe_w (pe_callB hc hg hm hv ha hn hdb he hpl) fun σ H Q h => w_args (fun _ _ => rfl) h
theorem xe_bty {T : String} {x : Str} {p : Pos} (B : Bl) (hc : CallR X (.type T) (rA X.K (bltD B))) (hg : Gl X x) (hm : X.mg x = none) (hv : bootBuiltins x = some (.type T)) (ha : PA X (e :: es) (trA X.K Γ cs)) (hn : x ≠ "__name__" := by decide) (hdb : (x == ("__debug__" : Str)) = false := by decide)
    (he : starEach (e :: es) X.env = (false, eval e X.env) :: starEach es X.env := by rfl) (hpl : (backTo pos (starEach es X.env)).any (·.1) = false := by rfl) : PE X (.Call (.Name x p) (e :: es) [] pos) (tr X.K Γ (.blt B cs)) :=
  pe_w (pe_callTy hc hg hm hv ha hn hdb he hpl) fun σ H Q h => w_args (fun _ _ => rfl) h
/-- xs.append(e) -/
theorem m_append : MtR X "list.append" (rM X.K (methD .append)) := by
  intro pins s σ H x xs v us Q I rx r ⟨α, S, d1, ds, d, S', ok, r1, rs, e, k⟩
  cases d1 with
  | ref j =>
    match ds, e with
    | [y], e =>
      simp only [methD] at e
      split at e
      · rename_i ys e1
        split at e
        · rename_i hz
          simp only [Option.some.injEq, Prod.mk.injEq] at e
          obtain ⟨rfl, rfl⟩ := e
          obtain ⟨u, rfl, r2⟩ := rs.one'
          obtain ⟨a, vs, rfl, e3, e4, q⟩ := ok.lst e1 r1
          exact mt_append pins s σ H _ _ v us Q I rx r ⟨a, vs, u, rfl, rfl, e4, most_lt (by rw [q.len]; exact hz), k α _ _ (Xt.write e4) (ok.write e3 e4 (o := .lst (ys ++ [y])) (u := .lst (vs ++ [u])) (Rps.append q (Rps.one r2))) .non⟩
        · cases e
      · cases e
    | [], e => simp [methD] at e
    | _ :: _ :: _, e => simp [methD] at e
  | _ => simp [methD] at e
theorem m_clear : MtR X "list.clear" (rM X.K (methD .clear)) := by
  intro pins s σ H x xs v us Q I rx r ⟨α, S, d1, ds, d, S', ok, r1, rs, e, k⟩
  cases d1 with
  | ref j =>
    match ds, e with
    | [], e =>
      simp only [methD] at e
      split at e
      · rename_i ys e1
        simp only [Option.some.injEq, Prod.mk.injEq] at e
        obtain ⟨rfl, rfl⟩ := e
        obtain rfl := rs.unnil
        obtain ⟨a, vs, rfl, e3, e4, q⟩ := ok.lst e1 r1
        exact mt_clear pins s σ H _ _ v us Q I rx r ⟨a, vs, rfl, rfl, e4, k α _ _ (Xt.write e4) (ok.write e3 e4 (o := .lst []) (u := .lst []) Rps.nil) .non⟩
      · cases e
    | [y], e => simp [methD] at e
    | _ :: _ :: _, e => simp [methD] at e
  | _ => simp [methD] at e
theorem lst_ty {K : PySem.W.Frag} {α : List Addr} {H : Hp} {S : Hd} {d : D} {v : V} (ok : Ok K α S H) (r1 : Rp K α H d v) (h : isLst S d = true) : tyV K "list" v H := by
  unfold isLst at h
  split at h
  · split at h
    · rename_i k xs e
      obtain ⟨a, vs, rfl, _, e4, _⟩ := ok.lst e r1
      exact .inl ⟨rfl, vs, SqL.of e4⟩
    · cases h
  · cases h
theorem xe_append {apos cpos : Pos} {o : Expr} {co : E} (ho : PE X o (tr X.K Γ co)) (ha : PA X (e :: es) (trA X.K Γ cs))
    (hbase : attributeBase o "append" X.env (eval o X.env) = eval o X.env := by rfl)
    (hfew : ((backTo cpos (starEach (e :: es) X.env)).all (fun x => !x.1) && (backToKw cpos (keywordEach [] X.env)).all (fun x => x.1.isSome)
      && decide ((e :: es).length + ([] : List Keyword).length + (if ([] : List Keyword).isEmpty then 0 else 1) < 30)) = true := by rfl)
    (hline : (apos.endLine == cpos.line) = true := by rfl) (hs : starEach (e :: es) X.env = (false, eval e X.env) :: starEach es X.env := by rfl) (hplain : (backTo cpos (starEach es X.env)).any (·.1) = false := by rfl) :
    PE X (.Call (.Attribute o "append" apos) (e :: es) [] cpos) (tr X.K Γ (.meth .append co cs)) :=
  pe_w (pe_bm PySem.F.plainAttrs_list PySem.F.slot_list_append PySem.F.type_list_append m_append ho ha hbase hfew hline hs hplain) fun σ H Q ⟨α, env, S, d, S', ok, en, e, k⟩ => by
    simp only [ev, Option.bind_eq_some_iff] at e
    obtain ⟨⟨d1, S1⟩, e1, e2⟩ := e
    split at e2
    · rename_i hl
      simp only [Option.bind_eq_some_iff] at e2
      obtain ⟨⟨d2, S2⟩, e2, ds, e3, e4⟩ := e2
      cases argsOf_some e3
      exact ⟨α, env, S, d1, S1, ok, en, e1, fun α1 H1 v1 x1 ok1 r1 => ⟨lst_ty ok1 r1 hl, α1, env, S1, ds, S2, ok1, en.mono x1, e2, fun α2 H2 vs x2 ok2 r2 =>
        ⟨α2, S2, d1, ds, d, S', ok2, r1.mono x2, r2, e4, fun α3 H3 v x3 ok3 r3 => k α3 H3 v (x1.trans (x2.trans x3)) ok3 r3⟩⟩⟩
    · cases e2
end

/-! ### the defs -/
section
/-- what a def of the text promises: as the meaning says -/
def spF (K : PySem.W.Frag) (Γ : Fs) (f : Nat) : Sp := fun vs H Q _ => ∃ α S ds d S', Ok K α S H ∧ Rps K α H ds vs ∧ Γ f ds S = some (d, S') ∧ ∀ α' H' v, Xt K α H α' H' → Ok K α' S' H' → Rp K α' H' d v → Q v H'
/-- the def f, called x in the text, keeps its promise -/
structure FnI (P : Program) (w : World) (K : PySem.W.Frag) (mg : Str → Option Value) (base : Heap) (Γ : Fs) (n f : Nat) (x : Str) (ps : List Str) (st : Stmt) : Prop where
  ex : ∃ (fa : Addr) (fd : FuncData), mg x = some (.ref fa) ∧ Fun K x x st fa fd ∧ FnG P w K mg base n fa fd ps (spF K Γ f) ∧ Binds K fd ps []
variable {X : Cx} {Γ : Fs} {e : Expr} {es : List Expr} {cs ck : E} {pos p : Pos} {n f : Nat} {x : Str} {ps : List Str} {st : Stmt}
theorem xe_call (F : FnI X.prog X.w X.K X.mg X.base Γ n f x ps st) (hr : RoomG n X.A) (hg : Gl X x) (ha : PA X (e :: es) (trA X.K Γ cs))
    (hdb : (x == ("__debug__" : Str)) = false := by decide) (he : starEach (e :: es) X.env = (false, eval e X.env) :: starEach es X.env := by rfl) (hpl : (backTo pos (starEach es X.env)).any (·.1) = false := by rfl) :
    PE X (.Call (.Name x p) (e :: es) [] pos) (tr X.K Γ (.call f cs)) := by
  obtain ⟨fa, fd, h1, h2, h3, hb⟩ := F.ex
  refine pe_w (pe_callG (E := E0) h3 hr hg h1 h2.kp hb pass0 ha hdb he hpl) fun σ H Q ⟨α, env, S, d, S', ok, en, e, k⟩ => ?_
  simp only [ev, Option.bind_eq_some_iff] at e
  obtain ⟨⟨d1, S1⟩, e1, ds, e2, e3⟩ := e
  cases argsOf_some e2
  refine ⟨α, env, S, ds, S1, ok, en, e1, fun α1 H1 vs x1 ok1 r1 => ?_⟩
  show spF X.K Γ f (vs ++ []) H1 Q E0
  rw [List.append_nil]
  exact ⟨α1, S1, ds, d, S', ok1, r1, e3, fun α2 H2 v x2 ok2 r2 => k α2 H2 v (x1.trans x2) ok2 r2⟩
def narg : E → Option Nat
  | .nil => some 0
  | .cons _ es => (narg es).map (· + 1)
  | _ => none
theorem narg_len : ∀ {cs : E} {m : Nat} {env : Sl} {S : Hd} {ds : List D} {S' : Hd}, narg cs = some m → ev Γ cs env S = some (.tup ds, S') → ds.length = m
  | .nil, m, env, S, ds, S', h, e => by
    simp only [narg, Option.some.injEq] at h
    simp only [ev, Option.some.injEq, Prod.mk.injEq, D.tup.injEq] at e
    rw [← e.1, ← h]
    rfl
  | .cons a es, m, env, S, ds, S', h, e => by
    simp only [narg, Option.map_eq_some_iff] at h
    obtain ⟨m1, h, rfl⟩ := h
    simp only [ev, Option.bind_eq_some_iff, Option.map_eq_some_iff, Prod.mk.injEq, D.tup.injEq] at e
    obtain ⟨⟨d1, S1⟩, e1, ⟨d2, S2⟩, e2, dr, e3, rfl, rfl⟩ := e
    cases argsOf_some e3
    rw [List.length_cons, narg_len h e2]
theorem rel_get {vs : List V} {us : List Value} (r : Vals vs us) (i : Nat) : (∃ v u, vs[i]? = some v ∧ us[i]? = some u ∧ RelV v u) ∨ (vs[i]? = none ∧ us[i]? = none) := by
  cases h : vs[i]? with
  | none => exact .inr ⟨rfl, r.none_of h⟩
  | some v =>
    obtain ⟨u, h1, h2⟩ := r.get h
    exact .inl ⟨v, u, rfl, h1, h2⟩
theorem rel_perm {vs : List V} {us : List Value} (r : Vals vs us) : ∀ perm : List Nat, Vals (permV perm vs) (permV perm us)
  | [] => .nil
  | i :: perm => by
    unfold permV
    rcases rel_get r i with ⟨v, u, h1, h2, h3⟩ | ⟨h1, h2⟩
    · rw [List.filterMap_cons, List.filterMap_cons, h1, h2]
      exact .cons h3 (rel_perm r perm)
    · rw [List.filterMap_cons, List.filterMap_cons, h1, h2]
      exact rel_perm r perm
theorem Rps.perm {K : PySem.W.Frag} {α : List Addr} {H : Hp} {ds : List D} {vs : List V} (r : Rps K α H ds vs) : ∀ perm : List Nat, Rps K α H (permV perm ds) (permV perm vs)
  | [] => .nil
  | i :: perm => by
    unfold permV
    cases h : ds[i]? with
    | none =>
      have h2 : vs[i]? = none := by
        rw [List.getElem?_eq_none_iff, r.len]
        exact List.getElem?_eq_none_iff.mp h
      rw [List.filterMap_cons, List.filterMap_cons, h, h2]
      exact Rps.perm r perm
    | some d =>
      obtain ⟨v, h2, q⟩ := r.get h
      rw [List.filterMap_cons, List.filterMap_cons, h, h2]
      exact .cons q (Rps.perm r perm)
theorem xk_nil : PK X [] (trA X.K Γ .nil) := ⟨fun pos pins s σ H Q I h => pk_nil.run pos pins s σ H Q I (by
  obtain ⟨α, env, S, ds, S', ok, en, e, k⟩ := h
  simp only [ev, Option.some.injEq, Prod.mk.injEq, D.tup.injEq] at e
  obtain ⟨rfl, rfl⟩ := e
  exact k α H [] Xt.refl ok .nil)⟩
theorem xk_cons {nm : Option Str} {kpos : Pos} {kws : List Keyword} {ca : E} (ha : PE X e (tr X.K Γ ca)) (hr : PK X kws (trA X.K Γ cs)) : PK X (⟨nm, e, kpos⟩ :: kws) (trA X.K Γ (.cons ca cs)) :=
  ⟨fun pos pins s σ H Q I h => (pk_cons ha hr).run pos pins s σ H Q I (w_cons h)⟩
/-- f(e, .., k = v, ..) -/
theorem xe_callK {kws : List Keyword} (F : FnI X.prog X.w X.K X.mg X.base Γ n f x ps st) (ks : List Str) (perm : List Nat) (m : Nat)
    (kb : ∀ (kV doc pm : Value) (an : Option Addr) (cdv ct : Value) (us ws : List Value), us.length = m → ws.length = ks.length → bindArgs (PySem.W.fnOf x x (defArgs st) (defBody st) (defScope st) .none kV doc pm an cdv ct) ⟨us, ks.zip ws⟩ = pure (ps.zip (permV perm (us ++ ws))))
    (hn : narg cs = some m) (hnk : narg ck = some ks.length) (hr : RoomG n X.A) (hg : Gl X x) (ha : PA X (e :: es) (trA X.K Γ cs)) (hk : PK X kws (trA X.K Γ ck))
    (hall : (backToKw pos (keywordEach kws X.env)).all (·.1.isSome) = true := by rfl) (hks : (backToKw pos (keywordEach kws X.env)).filterMap (·.1) = ks := by rfl)
    (hdb : (x == ("__debug__" : Str)) = false := by decide) (he : starEach (e :: es) X.env = (false, eval e X.env) :: starEach es X.env := by rfl)
    (hpl : ((backTo pos (starEach (e :: es) X.env)).any (·.1) || (backToKw pos (keywordEach kws X.env)).any (·.1.isNone)) = false := by rfl) :
    PE X (.Call (.Name x p) (e :: es) kws pos) (tr X.K Γ (.callK f cs ck perm)) := by
  obtain ⟨fa, fd, h1, h2, h3, hb⟩ := F.ex
  obtain ⟨oc, od, kV, doc, pm, an, cdv, ct, osl, rfl, lk, hcd⟩ := h2.ex
  have hB : KBn X.K (PySem.W.fnOf x x (defArgs st) (defBody st) (defScope st) .none kV doc pm an cdv ct) ps m ks (fun us ws => permV perm (us ++ ws)) (fun us ws => permV perm (us ++ ws)) :=
    ⟨fun s us ws _ l1 l2 => .of_eq (kb kV doc pm an cdv ct us ws l1 l2), fun r1 r2 => rel_perm (r1.append r2) perm⟩
  refine pe_w (pe_callNG (E := E0) h3 hr hg h1 h2.kp hB pass0 ha hk hall hks hdb he hpl) fun σ H Q ⟨α, env, S, d, S', ok, en, e, k⟩ => ?_
  simp only [ev, Option.bind_eq_some_iff] at e
  obtain ⟨⟨d1, S1⟩, e1, ds, e2, ⟨d2, S2⟩, e3, zs, e4, e5⟩ := e
  cases argsOf_some e2
  cases argsOf_some e4
  have l1 := narg_len hn e1
  have l2 := narg_len hnk e3
  exact ⟨α, env, S, ds, S1, ok, en, e1, fun α1 H1 vs x1 ok1 r1 => ⟨α1, env, S1, zs, S2, ok1, en.mono x1, e3, fun α2 H2 ws x2 ok2 r2 => ⟨by rw [r1.len, l1], by rw [r2.len, l2],
      α2, S2, _, d, S', ok2, ((r1.mono x2).append r2).perm perm, e5, fun α3 H3 v x3 ok3 r3 => k α3 H3 v (x1.trans (x2.trans x3)) ok3 r3⟩⟩⟩
/-- f(k = v, ..) -/
theorem xe_callK0 {kws : List Keyword} (F : FnI X.prog X.w X.K X.mg X.base Γ n f x ps st) (ks : List Str) (perm : List Nat)
    (kb : ∀ (kV doc pm : Value) (an : Option Addr) (cdv ct : Value) (ws : List Value), ws.length = ks.length → bindArgs (PySem.W.fnOf x x (defArgs st) (defBody st) (defScope st) .none kV doc pm an cdv ct) ⟨[], ks.zip ws⟩ = pure (ps.zip (permV perm ws)))
    (hnk : narg ck = some ks.length) (hr : RoomG n X.A) (hg : Gl X x) (hk : PK X kws (trA X.K Γ ck))
    (hall : (backToKw pos (keywordEach kws X.env)).all (·.1.isSome) = true := by rfl) (hks : (backToKw pos (keywordEach kws X.env)).filterMap (·.1) = ks := by rfl)
    (hdb : (x == ("__debug__" : Str)) = false := by decide)
    (hpl : ((backTo pos (starEach [] X.env)).any (·.1) || (backToKw pos (keywordEach kws X.env)).any (·.1.isNone)) = false := by rfl) :
    PE X (.Call (.Name x p) [] kws pos) (tr X.K Γ (.callK f .nil ck perm)) := by
  obtain ⟨fa, fd, h1, h2, h3, hb⟩ := F.ex
  obtain ⟨oc, od, kV, doc, pm, an, cdv, ct, osl, rfl, lk, hcd⟩ := h2.ex
  have hB : KBn X.K (PySem.W.fnOf x x (defArgs st) (defBody st) (defScope st) .none kV doc pm an cdv ct) ps 0 ks (fun us ws => permV perm (us ++ ws)) (fun us ws => permV perm (us ++ ws)) :=
    ⟨fun s us ws _ l1 l2 => (match us, l1 with | [], _ => .of_eq (kb kV doc pm an cdv ct ws l2)), fun r1 r2 => rel_perm (r1.append r2) perm⟩
  refine ⟨fun pins s σ H Q I h => ?_⟩
  obtain ⟨α, env, S, d, S', ok, en, e, k⟩ := h
  simp only [ev, Option.bind_eq_some_iff, Option.some.injEq] at e
  obtain ⟨_, rfl, ds, e1, ⟨d2, S2⟩, e3, zs, e4, e5⟩ := e
  cases argsOf_some e1
  cases argsOf_some e4
  have l2 := narg_len hnk e3
  refine wpAny_Call_Name_kw (ld_glob I hg h1 ?_ hdb)
  refine PySem.W.callWith_KW0 (h₀ := X.base) I.ok.mod.kin h2.kp hall (thn (hk.run pos pins s σ H (fun ws H2 => ws.length = ks.length ∧ spF X.K Γ f (permV perm ([] ++ ws)) H2 Q E0) I ?_) fun ws s2 ⟨zs, H2, I2, rz, l3, q2⟩ => ⟨I2.kIn, ?_⟩) hpl
  · exact ⟨α, env, S, zs, S2, ok, en, e3, fun α2 H2 ws x2 ok2 r2 => ⟨by rw [r2.len, l2], α2, S2, _, d, S', ok2, Rps.perm (by simpa using r2) perm, e5, fun α3 H3 v x3 ok3 r3 => k α3 H3 v (x2.trans x3) ok3 r3⟩⟩
  · rw [hks]
    exact run_fnG h3 hr hB pass0 I2 (.nil : Vals [] []) rz rfl l3 q2
end
end Ix

namespace Ix
open PySem L2
/-! ### targets -/
theorem wipe_set {σ : L2.St} {i : Nat} {x : Option V} : ∀ {own : List Nat}, wipe (σ.set i x) own = if i ∈ own then wipe σ own else (wipe σ own).set i x
  | [] => by simp [wipe]
  | v :: vs => by
    unfold wipe
    rw [wipe_set (own := vs)]
    by_cases h1 : i ∈ vs
    · rw [if_pos h1, if_pos (List.mem_cons_of_mem _ h1)]
    · rw [if_neg h1]
      by_cases h2 : i = v
      · subst h2
        rw [if_pos List.mem_cons_self, List.set_set]
      · rw [if_neg (by simp [h1, h2]), List.set_comm _ _ h2]
theorem wipe_wipe {σ : L2.St} : ∀ {own own2 : List Nat}, (∀ v ∈ own2, v ∈ own) → wipe (wipe σ own2) own = wipe σ own
  | own, [], _ => rfl
  | own, v :: vs, h => by
    show wipe ((wipe σ vs).set v none) own = wipe σ own
    rw [wipe_set, if_pos (h v List.mem_cons_self)]
    exact wipe_wipe fun u hu => h u (List.mem_cons_of_mem _ hu)
theorem wipeD_En {K : PySem.W.Frag} {α : List Addr} {H : Hp} {env : Sl} {σ : L2.St} (en : En K α H env σ) : ∀ own : List Nat, En K α H (wipeD env own) (wipe σ own)
  | [] => en
  | v :: vs => by
    have ih := wipeD_En en vs
    refine ⟨by simp [wipe, wipeD, ih.len], fun i d h => ?_⟩
    unfold wipeD at h
    unfold wipe
    by_cases e : v = i
    · subst e
      rw [List.getElem?_set] at h
      simp only [if_true] at h
      split at h <;> cases h
    · rw [List.getElem?_set_ne e] at h ⊢
      exact ih.at_ i d h
section
variable {X : Cx} {Γ : Fs} {e : Expr} {es : List Expr} {pos : Pos}
theorem xg_name (i : Nat) {x : Str} (hN : X.N.Nodup) (hi : X.N[i]? = some x := by rfl) (hx : Loc X.env.scope x := by first | exact Or.inl rfl | exact Or.inr rfl) (hf : X.fn x = true ∨ X.env.scope.names.lookup x = some .local := by first | exact .inl rfl | exact .inr rfl | assumption) : PG X (.Name x pos) (trG X.K (.name i)) :=
  pg_w (pg_name hN hi hx hf) fun v σ H Q ⟨α, env, d, env', r, en, e, k⟩ => by
    simp only [asgG, Option.some.injEq] at e
    subst e
    refine k _ (en.set i r) fun own h => ?_
    rw [wipe_set, if_pos (by simpa [gOk] using h)]
theorem xgs_nil : PGs X [] (trGs X.K .nil) := ⟨fun pins s σ H vs us Q I r ⟨α, env, ds, env', rs, en, e, k⟩ => pgs_nil.run pins s σ H vs us Q I r (by
  cases ds with
  | nil =>
    simp only [asgG, Option.some.injEq] at e
    subst e
    exact ⟨rs.unnil, k _ en fun _ _ => rfl⟩
  | cons _ _ => simp [asgG] at e)⟩
theorem xgs_cons {g h : G} (h1 : PG X e (trG X.K g)) (h2 : PGs X es (trGs X.K h)) (hs : (assignEach (e :: es) X.env).map (·.2) = assign e X.env :: (assignEach es X.env).map (·.2) := by rfl) : PGs X (e :: es) (trGs X.K (.cons g h)) :=
  ⟨fun pins s σ H vs us Q I r ⟨α, env, ds, env', rs, en, e, k⟩ => (pgs_cons h1 h2 hs).run pins s σ H vs us Q I r (by
    cases ds with
    | nil => simp [asgG] at e
    | cons d ds =>
      simp only [asgG, Option.bind_eq_some_iff] at e
      obtain ⟨env1, e1, e2⟩ := e
      obtain ⟨w, ws, rfl, r1, r2⟩ := rs.uncons
      refine ⟨w, ws, rfl, α, env, d, env1, r1, en, e1, fun σ1 en1 w1 => ⟨α, env1, ds, env', r2, en1, e2, fun σ2 en2 w2 => k σ2 en2 fun own ho => ?_⟩⟩
      simp only [gOk, Bool.and_eq_true] at ho
      rw [w2 own ho.2, w1 own ho.1])⟩
theorem asg_len : ∀ {g : G} {n : Nat} {ds : List D} {env env' : Sl}, (∃ m, m = g) → gLen g = some n → asgG g (.tup ds) env = some env' → ds.length = n
  | .nil, n, ds, env, env', _, h, e => by
    simp only [gLen, Option.some.injEq] at h
    cases ds with
    | nil => exact h
    | cons _ _ => simp [asgG] at e
  | .cons g1 g2, n, ds, env, env', _, h, e => by
    simp only [gLen, Option.map_eq_some_iff] at h
    obtain ⟨m, h, rfl⟩ := h
    cases ds with
    | nil => simp [asgG] at e
    | cons d ds =>
      simp only [asgG, Option.bind_eq_some_iff] at e
      obtain ⟨env1, e1, e2⟩ := e
      rw [List.length_cons, asg_len ⟨_, rfl⟩ h e2]
  | .name _, n, ds, env, env', _, h, e => by simp [gLen] at h
  | .tup _, n, ds, env, env', _, h, e => by simp [gLen] at h
theorem xg_tup {g : G} {k n : Nat} (hc : X.calm = true) (h : PGs X es (trGs X.K g)) (hl : gLen g = some n := by rfl) (hn : (assignEach es X.env).length = n := by rfl) (hst : (assignEach es X.env).findIdx? (·.1) = none := by rfl) : PG X (.Tuple es k pos) (trG X.K (.tup g)) :=
  pg_w (pg_tup hc h hn hst) fun v σ H Q ⟨α, env, d, env', r, en, e, k⟩ => by
    cases d with
    | tup xs =>
      simp only [asgG] at e
      cases r with
      | tup h1 l q => exact ⟨_, _, rfl, h1, by rw [l, asg_len ⟨_, rfl⟩ hl e], α, env, xs, env', ⟨l, q⟩, en, e, fun σ' en' w => k σ' en' fun own ho => w own (by simpa [gOk] using ho)⟩
    | _ => simp [asgG] at e
end

/-! ### what is walked -/
def trI (K : PySem.W.Frag) (Γ : Fs) (k : Ik) (c : E) : TI := fun σ H R => ∃ α env S ds S' its, Ok K α S H ∧ En K α H env σ ∧ ev Γ c env S = some (.tup ds, S') ∧ items k ds S' = some its ∧
  ∀ (α' : List Addr) (H' : Hp) (J : It) (G : Hp → Prop) (Y : Nat → Hp → V → Hp → Prop), Xt K α H α' H' → Ok K α' S' H' → Walk J its.length G Y →
    (∀ α2 S2 H2, Xt K α' H' α2 H2 → Ok K α2 S2 H2 → items k ds S2 = some its → G H2) →
    (∀ i α2 S2 H2 x H3, Xt K α' H' α2 H2 → Ok K α2 S2 H2 → items k ds S2 = some its → i < its.length → Y i H2 x H3 → ∃ d, its[i]? = some d ∧ Xt K α2 H2 α2 H3 ∧ Ok K α2 S2 H3 ∧ Rp K α2 H3 d x) → R J H'
section
variable {K : PySem.W.Frag} {a b : Addr} {n : Nat}
theorem walk_listE : Walk (Itl K a) n (fun H => ∃ vs, SqL K H a vs ∧ vs.length = n) (fun i H x H' => H' = H ∧ ∀ vs, SqL K H a vs → vs[i]? = some x) :=
  ⟨fun i _ hi ⟨vs, q, l⟩ => ⟨vs, vs[i]'(by omega), q, by simp⟩, fun _ ⟨vs, q, l⟩ => ⟨vs, q, by omega⟩, fun _ _ _ _ _ _ y => y⟩
theorem walk_tupE : Walk (Itt K a) n (fun H => ∃ vs, SqT K H a vs ∧ vs.length = n) (fun i H x H' => H' = H ∧ ∀ vs, SqT K H a vs → vs[i]? = some x) :=
  ⟨fun i _ hi ⟨vs, q, l⟩ => ⟨vs, vs[i]'(by omega), q, by simp⟩, fun _ ⟨vs, q, l⟩ => ⟨vs, q, by omega⟩, fun _ _ _ _ _ _ y => y⟩
theorem walk_zipE : Walk (Itz K a b) n (fun H => ∃ vs us, SqL K H a vs ∧ SqL K H b us ∧ min vs.length us.length = n)
    (fun i H v H' => ∃ T x y, v = .ref T ∧ H T = none ∧ H' = upd H T (.tup [x, y]) ∧ (∀ xs, SqL K H a xs → xs[i]? = some x) ∧ ∀ ys, SqL K H b ys → ys[i]? = some y) :=
  ⟨fun i _ hi ⟨vs, us, q, r, l⟩ => ⟨vs, us, vs[i]'(by omega), us[i]'(by omega), q, r, by simp, by simp⟩, fun _ ⟨vs, us, q, r, l⟩ => ⟨vs, us, q, r, by omega⟩, fun _ _ _ _ _ _ y => y⟩
theorem walk_zipTE : Walk (RZ.ItzT K a b) n (fun H => ∃ vs us, SqT K H a vs ∧ SqT K H b us ∧ min vs.length us.length = n)
    (fun i H v H' => ∃ T x y, v = .ref T ∧ H T = none ∧ H' = upd H T (.tup [x, y]) ∧ (∀ xs, SqT K H a xs → xs[i]? = some x) ∧ ∀ ys, SqT K H b ys → ys[i]? = some y) :=
  ⟨fun i _ hi ⟨vs, us, q, r, l⟩ => ⟨vs, us, vs[i]'(by omega), us[i]'(by omega), q, r, by simp, by simp⟩, fun _ ⟨vs, us, q, r, l⟩ => ⟨vs, us, q, r, by omega⟩, fun _ _ _ _ _ _ y => y⟩
end
section
variable {X : Cx} {Γ : Fs} {tg e e2 : Expr} {c c2 cs : E} {pos p : Pos}
theorem seq_lst {K : PySem.W.Frag} {α : List Addr} {S : Hd} {H : Hp} {d : D} {a : Addr} {xs : List D} (ok : Ok K α S H) (r : Rp K α H d (.ref a)) (h : seqOf S d = some xs) (nt : isTup d = false) : ∃ vs, SqL K H a vs ∧ Rps K α H xs vs := by
  obtain ⟨a', vs, e, rs, z⟩ := seq_of ok r h
  cases e
  rcases z with ⟨z, _⟩ | ⟨_, z⟩
  · rw [nt] at z
    cases z
  · exact ⟨vs, z, rs⟩
theorem seq_tup {K : PySem.W.Frag} {α : List Addr} {S : Hd} {H : Hp} {d : D} {a : Addr} {xs : List D} (ok : Ok K α S H) (r : Rp K α H d (.ref a)) (h : seqOf S d = some xs) (nt : isTup d = true) : ∃ vs, SqT K H a vs ∧ Rps K α H xs vs := by
  obtain ⟨a', vs, e, rs, z⟩ := seq_of ok r h
  cases e
  rcases z with ⟨_, z⟩ | ⟨z, _⟩
  · exact ⟨vs, z, rs⟩
  · rw [nt] at z
    cases z
theorem xi_seq (h : PE X e (tr X.K Γ c)) : PI X tg e (trI X.K Γ .seq (.cons c .nil)) := by
  refine ⟨fun pins s σ H R I ⟨α, env, S, ds, S', its, ok, en, e1, e2, k⟩ => ?_⟩
  simp only [ev, Option.bind_eq_some_iff, Option.map_eq_some_iff, Option.some.injEq, Prod.mk.injEq, D.tup.injEq] at e1
  obtain ⟨⟨d, S1⟩, e1, _, rfl, dr, e3, rfl, rfl⟩ := e1
  cases argsOf_some e3
  simp only [items] at e2
  cases ht : isTup d with
  | true =>
    refine (pi_tup h).run pins s σ H R I ⟨α, env, S, d, S1, ok, en, e1, fun α1 H1 v x1 ok1 r1 => ?_⟩
    obtain ⟨a, vs, rfl, rs, z⟩ := seq_of ok1 r1 e2
    obtain ⟨vs, z, rs⟩ := seq_tup ok1 r1 e2 ht
    refine ⟨a, rfl, ⟨vs, z⟩, k α1 H1 _ _ _ x1 ok1 walk_tupE (fun α2 S2 H2 x2 ok2 e4 => ?_) fun i α2 S2 H2 x H3 x2 ok2 e4 hi ⟨y1, y2⟩ => ?_⟩
    · obtain ⟨ws, w1, w2⟩ := seq_tup ok2 (r1.mono x2) (show seqOf S2 d = some its from e4) ht
      exact ⟨ws, w1, w2.len⟩
    · obtain ⟨ws, w1, w2⟩ := seq_tup ok2 (r1.mono x2) (show seqOf S2 d = some its from e4) ht
      obtain ⟨d', q1, q2⟩ := w2.getV (y2 ws w1)
      subst y1
      exact ⟨d', q1, Xt.refl, ok2, q2⟩
  | false =>
    refine (pi_list h).run pins s σ H R I ⟨α, env, S, d, S1, ok, en, e1, fun α1 H1 v x1 ok1 r1 => ?_⟩
    obtain ⟨a, vs, rfl, rs, z⟩ := seq_of ok1 r1 e2
    obtain ⟨vs, z, rs⟩ := seq_lst ok1 r1 e2 ht
    refine ⟨a, rfl, ⟨vs, z⟩, k α1 H1 _ _ _ x1 ok1 walk_listE (fun α2 S2 H2 x2 ok2 e4 => ?_) fun i α2 S2 H2 x H3 x2 ok2 e4 hi ⟨y1, y2⟩ => ?_⟩
    · obtain ⟨ws, w1, w2⟩ := seq_lst ok2 (r1.mono x2) (show seqOf S2 d = some its from e4) ht
      exact ⟨ws, w1, w2.len⟩
    · obtain ⟨ws, w1, w2⟩ := seq_lst ok2 (r1.mono x2) (show seqOf S2 d = some its from e4) ht
      obtain ⟨d', q1, q2⟩ := w2.getV (y2 ws w1)
      subst y1
      exact ⟨d', q1, Xt.refl, ok2, q2⟩
theorem xi_range1 (hg : Gl X "range") (hm : X.mg "range" = none) (ha : PA X [e] (trA X.K Γ cs)) (hs : starEach [e] X.env = [(false, eval e X.env)] := by rfl) : PI X tg (.Call (.Name "range" p) [e] [] pos) (trI X.K Γ .range1 cs) := by
  refine ⟨fun pins s σ H R I ⟨α, env, S, ds, S', its, ok, en, e1, e2, k⟩ => ?_⟩
  match ds, e1, e2 with
  | [x], e1, e2 =>
    cases x with
    | int j =>
      simp only [items] at e2
      split at e2
      · rename_i hb
        simp only [Option.some.injEq] at e2
        refine (pi_range1 hg hm ha hs).run pins s σ H R I ⟨α, env, S, _, S', ok, en, e1, fun α1 H1 vs x1 ok1 r1 => ?_⟩
        obtain ⟨v, rfl, r2⟩ := r1.one'
        cases r2
        have hl : its.length = j.toNat := by rw [← e2]; simp
        refine ⟨j, rfl, hb.1, hb.2, k α1 H1 _ _ _ x1 ok1 (show Walk (Itr 0 j.toNat) its.length (fun _ => True) (YFn fun i => .int (0 + i)) by rw [hl]; exact walk_range) (fun _ _ _ _ _ _ => trivial) fun i α2 S2 H2 x H3 x2 ok2 e4 hi ⟨y1, y2⟩ => ?_⟩
        subst y1 y2
        refine ⟨.int (0 + (i : Int)), ?_, Xt.refl, ok2, .int _⟩
        rw [← e2, List.getElem?_map, List.getElem?_range (by omega)]
        rfl
      · cases e2
    | _ => simp [items] at e2
  | [], e1, e2 => simp [items] at e2
  | x :: _ :: _, e1, e2 => cases x <;> simp [items] at e2
theorem xi_range2 (hg : Gl X "range") (hm : X.mg "range" = none) (ha : PA X [e, e2] (trA X.K Γ cs)) (hs : starEach [e, e2] X.env = [(false, eval e X.env), (false, eval e2 X.env)] := by rfl) (hs2 : starEach [e2] X.env = [(false, eval e2 X.env)] := by rfl) : PI X tg (.Call (.Name "range" p) [e, e2] [] pos) (trI X.K Γ .range2 cs) := by
  refine ⟨fun pins s σ H R I ⟨α, env, S, ds, S', its, ok, en, e1, e3, k⟩ => ?_⟩
  match ds, e1, e3 with
  | [x, y], e1, e3 =>
    cases x with
    | int i =>
      cases y with
      | int j =>
        simp only [items] at e3
        split at e3
        · rename_i hb
          simp only [Option.some.injEq] at e3
          refine (pi_range2 hg hm ha hs hs2).run pins s σ H R I ⟨α, env, S, _, S', ok, en, e1, fun α1 H1 vs x1 ok1 r1 => ?_⟩
          obtain ⟨v, u, rfl, r2, r3⟩ := r1.two'
          cases r2
          cases r3
          have hl : its.length = (j - i).toNat := by rw [← e3]; simp
          refine ⟨i, j, rfl, hb, k α1 H1 _ _ _ x1 ok1 (show Walk (Itr i (j - i).toNat) its.length (fun _ => True) (YFn fun m => .int (i + m)) by rw [hl]; exact walk_range) (fun _ _ _ _ _ _ => trivial) fun m α2 S2 H2 x H3 x2 ok2 e4 hi ⟨y1, y2⟩ => ?_⟩
          subst y1 y2
          refine ⟨.int (i + (m : Int)), ?_, Xt.refl, ok2, .int _⟩
          rw [← e3, List.getElem?_map, List.getElem?_range (by omega)]
          rfl
        · cases e3
      | _ => simp [items] at e3
    | _ => cases y <;> simp [items] at e3
  | [], e1, e3 => simp [items] at e3
  | [x], e1, e3 => cases x <;> simp [items] at e3
  | x :: y :: _ :: _, e1, e3 => cases x <;> cases y <;> simp [items] at e3
theorem zip_items {S : Hd} {x y : D} {its : List D} (h : items .zip [x, y] S = some its) : isTup x = isTup y ∧ ∃ xs ys, seqOf S x = some xs ∧ seqOf S y = some ys ∧ its = List.zipWith (fun a b => .tup [a, b]) xs ys := by
  simp only [items] at h
  split at h
  · rename_i ht
    simp only [Option.bind_eq_some_iff, Option.map_eq_some_iff] at h
    obtain ⟨xs, h1, ys, h2, rfl⟩ := h
    exact ⟨ht, xs, ys, h1, h2, rfl⟩
  · cases h
theorem zip_turn {K : PySem.W.Frag} {α : List Addr} {S : Hd} {H H3 : Hp} {xs ys : List D} {vs us : List V} {v : V} {i : Nat} {T : Addr} {x y : V} (ok : Ok K α S H) (r1 : Rps K α H xs vs) (r2 : Rps K α H ys us) (e1 : v = .ref T) (hT : H T = none) (e2 : H3 = upd H T (.tup [x, y]))
    (h1 : vs[i]? = some x) (h2 : us[i]? = some y) : ∃ d, (List.zipWith (fun a b => D.tup [a, b]) xs ys)[i]? = some d ∧ Xt K α H α H3 ∧ Ok K α S H3 ∧ Rp K α H3 d v := by
  obtain ⟨dx, q1, q2⟩ := r1.getV h1
  obtain ⟨dy, q3, q4⟩ := r2.getV h2
  subst e1 e2
  exact ⟨.tup [dx, dy], by rw [List.getElem?_zipWith, q1, q3], Xt.fresh hT, ok.fresh hT, Rp.newT hT (.cons q2 (.cons q4 .nil))⟩
theorem xi_zip {elts : List Expr} {kk : Nat} {tpos : Pos} (hg : Gl X "zip") (hm : X.mg "zip" = none) (ha : PA X [e, e2] (trA X.K Γ cs)) (hs : starEach [e, e2] X.env = (false, eval e X.env) :: starEach [e2] X.env := by rfl) (hpl : (backTo pos (starEach [e2] X.env)).any (·.1) = false := by rfl) :
    PI X (.Tuple elts kk tpos) (.Call (.Name "zip" p) [e, e2] [] pos) (trI X.K Γ .zip cs) := by
  refine ⟨fun pins s σ H R I ⟨α, env, S, ds, S', its, ok, en, e1, e3, k⟩ => ?_⟩
  match ds, e1, e3 with
  | [x, y], e1, e3 =>
    refine (RZ.pi_zipA hg hm ha hs hpl).run pins s σ H R I ⟨α, env, S, _, S', ok, en, e1, fun α1 H1 vs x1 ok1 r1 => ?_⟩
    obtain ⟨v, u, rfl, r2, r3⟩ := r1.two'
    obtain ⟨ht, xs, ys, h1, h2, ei⟩ := zip_items e3
    obtain ⟨a, _, rfl, _, _⟩ := seq_of ok1 r2 h1
    obtain ⟨b, _, rfl, _, _⟩ := seq_of ok1 r3 h2
    cases hx : isTup x with
    | true =>
      have hy : isTup y = true := by rw [← ht, hx]
      obtain ⟨vs, z1, q1⟩ := seq_tup ok1 r2 h1 hx
      obtain ⟨us, z2, q2⟩ := seq_tup ok1 r3 h2 hy
      refine ⟨a, b, vs, us, rfl, .inr ⟨z1, z2, k α1 H1 _ _ _ x1 ok1 walk_zipTE (fun α2 S2 H2 x2 ok2 e4 => ?_) fun i α2 S2 H2 w H3 x2 ok2 e4 hi ⟨T, x', y', f1, f2, f3, f4, f5⟩ => ?_⟩⟩
      · obtain ⟨_, xs', ys', g1, g2, g3⟩ := zip_items e4
        obtain ⟨vs', w1, w2⟩ := seq_tup ok2 (r2.mono x2) g1 hx
        obtain ⟨us', w3, w4⟩ := seq_tup ok2 (r3.mono x2) g2 hy
        exact ⟨vs', us', w1, w3, by rw [w2.len, w4.len, g3, List.length_zipWith]⟩
      · obtain ⟨_, xs', ys', g1, g2, g3⟩ := zip_items e4
        obtain ⟨vs', w1, w2⟩ := seq_tup ok2 (r2.mono x2) g1 hx
        obtain ⟨us', w3, w4⟩ := seq_tup ok2 (r3.mono x2) g2 hy
        rw [g3]
        exact zip_turn ok2 w2 w4 f1 f2 f3 (f4 _ w1) (f5 _ w3)
    | false =>
      have hy : isTup y = false := by rw [← ht, hx]
      obtain ⟨vs, z1, q1⟩ := seq_lst ok1 r2 h1 hx
      obtain ⟨us, z2, q2⟩ := seq_lst ok1 r3 h2 hy
      refine ⟨a, b, vs, us, rfl, .inl ⟨z1, z2, k α1 H1 _ _ _ x1 ok1 walk_zipE (fun α2 S2 H2 x2 ok2 e4 => ?_) fun i α2 S2 H2 w H3 x2 ok2 e4 hi ⟨T, x', y', f1, f2, f3, f4, f5⟩ => ?_⟩⟩
      · obtain ⟨_, xs', ys', g1, g2, g3⟩ := zip_items e4
        obtain ⟨vs', w1, w2⟩ := seq_lst ok2 (r2.mono x2) g1 hx
        obtain ⟨us', w3, w4⟩ := seq_lst ok2 (r3.mono x2) g2 hy
        exact ⟨vs', us', w1, w3, by rw [w2.len, w4.len, g3, List.length_zipWith]⟩
      · obtain ⟨_, xs', ys', g1, g2, g3⟩ := zip_items e4
        obtain ⟨vs', w1, w2⟩ := seq_lst ok2 (r2.mono x2) g1 hx
        obtain ⟨us', w3, w4⟩ := seq_lst ok2 (r3.mono x2) g2 hy
        rw [g3]
        exact zip_turn ok2 w2 w4 f1 f2 f3 (f4 _ w1) (f5 _ w3)
  | [], e1, e3 => simp [items] at e3
  | [x], e1, e3 => simp [items] at e3
  | x :: y :: _ :: _, e1, e3 => simp [items] at e3
end
end Ix

namespace Ix
open PySem L2 PySem.Spec PyProof.Rows HT
/-! ### t[::-1] of a tuple -/
section
variable {prog : Program} {w : World} {A : Around} {E : Value → Shared → Prop} {s : Shared}
theorem adjust_back (n : Nat) : Builtin.Slice.sliceAdjust none none (-1) (n : Int) = ((n : Int) - 1, -1) := by
  unfold Builtin.Slice.sliceAdjust
  simp
theorem places_back (n : Nat) : Builtin.Slice.slicePlaces ((n : Int) - 1) (-1) (-1) = n := by
  unfold Builtin.Slice.slicePlaces
  have h1 : ¬ ((-1 : Int) > 0) := by omega
  simp only [h1, if_false]
  split
  · have : ((n : Int) - 1 - -1 - 1) / (- -1) = n - 1 := by
      rw [show (- -1 : Int) = 1 by rfl, Int.ediv_one]
      omega
    rw [this]
    omega
  · simp only [Int.toNat_zero]
    omega
theorem applied_back {sl : Addr} {t : Tok} {n : Nat} {Q : Int × Int × Nat → Shared → Prop} (hs : s.heap.IsSliceOf sl .none .none (.int (-1) t))
    (h : Q ((n : Int) - 1, -1, n) s) : wpAny (model prog w) A (Builtin.Slice.sliceApplied (.ref sl) (pure (n : Int))) Q E s := by
  obtain ⟨os, hos, hcs, hds⟩ := id hs
  unfold Builtin.Slice.sliceApplied Builtin.Slice.sliceFields
  refine wpAny_bind (wpAny_bind (wpAny_field hos hds (x := .none) rfl (wpAny_bind (wpAny_field hos hds (x := .none) rfl (wpAny_bind (wpAny_field hos hds (x := .int (-1) t) rfl (wpAny_pure ?_)))))))
  refine wpAny_bind (slicePart_int ?_)
  show wpAny _ _ (if ((-1 : Int) == 0) = true then _ else _) _ _ s
  rw [if_neg (by decide)]
  refine wpAny_bind (slicePart_none (wpAny_bind (slicePart_none (wpAny_bind (wpAny_pure ?_)))))
  show wpAny _ _ (match Builtin.Slice.sliceAdjust none none (-1) (n : Int) with | (lo, hi) => pure (lo, (-1 : Int), Builtin.Slice.slicePlaces lo hi (-1))) _ _ s
  rw [adjust_back]
  show wpAny _ _ (pure ((n : Int) - 1, (-1 : Int), Builtin.Slice.slicePlaces ((n : Int) - 1) (-1) (-1))) _ _ s
  rw [places_back]
  exact wpAny_pure h
theorem pick_back (xs : Array Value) : ((List.range xs.size).filterMap fun (m : Nat) => xs[(((xs.size : Int) - 1) + (m : Int) * (-1)).toNat]?).toArray = xs.toList.reverse.toArray := by
  congr 1
  apply List.ext_getElem?
  intro i
  have key : (List.range xs.size).filterMap (fun (m : Nat) => xs[(((xs.size : Int) - 1) + (m : Int) * (-1)).toNat]?) = (List.range xs.size).map (fun m => xs.toList.reverse.getD m .none) := by
    have : ∀ (l : List Nat), (∀ m ∈ l, m < xs.size) → l.filterMap (fun (m : Nat) => xs[(((xs.size : Int) - 1) + (m : Int) * (-1)).toNat]?) = l.map (fun m => xs.toList.reverse.getD m .none) := by
      intro l
      induction l with
      | nil => intro _; rfl
      | cons m l ih =>
        intro h
        have hm := h m List.mem_cons_self
        have e1 : (((xs.size : Int) - 1) + (m : Int) * (-1)).toNat = xs.size - 1 - m := by omega
        have e2 : xs[xs.size - 1 - m]? = some (xs.toList.reverse.getD m .none) := by
          rw [List.getD_eq_getElem?_getD, List.getElem?_reverse (by simpa using hm)]
          simp only [Array.length_toList, Array.getElem?_toList]
          rw [Array.getElem?_eq_getElem (by omega)]
          rfl
        rw [List.filterMap_cons, e1, e2, List.map_cons, ih fun k hk => h k (List.mem_cons_of_mem _ hk)]
    exact this _ fun m hm => List.mem_range.mp hm
  rw [key, List.getElem?_map]
  by_cases hi : i < xs.size
  · rw [List.getElem?_range hi]
    simp [List.getD_eq_getElem?_getD, hi]
  · rw [List.getElem?_eq_none (by simpa using hi), List.getElem?_eq_none (by simpa using hi)]
    rfl
theorem getItem_tuple_back {t sl : Addr} {items : Array Value} {k : Tok} {Q : Value → Shared → Prop} (ht : IsTup s.heap t items) (hs : s.heap.IsSliceOf sl .none .none (.int (-1) k))
    (h : Q (.ref s.heap.objs.size) { s with heap := s.heap.push { cls := .type "tuple", data := .seq items.toList.reverse.toArray } })
    (hsz : items.size ≤ sizeLine) : wpAny (model prog w) A (getItem (.ref t) (.ref sl)) Q E s := by
  have htake : sizeOk (.seq items.toList.reverse.toArray) := by
    show items.toList.reverse.toArray.size ≤ sizeLine
    rw [List.size_toArray, List.length_reverse, Array.length_toList]
    exact hsz
  obtain ⟨os, hos, hcs, hds⟩ := id hs
  have hTs : s.TypeIs (.ref sl) "slice" := ⟨os, hos, hcs⟩
  unfold getItem
  try with_reducible refine wpAny_holding ?_
  first | refine wpAny_bind (wpAny_pure ?_) | skip
  refine wpAny_bind (wpAny_sequenceKey ht.typeIs (by decide) ?_)
  refine wpAny_bind (wpAny_callSpecial?_slot (name := Str.ofString "__getitem__") ht.typeIs PyProof.Rows.slot_tuple_getitem
    (wpAny_call_entry PyProof.Rows.slot_tuple_getitem ht.typeIs entry_tuple_getitem ?_ (args_tuple_getitem _ _)))
  show wpAny _ _ (Builtin.Tuple.tupleItemsOf (.ref t) >>= _) _ _ s
  refine wpAny_bind (tupleItemsOf_ ht ?_)
  refine wpAny_bind (wpAny_typeOf hTs ?_)
  rw [if_pos (by decide)]
  refine wpAny_bind (applied_back hs ?_)
  have hno : ¬ ((((items.size : Int) - 1) == 0 && (-1 : Int) == 1 && items.size == items.size) = true) := by
    intro q
    rw [Bool.and_eq_true, Bool.and_eq_true] at q
    have q1 : (-1 : Int) = 1 := eq_of_beq q.1.2
    omega
  show wpAny _ _ (if (((items.size : Int) - 1) == 0 && (-1 : Int) == 1 && items.size == items.size) = true then _ else _) _ _ s
  rw [if_neg hno, pick_back]
  first
    | exact wpAny_bind (m := Builtin.Tuple.tupleExact _) (wpAny_newObj_type (wpAny_pure ⟨_, rfl, wpAny_pure h⟩) htake)
    | exact wpAny_bind (m := Builtin.Tuple.tupleExact _) (wpAny_newObj_type (wpAny_bind (wpAny_pure (wpAny_pure ⟨_, rfl, wpAny_pure h⟩))) htake)
    | exact wpAny_bind (wpAny_bind (m := Builtin.Tuple.tupleExact _) (wpAny_newObj_type (wpAny_pure (wpAny_pure ⟨_, rfl, wpAny_pure h⟩)) htake))
    | exact wpAny_bind (wpAny_bind (m := Builtin.Tuple.tupleExact _) (wpAny_newObj_type (wpAny_pure ⟨_, rfl, wpAny_pure h⟩) htake))
end
end Ix
namespace Ix
open PySem L2
theorem isPart_none {u : Value} (h : IsPart u none) : u = .none := by cases h; rfl
theorem isPart_int {u : Value} {i : Int} (h : IsPart u (some i)) : ∃ t, u = .int i t := by cases h; exact ⟨_, rfl⟩
theorem slot_tup : True := trivial
section
variable {X : Cx} {Γ : Fs} {e : Expr} {c : E}
def tRevT (K : PySem.W.Frag) (te : TE) : TE := fun σ H Q => te σ H fun x H1 => ∃ a xs, x = .ref a ∧ SqT K H1 a xs ∧ ∀ p, H1 p = none → Q (.ref p) (upd H1 p (.tup xs.reverse))
theorem pe_revT {te : TE} {k : Nat} {p1 p2 p3 pos : Pos} (he : PE X e te) : PE X (.Subscript e (.Slice none none (some (.UnaryOp .USub (.Constant (.int 1) k p1) p2)) p3) pos) (tRevT X.K te) := by
  refine ⟨fun pins s σ H Q I h => ?_⟩
  refine PyProof.Rows.Subscript_ (thn (he.run pins s σ H _ I h) fun v s1 ⟨x, H1, I1, r1, q1⟩ => ?_)
  obtain ⟨a, xs, ex, hx, q⟩ := q1
  subst ex
  cases r1
  have hst : PO X (some (.UnaryOp .USub (.Constant (.int 1) k p1) p2)) (tPart (tUn (rU fun i => .int (-i)) (tC (.int 1)))) := po_some (pe_un un_neg pe_int)
  refine wpAny_Slice (thn (po_none.run pins s1 σ H1 (fun o H2 => o = none ∧ H2 = H1) I1 ⟨rfl, rfl⟩) fun vl s2 ⟨l, H2, I2, pl, el, e2⟩ => ?_)
  subst el e2
  refine thn (po_none.run pins s2 σ H2 (fun o H3 => o = none ∧ H3 = H2) I2 ⟨rfl, rfl⟩) fun vu s3 ⟨u, H3, I3, pu, eu, e3⟩ => ?_
  subst eu e3
  refine thn (hst.run pins s3 σ H3 (fun o H4 => o = some (-1) ∧ H4 = H3) I3 ⟨1, rfl, -1, rfl, rfl, rfl⟩) fun vs s4 ⟨o, H4, I4, ps, eo, e4⟩ => ?_
  subst eo e4
  cases isPart_none pl
  cases isPart_none pu
  obtain ⟨tk, rfl⟩ := isPart_int ps
  have I5 : Inv X pins σ H4 { s4 with heap := s4.heap.push { cls := .type "slice", data := .fields #[.none, .none, .int (-1) tk] } } := I4.kept (t' := s4.toks) fun b ob q => Heap.get?_push_of_some _ q
  obtain ⟨its, r, ht, hz⟩ := I5.tuple hx
  have hlen := r.length
  show wpAny (model X.prog X.w) X.A (PyProof.Rows.subscriptTail e (.Slice none none (some (.UnaryOp .USub (.Constant (.int 1) k p1) p2)) p3) (.ref a) (.ref s4.heap.objs.size)) (EP X pins σ Q) X.xe { s4 with heap := s4.heap.push { cls := .type "slice", data := .fields #[.none, .none, .int (-1) tk] } }
  refine PyProof.Rows.tail_any (ops := [.ref a, .ref s4.heap.objs.size]) ht.typeIs (PyProof.Rows.slot_tuple_getitem.lookup) ?_ (by with_unfolding_all rfl)
  refine getItem_tuple_back ht (Heap.IsSliceOf.new _ .none .none (.int (-1) tk)) ?_ (by rw [List.size_toArray]; omega)
  refine ⟨.ref _, _, I5.laid (t' := s4.toks) (o := .tup xs.reverse) (fun b ob q => Heap.get?_push_of_some _ q) (Nat.le_refl _) ?_, rfl, q _ (I5.hok.fresh (Nat.le_refl _))⟩
  exact ⟨by rw [List.length_reverse]; exact hz, its.reverse, r.reverse, ⟨_, Heap.get?_push_size _ rfl, rfl, _, rfl⟩⟩
theorem pe_or' {t1 t2 : TE} (h1 : PE X e t1) (h2 : PE X e t2) : PE X e (fun σ H Q => t1 σ H Q ∨ t2 σ H Q) := ⟨fun pins s σ H Q I h => h.elim (h1.run pins s σ H Q I) (h2.run pins s σ H Q I)⟩
theorem xe_rev {k : Nat} {p1 p2 p3 pos : Pos} (he : PE X e (tr X.K Γ c)) : PE X (.Subscript e (.Slice none none (some (.UnaryOp .USub (.Constant (.int 1) k p1) p2)) p3) pos) (tr X.K Γ (.rev c)) :=
  pe_w (pe_or' (pe_revT he) (pe_revL he)) fun σ H Q ⟨α, env, S, d, S', ok, en, e, k⟩ => by
    simp only [ev, Option.bind_eq_some_iff] at e
    obtain ⟨⟨d1, S1⟩, e1, e2⟩ := e
    have lst : isTup d1 = false → (seqOf S1 d1).map (fun xs => alloc S1 xs.reverse) = some (d, S') → tRevL X.K (tr X.K Γ c) σ H Q := fun nt e2 => by
      simp only [Option.map_eq_some_iff, alloc, Prod.mk.injEq] at e2
      obtain ⟨xs, h1, rfl, rfl⟩ := e2
      refine ⟨α, env, S, d1, S1, ok, en, e1, fun α1 H1 v1 x1 ok1 r1 => ?_⟩
      obtain ⟨a, vs, rfl, rs, z⟩ := seq_of ok1 r1 h1
      obtain ⟨ws, z1, z2⟩ := seq_lst ok1 r1 h1 nt
      exact ⟨a, ws, rfl, z1, fun p hp => go_new ok1 hp z2.reverse fun α2 H2 v2 x2 ok2 r2 => k α2 H2 v2 (x1.trans x2) ok2 r2⟩
    cases d1 with
    | tup xs =>
      simp only [revD, Option.some.injEq, Prod.mk.injEq] at e2
      obtain ⟨rfl, rfl⟩ := e2
      refine .inl ⟨α, env, S, _, S1, ok, en, e1, fun α1 H1 v1 x1 ok1 r1 => ?_⟩
      cases r1 with
      | tup h1 l q => exact ⟨_, _, rfl, h1, fun p hp => go_tup ok1 hp (Rps.reverse ⟨l, q⟩) fun α2 H2 v2 x2 ok2 r2 => k α2 H2 v2 (x1.trans x2) ok2 r2⟩
    | ref j => exact .inr (lst rfl e2)
    | ro ns => exact .inr (lst rfl e2)
    | _ => simp [revD, seqOf] at e2
end
end Ix

namespace Ix
open PySem L2
/-! ### comprehensions -/
theorem seqOf_mono {S T : Hd} {d : D} {xs : List D} (h : seqOf S d = some xs) : seqOf (S ++ T) d = some xs := by
  cases d with
  | ref k =>
    simp only [seqOf] at h ⊢
    split at h
    · rename_i ys e
      rw [List.getElem?_append_left (List.getElem?_eq_some_iff.mp e).1, e]
      exact h
    · cases h
  | tup xs => exact h
  | ro xs => exact h
  | _ => simp [seqOf] at h
theorem items_mono {k : Ik} {S T : Hd} {ds its : List D} (h : items k ds S = some its) : items k ds (S ++ T) = some its := by
  cases k with
  | seq =>
    match ds, h with
    | [x], h => exact seqOf_mono h
    | [], h => simp [items] at h
    | _ :: _ :: _, h => simp [items] at h
  | range1 =>
    match ds, h with
    | [x], h =>
      cases x with
      | int j => exact h
      | _ => simp [items] at h
    | [], h => simp [items] at h
    | x :: _ :: _, h => cases x <;> simp [items] at h
  | range2 =>
    match ds, h with
    | [x, y], h =>
      cases x with
      | int j =>
        cases y with
        | int j => exact h
        | _ => simp [items] at h
      | _ => cases y <;> simp [items] at h
    | [], h => simp [items] at h
    | [x], h => cases x <;> simp [items] at h
    | x :: y :: _ :: _, h => cases x <;> cases y <;> simp [items] at h
  | chars =>
    match ds, h with
    | [x], h =>
      cases x with
      | str j => exact h
      | _ => simp [items] at h
    | [], h => simp [items] at h
    | x :: _ :: _, h => cases x <;> simp [items] at h
  | enum =>
    match ds, h with
    | [x], h =>
      simp only [items, Option.map_eq_some_iff] at h ⊢
      obtain ⟨xs, h1, h2⟩ := h
      exact ⟨xs, seqOf_mono h1, h2⟩
    | [], h => simp [items] at h
    | _ :: _ :: _, h => simp [items] at h
  | zip =>
    match ds, h with
    | [x, y], h =>
      simp only [items] at h ⊢
      split at h
      · rename_i ht
        rw [if_pos ht]
        simp only [Option.bind_eq_some_iff, Option.map_eq_some_iff] at h
        obtain ⟨xs, h1, ys, h2, rfl⟩ := h
        rw [seqOf_mono h1, seqOf_mono h2]
        rfl
      · cases h
    | [], h => simp [items] at h
    | [x], h => simp [items] at h
    | x :: y :: _ :: _, h => simp [items] at h
section
variable {X : Cx} {Γ : Fs} {elt tg iter : Expr} {ifs : List Expr} {scope : Scope} {own : List (Str × Nat)} {pos : Pos} {k : Ik} {cs ci ce : E} {g : G}
theorem w_lc {σ : L2.St} {H : Hp} {Q : VK} {vs : List Nat} (h : tr X.K Γ (.lc k cs g ci ce vs) σ H Q) : tLc (trI X.K Γ k cs) (trG X.K g) (trT X.K Γ ci) (tr X.K Γ ce) vs σ H Q := by
  obtain ⟨α, env, S, d, S', ok, en, e, kn⟩ := h
  simp only [ev] at e
  split at e
  · rename_i hgo
    simp only [Option.bind_eq_some_iff, Option.map_eq_some_iff, Prod.mk.injEq] at e
    obtain ⟨⟨d1, S1⟩, e1, ds, e2, its, e3, S2, e4, rfl, rfl⟩ := e
    cases argsOf_some e2
    refine ⟨α, env, S, ds, S1, its, ok, en, e1, e3, fun α1 H1 J G Y x1 ok1 w hG hY Dl hD => ?_⟩
    have okD : Ok X.K (α1 ++ [Dl]) (S1 ++ [.lst []]) (upd H1 Dl (.lst [])) := ok1.snoc hD (o := .lst []) (u := .lst []) Rps.nil
    have xD : Xt X.K α1 H1 (α1 ++ [Dl]) (upd H1 Dl (.lst [])) := Xt.snoc hD
    have kD : (α1 ++ [Dl])[S1.length]? = some Dl := by rw [← ok1.len]; simp
    refine lc_it w (fun i H2 => ∃ α2 S3, Ok X.K α2 S3 H2 ∧ Xt X.K (α1 ++ [Dl]) (upd H1 Dl (.lst [])) α2 H2 ∧ items k ds S3 = some its ∧
      loopH (fun d S1' => (asgG g d (wipeD env vs)).bind fun env1 => (tst (ev Γ ci env1 S1')).bind fun t => if t.1 = true then (ev Γ ce env1 t.2).bind fun y => pushD S1.length y.1 y.2 else some t.2)
        (fun S1' => items k ds S1' = some its) (its.drop i) S3 = some S2) ⟨_, _, okD, Xt.refl, items_mono e3, e4⟩ ?_ ?_ ?_
    · rintro i H2 hi ⟨α2, S3, ok2, x2, it2, _⟩
      exact hG α2 S3 H2 (xD.trans x2) ok2 it2
    · rintro i x H2 H3 hi ⟨α2, S3, ok2, x2, it2, lp⟩ y
      obtain ⟨dx, q1, x3, ok3, r3⟩ := hY i α2 S3 H2 x H3 (xD.trans x2) ok2 it2 hi y
      have hdrop : its.drop i = dx :: its.drop (i + 1) := by
        rw [List.drop_eq_getElem_cons hi]
        rw [List.getElem?_eq_getElem hi] at q1
        rw [Option.some.inj q1]
      rw [hdrop] at lp
      simp only [loopH, Option.bind_eq_some_iff] at lp
      obtain ⟨S4, ⟨env1, a1, ⟨b, S5⟩, t1, f1⟩, lp⟩ := lp
      split at lp
      · rename_i st4
        have en3 : En X.K α2 H3 (wipeD env vs) (wipe σ vs) := wipeD_En (en.mono (x1.trans (xD.trans (x2.trans x3)))) vs
        refine ⟨α2, _, dx, env1, r3, en3, a1, fun σ2 en4 w4 => ⟨by rw [w4 vs hgo]; exact wipe_wipe fun _ h => h, ?_⟩⟩
        refine ⟨α2, env1, S3, b, S5, ok3, en4, t1, fun α5 H5 x5 ok5 => ?_⟩
        cases b with
        | true =>
          rw [if_pos rfl] at f1 ⊢
          simp only [Option.bind_eq_some_iff] at f1
          obtain ⟨⟨dy, S6⟩, f1, f2⟩ := f1
          refine ⟨α5, env1, S5, dy, S6, ok5, en4.mono x5, f1, fun α6 H6 vy x6 ok6 r6 => ?_⟩
          simp only [pushD] at f2
          split at f2
          · rename_i acc e7
            split at f2
            · rename_i hz
              simp only [Option.some.injEq] at f2
              subst f2
              have xx := x2.trans (x3.trans (x5.trans x6))
              have kk := xx.pre _ _ kD
              obtain ⟨a', vacc, e8, e9, e10, e11⟩ := ok6.lst e7 (.ref kk)
              cases e8
              exact ⟨vacc, e10, most_lt (by rw [e11.len]; exact hz), α6, _, ok6.write kk e10 (o := .lst (acc ++ [dy])) (u := .lst (vacc ++ [vy])) (e11.append (Rps.one r6)), xx.trans (Xt.write e10), st4, lp⟩
            · cases f2
          · cases f2
        | false =>
          rw [if_neg Bool.false_ne_true] at f1 ⊢
          simp only [Option.some.injEq] at f1
          subst f1
          exact ⟨α5, _, ok5, x2.trans (x3.trans x5), st4, lp⟩
      · cases lp
    · rintro H2 ⟨α2, S3, ok2, x2, it2, lp⟩
      rw [List.drop_length] at lp
      simp only [loopH, Option.some.injEq] at lp
      subst lp
      exact kn α2 H2 _ (x1.trans (xD.trans x2)) ok2 (.ref (x2.pre _ _ kD))
  · cases e
theorem tYes_of {K : PySem.W.Frag} {σ : L2.St} {H : Hp} {Q : Bool → Hp → Prop} (h : trT K Γ (.c (.bl true)) σ H Q) : tYes σ H Q := by
  obtain ⟨α, env, S, b, S', ok, en, e, k⟩ := h
  simp only [tst, ev, Option.bind_some, tru, Option.map_some, Option.some.injEq, Prod.mk.injEq] at e
  obtain ⟨rfl, rfl⟩ := e
  exact k α H Xt.refl ok
theorem xts_nil : PTs X [] (trT X.K Γ (.c (.bl true))) := ⟨fun pins s σ H Q I h => pts_nil.run pins s σ H Q I (tYes_of h)⟩
theorem xts_one {c : Expr} (h : PT X c (trT X.K Γ ci)) : PTs X [c] (trT X.K Γ ci) := pts_one h
theorem xe_lc (hc : X.calm = true) (hN : X.N.Nodup) (hi : PI X tg iter (trI X.K Γ k cs)) (N0 : List Str) (sc0 : Scope) (ok : blkC N0 sc0 scope own = true)
    (hg : ∀ (s : Shared) (H : Hp) (C : Addr) (cl : List (Str × Addr)) (fp : List Addr), PG (X.blk s H scope (compEnvC scope cl C X.env) fp) tg (trG X.K g)) (ht : ∀ (s : Shared) (H : Hp) (C : Addr) (cl : List (Str × Addr)) (fp : List Addr), PTs (X.blk s H scope (compEnvC scope cl C X.env) fp) ifs (trT X.K Γ ci))
    (he : ∀ (s : Shared) (H : Hp) (C : Addr) (cl : List (Str × Addr)) (fp : List Addr), PE (X.blk s H scope (compEnvC scope cl C X.env) fp) elt (tr X.K Γ ce)) (hs : ∀ x, foldedSetIterable iter X.env x = pure x := by intro _; rfl) (hN0 : X.N = N0 := by rfl) (hs0 : X.env.scope = sc0 := by rfl) :
    PE X (.ListComp elt [⟨tg, iter, ifs, 0⟩] scope pos) (tr X.K Γ (.lc k cs g ci ce (own.map (·.2)))) :=
  pe_w (pe_lc hc hN hi (blkOk_by (by rw [hN0, hs0]; exact ok)) hg ht he hs) fun σ H Q h => w_lc h
theorem xs_setlc {i : Nat} {y : Str} {py spos : Pos} (hc : X.calm = true) (hN : X.N.Nodup) (hy : X.N[i]? = some y) (hyl : X.env.scope.names.lookup y = some .local)
    (hsw : swapsWith (.ListComp elt [⟨tg, iter, ifs, 0⟩] scope pos) (some (.Name y py)) spos.line X.env = pure true) (hi : PI X tg iter (trI X.K Γ k cs)) (N0 : List Str) (sc0 : Scope) (ok : blkC N0 sc0 scope own = true)
    (hg : ∀ (s : Shared) (H : Hp) (C : Addr) (cl : List (Str × Addr)) (fp : List Addr), PG (X.blk s H scope (compEnvC scope cl C X.env) fp) tg (trG X.K g)) (ht : ∀ (s : Shared) (H : Hp) (C : Addr) (cl : List (Str × Addr)) (fp : List Addr), PTs (X.blk s H scope (compEnvC scope cl C X.env) fp) ifs (trT X.K Γ ci))
    (he : ∀ (s : Shared) (H : Hp) (C : Addr) (cl : List (Str × Addr)) (fp : List Addr), PE (X.blk s H scope (compEnvC scope cl C X.env) fp) elt (tr X.K Γ ce)) (hs : ∀ x, foldedSetIterable iter X.env x = pure x := by intro _; rfl) (hN0 : X.N = N0 := by rfl) (hs0 : X.env.scope = sc0 := by rfl) :
    PS X (.Assign [.Name y py] (.ListComp elt [⟨tg, iter, ifs, 0⟩] scope pos) spos) (trS X.K Γ (.asg (.name i) (.lc k cs g ci ce (own.map (·.2))))) :=
  ps_w (ps_setLc hc hN hy hyl hsw hi (blkOk_by (by rw [hN0, hs0]; exact ok)) hg ht he hs) fun D σ H ⟨α, env, S, o, env', S', ok, en, e, kn⟩ => by
    simp only [ex, Option.bind_eq_some_iff, Option.map_eq_some_iff, Prod.mk.injEq, asgG, Option.some.injEq] at e
    obtain ⟨⟨d, S1⟩, e1, _, rfl, rfl, rfl, rfl⟩ := e
    exact w_lc ⟨α, env, S, d, S1, ok, en, e1, fun α1 H1 v x1 ok1 r1 => kn α1 H1 x1 ok1 _ ((en.mono x1).set i r1)⟩
end

/-! ### statements -/
section
variable {X : Cx} {Γ : Fs} {st : Stmt} {rest a b : List Stmt} {e tg : Expr} {c1 c2 : Sx} {ce cs : E} {pos : Pos} {g : G}
theorem xs_nil : PSs X [] (trS X.K Γ .skip) := pss_w pss_nil fun D σ H ⟨α, env, S, o, env', S', ok, en, e, k⟩ => by
  simp only [ex, Option.some.injEq, Prod.mk.injEq] at e
  obtain ⟨rfl, rfl, rfl⟩ := e
  exact k α H Xt.refl ok σ en
theorem xs_cons (h1 : PS X st (trS X.K Γ c1)) (h2 : PSs X rest (trS X.K Γ c2)) : PSs X (st :: rest) (trS X.K Γ (.seq c1 c2)) :=
  pss_w (pss_cons h1 h2) fun D σ H ⟨α, env, S, o, env', S', ok, en, e, k⟩ => by
    simp only [ex, Option.bind_eq_some_iff] at e
    obtain ⟨⟨o1, env1, S1⟩, e1, e2⟩ := e
    refine ⟨α, env, S, o1, env1, S1, ok, en, e1, fun α1 H1 x1 ok1 => ?_⟩
    cases o1 with
    | nx => exact fun σ1 en1 => ⟨α1, env1, S1, o, env', S', ok1, en1, e2, fun α2 H2 x2 ok2 => k α2 H2 (x1.trans x2) ok2⟩
    | _ =>
      simp only [Option.some.injEq, Prod.mk.injEq] at e2
      obtain ⟨rfl, rfl, rfl⟩ := e2
      exact k α1 H1 x1 ok1
theorem xs_one (h1 : PS X st (trS X.K Γ c1)) : PSs X [st] (trS X.K Γ c1) := pss_one h1
theorem xs_pass : PS X (.Pass pos) (trS X.K Γ .skip) := ps_w ps_pass fun D σ H ⟨α, env, S, o, env', S', ok, en, e, k⟩ => by
  simp only [ex, Option.some.injEq, Prod.mk.injEq] at e
  obtain ⟨rfl, rfl, rfl⟩ := e
  exact k α H Xt.refl ok σ en
theorem xs_brk : PS X (.Break pos) (trS X.K Γ .brk) := ps_w ps_break fun D σ H ⟨α, env, S, o, env', S', ok, en, e, k⟩ => by
  simp only [ex, Option.some.injEq, Prod.mk.injEq] at e
  obtain ⟨rfl, rfl, rfl⟩ := e
  exact k α H Xt.refl ok σ en
theorem xs_cont : PS X (.Continue pos) (trS X.K Γ .cont) := ps_w ps_continue fun D σ H ⟨α, env, S, o, env', S', ok, en, e, k⟩ => by
  simp only [ex, Option.some.injEq, Prod.mk.injEq] at e
  obtain ⟨rfl, rfl, rfl⟩ := e
  exact k α H Xt.refl ok σ en
theorem xs_stuck : PS X st (trS X.K Γ .stuck) := ps_w ps_never fun D σ H ⟨α, env, S, o, env', S', ok, en, e, k⟩ => by simp [ex] at e
theorem xs_drop (he : PE X e (tr X.K Γ ce)) (hs : swapsWith e none pos.line X.env = pure false := by rfl) : PS X (.Expr e pos) (trS X.K Γ (.drop ce)) := ps_w (ps_expr he hs) fun D σ H ⟨α, env, S, o, env', S', ok, en, e, k⟩ => by
  simp only [ex, Option.map_eq_some_iff, Prod.mk.injEq] at e
  obtain ⟨⟨d, S1⟩, e1, rfl, rfl, rfl⟩ := e
  exact ⟨α, env, S, d, S1, ok, en, e1, fun α1 H1 v x1 ok1 r1 => k α1 H1 x1 ok1 σ (en.mono x1)⟩
theorem xs_ret (he : PE X e (tr X.K Γ ce)) : PS X (.Return (some e) pos) (trS X.K Γ (.ret ce)) := ps_w (ps_ret he) fun D σ H ⟨α, env, S, o, env', S', ok, en, e, k⟩ => by
  simp only [ex, Option.map_eq_some_iff, Prod.mk.injEq] at e
  obtain ⟨⟨d, S1⟩, e1, rfl, rfl, rfl⟩ := e
  exact ⟨α, env, S, d, S1, ok, en, e1, fun α1 H1 v x1 ok1 r1 => k α1 H1 x1 ok1 v r1⟩
theorem xs_retN : PS X (.Return none pos) (trS X.K Γ .retN) := ps_w ps_retN fun D σ H ⟨α, env, S, o, env', S', ok, en, e, k⟩ => by
  simp only [ex, Option.some.injEq, Prod.mk.injEq] at e
  obtain ⟨rfl, rfl, rfl⟩ := e
  exact k α H Xt.refl ok _ .non
theorem xs_if {c : Expr} (hc : PT X c (trT X.K Γ ce)) (ha : PSs X a (trS X.K Γ c1)) (hb : PSs X b (trS X.K Γ c2)) : PS X (.If c a b pos) (trS X.K Γ (.ite ce c1 c2)) :=
  ps_w (ps_if hc ha hb) fun D σ H ⟨α, env, S, o, env', S', ok, en, e, k⟩ => by
    simp only [ex, Option.bind_eq_some_iff] at e
    obtain ⟨⟨t, S1⟩, e1, e2⟩ := e
    refine ⟨α, env, S, t, S1, ok, en, e1, fun α1 H1 x1 ok1 => ?_⟩
    cases t with
    | true =>
      rw [if_pos rfl] at e2 ⊢
      exact ⟨α1, env, S1, o, env', S', ok1, en.mono x1, e2, fun α2 H2 x2 ok2 => k α2 H2 (x1.trans x2) ok2⟩
    | false =>
      rw [if_neg Bool.false_ne_true] at e2 ⊢
      exact ⟨α1, env, S1, o, env', S', ok1, en.mono x1, e2, fun α2 H2 x2 ok2 => k α2 H2 (x1.trans x2) ok2⟩
theorem xs_asg (he : PE X e (tr X.K Γ ce)) (hg : PG X tg (trG X.K g)) (hs : swapsWithSole [tg] e pos.line X.env = pure false := by rfl) (hw : swappedStores [tg] e X.env = pure none := by rfl)
    (h1 : (assignEach [tg] X.env).map (·.2) = [assign tg X.env] := by rfl) : PS X (.Assign [tg] e pos) (trS X.K Γ (.asg g ce)) :=
  ps_w (ps_asg he hg hs hw h1) fun D σ H ⟨α, env, S, o, env', S', ok, en, e, k⟩ => by
    simp only [ex, Option.bind_eq_some_iff, Option.map_eq_some_iff, Prod.mk.injEq] at e
    obtain ⟨⟨d, S1⟩, e1, env1, e2, rfl, rfl, rfl⟩ := e
    exact ⟨α, env, S, d, S1, ok, en, e1, fun α1 H1 v x1 ok1 r1 => ⟨α1, env, d, env1, r1, en.mono x1, e2, fun σ' en' _ => k α1 H1 x1 ok1 σ' en'⟩⟩
theorem xs_set (i : Nat) {x : Str} {pos' : Pos} (hN : X.N.Nodup) (he : PE X e (tr X.K Γ ce)) (hi : X.N[i]? = some x := by rfl) (hx : Loc X.env.scope x := by first | exact Or.inl rfl | exact Or.inr rfl) (hs : swapsWith e (some (.Name x pos')) pos.line X.env = pure false := by rfl) (hf : X.fn x = true ∨ X.env.scope.names.lookup x = some .local := by first | exact .inl rfl | exact .inr rfl | assumption) :
    PS X (.Assign [.Name x pos'] e pos) (trS X.K Γ (.asg (.name i) ce)) :=
  ps_w (ps_set hN hi hx he hs hf) fun D σ H ⟨α, env, S, o, env', S', ok, en, e, k⟩ => by
    simp only [ex, Option.bind_eq_some_iff, Option.map_eq_some_iff, Prod.mk.injEq, asgG, Option.some.injEq] at e
    obtain ⟨⟨d, S1⟩, e1, env1, rfl, rfl, rfl, rfl⟩ := e
    exact ⟨α, env, S, d, S1, ok, en, e1, fun α1 H1 v x1 ok1 r1 => k α1 H1 x1 ok1 _ ((en.mono x1).set i r1)⟩
def rSet (K : PySem.W.Frag) : TSet := fun o i v H Q => ∃ α S d1 d2 d3 S', Ok K α S H ∧ Rp K α H d1 o ∧ Rp K α H d2 i ∧ Rp K α H d3 v ∧ setD d1 d2 d3 S = some S' ∧ ∀ α' H', Xt K α H α' H' → Ok K α' S' H' → Q H'
theorem p_set : PSet X (rSet X.K) := by
  intro pins s σ H o i v ov iv u Q I ro ri rv ⟨α, S, d1, d2, d3, S', ok, r1, r2, r3, e, k⟩
  cases d1 with
  | ref kk =>
    cases d2 with
    | int j =>
      simp only [setD] at e
      split at e
      · rename_i xs e1
        simp only [Option.map_eq_some_iff] at e
        obtain ⟨m, e2, rfl⟩ := e
        obtain ⟨p, vs, rfl, e3, e4, e5⟩ := ok.lst e1 r1
        cases r2
        exact set_list pins s σ H _ _ v ov iv u Q I ro ri rv ⟨p, vs, j, m, rfl, rfl, e4, by rw [e5.len]; exact e2, k α _ (Xt.write e4) (ok.write e3 e4 (o := .lst (xs.set m d3)) (u := .lst (vs.set m v)) (e5.set m r3))⟩
      · cases e
    | _ => simp [setD] at e
  | _ => simp [setD] at e
theorem xs_setix {o i : Expr} {co ci : E} {p : Pos} (he : PE X e (tr X.K Γ ce)) (ho : PE X o (tr X.K Γ co)) (hi : PE X i (tr X.K Γ ci)) (hs : swapsWithSole [.Subscript o i p] e pos.line X.env = pure false := by rfl) (hw : swappedStores [.Subscript o i p] e X.env = pure none := by rfl)
    (h1 : (assignEach [.Subscript o i p] X.env).map (·.2) = [assign (.Subscript o i p) X.env] := by rfl)
    (ha : ∀ v, assign (.Subscript o i p) X.env v = (do
      let ov ← holding [v] (eval o X.env)
      let iv ← holding [v, ov] (eval i X.env)
      standAt p
      holding [v, ov, iv] (setItem ov iv v)
      release [v, ov, iv] []) := by intro _; rfl) : PS X (.Assign [.Subscript o i p] e pos) (trS X.K Γ (.setix co ci ce)) :=
  ps_w (ps_asg he (pg_sub ho hi p_set ha) hs hw h1) fun D σ H ⟨α, env, S, oo, env', S', ok, en, e, k⟩ => by
    simp only [ex, Option.bind_eq_some_iff, Option.map_eq_some_iff, Prod.mk.injEq] at e
    obtain ⟨⟨d, S1⟩, e1, ⟨d2, S2⟩, e2, ⟨d3, S3⟩, e3, S4, e4, rfl, rfl, rfl⟩ := e
    exact ⟨α, env, S, d, S1, ok, en, e1, fun α1 H1 v x1 ok1 r1 => ⟨α1, env, S1, d2, S2, ok1, en.mono x1, e2, fun α2 H2 v2 x2 ok2 r2 => ⟨α2, env, S2, d3, S3, ok2, en.mono (x1.trans x2), e3, fun α3 H3 v3 x3 ok3 r3 =>
      ⟨α3, S3, d2, d3, d, S4, ok3, r2.mono x3, r3, r1.mono (x2.trans x3), e4, fun α4 H4 x4 ok4 => k α4 H4 (x1.trans (x2.trans (x3.trans x4))) ok4 σ (en.mono (x1.trans (x2.trans (x3.trans x4))))⟩⟩⟩⟩
theorem xs_for {k : Ik} {iter : Expr} {body : List Stmt} (hp : PassesOwn (model X.prog X.w) X.A X.env X.xe) (hc : X.calm = true) (hi : PI X tg iter (trI X.K Γ k cs)) (hg : PG X tg (trG X.K g)) (hb : PSs X body (trS X.K Γ c1))
    (hs : ∀ x, foldedSetIterable iter X.env x = pure x := by intro _; rfl) : PS X (.For tg iter body [] pos) (trS X.K Γ (.for_ k cs g c1)) :=
  ps_w (ps_for hp hc hi hg hb hs) fun D σ H ⟨α, env, S, o, env', S', ok, en, e, kn⟩ => by
    simp only [ex, Option.bind_eq_some_iff] at e
    obtain ⟨⟨d1, S1⟩, e1, ds, e2, its, e3, e4⟩ := e
    cases argsOf_some e2
    refine ⟨α, env, S, ds, S1, its, ok, en, e1, e3, fun α1 H1 J G Y x1 ok1 w hG hY => ?_⟩
    refine for_it w (fun i σ2 H2 => ∃ α2 env2 S2, Ok X.K α2 S2 H2 ∧ En X.K α2 H2 env2 σ2 ∧ Xt X.K α1 H1 α2 H2 ∧ items k ds S2 = some its ∧
      loopS (fun d env1 S1' => (asgG g d env1).bind fun env2 => ex Γ c1 env2 S1') (fun S1' => items k ds S1' = some its) (its.drop i) env2 S2 = some (o, env', S')) ⟨α1, env, S1, ok1, en.mono x1, Xt.refl, e3, e4⟩ ?_ ?_ ?_
    · rintro i σ2 H2 hi ⟨α2, env2, S2, ok2, en2, x2, it2, _⟩
      exact hG α2 S2 H2 x2 ok2 it2
    · rintro i x σ2 H2 H3 hi ⟨α2, env2, S2, ok2, en2, x2, it2, lp⟩ y
      obtain ⟨dx, q1, x3, ok3, r3⟩ := hY i α2 S2 H2 x H3 x2 ok2 it2 hi y
      have hdrop : its.drop i = dx :: its.drop (i + 1) := by
        rw [List.drop_eq_getElem_cons hi]
        rw [List.getElem?_eq_getElem hi] at q1
        rw [Option.some.inj q1]
      rw [hdrop] at lp
      simp only [loopS, Option.bind_eq_some_iff] at lp
      obtain ⟨⟨o3, env3, S3⟩, ⟨env4, a1, f1⟩, lp⟩ := lp
      refine ⟨α2, env2, dx, env4, r3, en2.mono x3, a1, fun σ4 en4 _ => ⟨α2, env4, S2, o3, env3, S3, ok3, en4, f1, fun α5 H5 x5 ok5 => ?_⟩⟩
      have xx := x1.trans (x2.trans (x3.trans x5))
      cases o3 with
      | nx =>
        simp only at lp
        split at lp
        · rename_i st4
          exact fun σ5 en5 => ⟨α5, env3, S3, ok5, en5, x2.trans (x3.trans x5), st4, lp⟩
        · cases lp
      | cont =>
        simp only at lp
        split at lp
        · rename_i st4
          exact fun σ5 en5 => ⟨α5, env3, S3, ok5, en5, x2.trans (x3.trans x5), st4, lp⟩
        · cases lp
      | brk =>
        simp only [Option.some.injEq, Prod.mk.injEq] at lp
        obtain ⟨rfl, rfl, rfl⟩ := lp
        exact kn α5 H5 xx ok5
      | ret d =>
        simp only [Option.some.injEq, Prod.mk.injEq] at lp
        obtain ⟨rfl, rfl, rfl⟩ := lp
        exact kn α5 H5 xx ok5
    · rintro σ2 H2 ⟨α2, env2, S2, ok2, en2, x2, it2, lp⟩
      rw [List.drop_length] at lp
      simp only [loopS, Option.some.injEq, Prod.mk.injEq] at lp
      obtain ⟨rfl, rfl, rfl⟩ := lp
      exact kn α2 H2 (x1.trans x2) ok2 σ2 en2
end

/-! ### a def -/
section
variable {P : Program} {w : World} {K : PySem.W.Frag} {mg : Str → Option Value} {base : Heap}
theorem start_En {α : List Addr} {H : Hp} {ds : List D} {vs : List V} (r : Rps K α H ds vs) (N : List Str) (m : Nat) (hm : N.length = m) : En K α H (ds.map some ++ List.replicate (m - ds.length) none) (L2.start N vs) := by
  refine ⟨by simp [L2.start, r.len, hm], fun i d h => ?_⟩
  unfold L2.start
  by_cases hi : i < ds.length
  · rw [List.getElem?_append_left (by simpa using hi), List.getElem?_map] at h
    rw [List.getElem?_eq_getElem hi] at h
    obtain ⟨v, h1, h2⟩ := r.get (List.getElem?_eq_getElem hi)
    simp only [Option.map_some, Option.some.injEq] at h
    subst h
    exact ⟨v, by rw [List.getElem?_append_left (by rw [List.length_map, r.len]; exact hi), List.getElem?_map, h1]; rfl, h2⟩
  · rw [List.getElem?_append_right (by simpa using hi), List.getElem?_replicate] at h
    split at h <;> cases h
theorem run_succ {T : Nat → Option Fd} {n f : Nat} {ds : List D} {S : Hd} {r : D × Hd} {F : Fd} (hT : T f = some F) (h : run T (n + 1) f ds S = some r) :
    ds.length = F.np ∧ outD (ex (run T n) F.body (ds.map some ++ List.replicate (F.m - ds.length) none) S) = some r := by
  simp only [run_step, hT, Option.bind_some] at h
  split at h
  · exact ⟨by assumption, h⟩
  · cases h
theorem fn_ok {T : Nat → Option Fd} {n f : Nat} {x : Str} {ps N : List Str} {st : Stmt} {fa : Addr} {fd : FuncData} {F : Fd} (hF : Fun K x x st fa fd) (S : FnScope N ps (defScope st)) (hT : T f = some F) (hnp : ps.length = F.np) (hm : N.length = F.m)
    (der : ∀ (cdv : Value) (A : Around) (outer : List Env) (s : Shared) (H : Hp) (E : XK), RoomG n (A.deeper (PyProof.Rows.envOfC x (defScope st) s.heap.objs.size fa cdv)) →
      PSs (cxOf CX0 P w K mg base N x (defScope st) fa cdv A outer s H E).nox (defBody st) (trS K (run T n) F.body)) :
    FnG P w K mg base (n + 1) fa fd ps (spF K (run T (n + 1)) f) := by
  refine fnG_of hF S (fun vs H Q E h => ?_) fun cdv A outer s H vs Q E hr h => ?_
  · obtain ⟨α, S0, ds, d, S', ok, rs, e, _⟩ := h
    rw [rs.len, (run_succ hT e).1, hnp]
  · obtain ⟨α, S0, ds, d, S', ok, rs, e, k⟩ := h
    refine ⟨_, der cdv A outer s H E hr, ?_⟩
    have h2 := (run_succ hT e).2
    unfold outD at h2
    simp only [Option.bind_eq_some_iff] at h2
    obtain ⟨⟨o, env', S1⟩, e1, e2⟩ := h2
    refine ⟨α, _, S0, o, env', S1, ok, start_En rs N F.m hm, e1, fun α1 H1 x1 ok1 => ?_⟩
    cases o with
    | nx =>
      simp only [Option.some.injEq, Prod.mk.injEq] at e2
      obtain ⟨rfl, rfl⟩ := e2
      exact fun σ' _ => k α1 H1 _ x1 ok1 .non
    | ret d' =>
      simp only [Option.some.injEq, Prod.mk.injEq] at e2
      obtain ⟨rfl, rfl⟩ := e2
      exact fun v r => k α1 H1 v x1 ok1 r
    | _ => cases e2
theorem fn_ok0 {T : Nat → Option Fd} {f : Nat} {x : Str} {ps N : List Str} {st : Stmt} {fa : Addr} {fd : FuncData} (hF : Fun K x x st fa fd) (S : FnScope N ps (defScope st)) : FnG P w K mg base 0 fa fd ps (spF K (run T 0) f) := by
  have no : ∀ vs H Q E, ¬ spF K (run T 0) f vs H Q E := fun vs H Q E ⟨α, S0, ds, d, S', ok, rs, e, _⟩ => by simp [run_zero] at e
  exact ⟨fun vs H Q E h => absurd h (no vs H Q E), fun _ _ _ _ h => absurd h (no _ _ _ _)⟩
end
end Ix

namespace Ix
open PySem PySem.Spec PyProof.Rows L2
/-! ### enumerate over a tuple -/
/-- the tuple at a, each item beside its number in a new pair -/
def ItnT (K : PySem.W.Frag) (a : Addr) : It where
  go := fun i H => ∃ (vs : List V) (v : V), SqT K H a vs ∧ vs[i]? = some v
  yld := fun i H u H' => ∃ p v, u = .ref p ∧ H p = none ∧ H' = upd H p (.tup [.int (i : Nat), v]) ∧ ∀ vs, SqT K H a vs → vs[i]? = some v
  stop := fun i H => ∃ vs : List V, SqT K H a vs ∧ vs.length ≤ i
def enSt (a e it : Addr) (i : Nat) (h : Heap) : Prop := (∃ last, IsEnum h e it ((i : Nat) : Int) last) ∧ h.IsTupleIter it a i ∧ e ≠ it ∧ e ≠ a ∧ a ≠ it
theorem turn_numT {prog : Program} {wd : World} {F : PySem.W.Frag} {ts : List Expr} {j : Nat} {tp : Pos} (a e it : Addr) :
    Turn prog wd F (.Tuple ts j tp) (ItnT F a) [e, it] e (enSt a e it) where
  mem := List.mem_cons_self
  obj := by
    rintro i h ⟨⟨last, en⟩, ⟨o, ho, hc, hd⟩, _⟩ b hb
    rcases List.mem_cons.mp hb with z | z
    · subst z
      exact ⟨_, en, fun v q => nomatch q⟩
    · rw [List.mem_singleton.mp z]
      exact ⟨o, ho, fun v q => by rw [hd] at q; cases q⟩
  keep := by
    rintro i h h' ⟨⟨last, en⟩, ti, r⟩ k
    exact ⟨⟨last, k e List.mem_cons_self _ en⟩, ti.at fun o q => k it (by simp) o q, r⟩
  item := by
    intro Y hP hw hK hc i pins s σ H E I hf st hg
    subst hP hw hK
    obtain ⟨⟨last, en⟩, ti, n1, n2, n3⟩ := st
    obtain ⟨vs, v, sq, hv⟩ := hg
    obtain ⟨its, rv, p, _⟩ := I.tuple sq
    obtain ⟨u, hu, ru⟩ := rv.get hv
    have le : e < s.heap.objs.size := Heap.lt_size en
    have li : it < s.heap.objs.size := by
      obtain ⟨_, q, _⟩ := ti
      exact Heap.lt_size q
    have hi : i < its.toArray.size := by
      have := (List.getElem?_eq_some_iff.mp hu).1
      simpa using this
    have none1 : Y.A.in1.handled = none := I.ok.hd hc
    refine wpAny_pyNext_enum_itemD (Draws.tuple none1 it a n3 its.toArray) en ⟨ti, p⟩ hi n1 (by simp [n1, n2]) fun x h' tk hx ho hit hT hsz hk => ?_
    have ex : x = u := by
      have : its[i]? = some x := by simpa using hx
      rw [hu] at this
      exact (Option.some.inj this).symm
    subst ex
    refine ⟨_, rfl, wpAny_letOwnedTupleGo_enum (s := { s with heap := h', toks := tk + 1 }) ho fun h2 en2 sb => ?_⟩
    have hT2 : h2.get? s.heap.objs.size = some { cls := .type "tuple", data := .seq #[.int i tk, x] } := (sb.2 _ (Nat.ne_of_gt le)).trans hT
    have new : ObjOk Y.prog Y.w (upd H s.heap.objs.size (.tup [.int (i : Nat), v])) h2 s.heap.objs.size (.tup [.int (i : Nat), v]) := by
      refine ⟨?_, [.int i tk, x], .cons ⟨_, rfl⟩ (.cons ru .nil), ⟨_, hT2, rfl, _, rfl⟩⟩
      show 2 ≤ sizeLine
      decide
    have keepAll : ∀ b o, b ∉ [e, it] → s.heap.get? b = some o → h2.get? b = some o := by
      intro b o hb q
      have b1 : b ≠ e := fun z => hb (by simp [z])
      have b2 : b ≠ it := fun z => hb (by simp [z])
      exact (sb.2 b b1).trans (hk b o b1 b2 q)
    have I1 : Inv Y pins σ (upd H s.heap.objs.size (.tup [.int (i : Nat), v])) { s with heap := h2, toks := tk + 1 } :=
      I.turnedNew (t' := tk + 1) (ch := [e, it]) (fun b o hb q => keepAll b o hb q) hf (Nat.le_refl _) new
    refine ⟨.ref s.heap.objs.size, _, I1, rfl, ⟨_, v, rfl, I.hok.fresh (Nat.le_refl _), rfl, fun ws hw2 => by rw [I.tuple_inj hw2 sq]; exact hv⟩, ⟨⟨x, ?_⟩, hit.1.at fun o q => (sb.2 it (Ne.symm n1)).trans q, n1, n2, n3⟩, ?_⟩
    · rw [show ((i + 1 : Nat) : Int) = (i : Int) + 1 by omega]
      exact en2
    · intro b hb
      have lb : b < s.heap.objs.size := by
        rcases List.mem_cons.mp hb with z | z
        · rw [z]; exact le
        · rw [List.mem_singleton.mp z]; exact li
      rw [upd_ne (Nat.ne_of_lt lb)]
      exact (hf b hb).1
  done := by
    intro Y hP hw hK hc i pins s σ H E I hf st hg
    subst hP hw hK
    obtain ⟨⟨last, en⟩, ti, n1, n2, n3⟩ := st
    obtain ⟨vs, sq, hv⟩ := hg
    obtain ⟨its, rv, p, _⟩ := I.tuple sq
    obtain ⟨f0, f1, f2, f3, f4, f5⟩ := hf it (by simp)
    have hl := rv.length
    have hT : s.TypeIs (.ref e) "enumerate" := ⟨_, en, rfl⟩
    unfold pyNext
    refine wpAny_bind (wpAny_attempt (wpAny_callSpecial?_slot (name := Str.ofString "__next__") hT F.slot_enumerate_next
      (wpAny_call_entry F.slot_enumerate_next hT F.entry_enumerate_next ?_ (F.args_enumerate_next_1 _))))
    show wpAny _ _ (field (.ref e) 2 >>= _) _ _ _
    refine wpAny_bind (wpAny_field en rfl (x := .ref it) rfl ?_)
    refine wpAny_bind (wpAny_nextOf_tuple_end (I.ok.hd hc) ti p (by simp; omega) fun h' x ex hx => ?_)
    obtain ⟨o, ho, hcl⟩ := hx
    refine wpAny_bind (wpAny_isInstance (T := "StopIteration") (b := true) ⟨o, ho, hcl⟩ isSubtype_stop ?_)
    exact wpAny_pure ⟨rfl, I.turned (t' := s.toks) (fun b o hb q => ex b o hb q) f0 f1 f3 f4 f5⟩
  self := fun A i s Q E st h => by
    obtain ⟨⟨last, en⟩, _⟩ := st
    exact wpAny_pyIter_enum en h
/-- enumerate(v) of one argument: its two new objects -/
theorem enum_new1 {v : Value} {o : Obj} {G : Heap → Prop} (B : Begins v o G) :
    Meets (Builtin.«enumerate.__new__» ⟨[.type "enumerate", v], []⟩) (fun _ R s => G s.heap ∧
      R (.ok (.ret (.ref (s.heap.push o).objs.size)))
        { s with heap := (s.heap.push o).push { cls := .type "enumerate", data := .fields #[.none, .bool false, .ref s.heap.objs.size, rawInt 0, .none, .none] } }) :=
  .of_wp fun prog w A R s h => by
    obtain ⟨hp, g, d, tk, os⟩ := s
    obtain ⟨g1, h⟩ := h
    have hsub := sub_enumerate
    have it1 : ∀ {A' : Around} {E : Value → Shared → Prop} {Q : Value → Shared → Prop}, Q (.ref hp.objs.size) ⟨hp.push o, g, d, tk, os⟩ →
        wpAny (model prog w) A' (pyIter v) Q E ⟨hp, g, d, tk, os⟩ := fun q => B.iter prog w _ _ ⟨hp, g, d, tk, os⟩ _ g1 q
    wp_walk using it1
    refine wpAny_stack_any fun st => wpAny_pure ?_
    split
    · rename_i c _ _ _ _ _
      cases (c == Value.type "enumerate") <;> (wp_walk using it1; exact ⟨_, rfl, h⟩)
    · wp_walk using it1
      exact ⟨_, rfl, h⟩
theorem call_enum1 {prog : Program} {w : World} {A : Around} {E : Value → Shared → Prop} {s : Shared} {v : Value} {o : Obj} {G : Heap → Prop} {Q : Value → Shared → Prop} (B : Begins v o G) (g1 : G s.heap)
    (h : ∀ h', IsEnum h' (s.heap.objs.size + 1) s.heap.objs.size 0 .none → h'.get? s.heap.objs.size = some o → h'.objs.size = s.heap.objs.size + 2 →
      (∀ b z, s.heap.get? b = some z → h'.get? b = some z) → Q (.ref (s.heap.objs.size + 1)) { s with heap := h' }) :
    wpAny (model prog w) A (call (.type "enumerate") [v]) Q E s := by
  refine callType_new F.called_enumerate (by decide) (F.typeCall_enumerate_1 _) (F.newCall_enumerate_1 _) (fun obj => F.args_object_init_2 obj _)
    F.entry_enumerate_new (enum_new1 B) ⟨g1, ?_⟩
  have sz : (s.heap.push o).objs.size = s.heap.objs.size + 1 := Heap.size_push ..
  show _ ∧ _
  rw [sz]
  have en : IsEnum ((s.heap.push o).push { cls := .type "enumerate", data := .fields #[.none, .bool false, .ref s.heap.objs.size, rawInt 0, .none, .none] })
      (s.heap.objs.size + 1) s.heap.objs.size 0 .none := by
    have q := Heap.get?_push_size (s.heap.push o) (o := { cls := .type "enumerate", data := .fields #[.none, .bool false, .ref s.heap.objs.size, rawInt 0, .none, .none] }) rfl
    rw [sz] at q
    exact q
  refine ⟨⟨_, en, rfl⟩, h _ en (Heap.get?_push_of_some _ (Heap.get?_push_size _ B.free)) (by rw [Heap.size_push, sz]) fun b z q => ?_⟩
  exact Heap.get?_push_of_some _ (Heap.get?_push_of_some _ q)
def iNum (K : PySem.W.Frag) (ta : TA) : TI := fun σ H R => ta σ H fun us H1 => ∃ a vs, us = [.ref a] ∧ SqT K H1 a vs ∧ R (ItnT K a) H1
theorem pi_enumT {X : Cx} {e : Expr} {ta : TA} {p pos tp : Pos} {ts : List Expr} {j : Nat} (hg : Gl X "enumerate") (hm : X.mg "enumerate" = none) (ha : PA X [e] ta) (hs : starEach [e] X.env = [(false, eval e X.env)] := by rfl) :
    PI X (.Tuple ts j tp) (.Call (.Name "enumerate" p) [e] [] pos) (iNum X.K ta) := by
  refine ⟨fun pins s σ H R I h => ?_⟩
  refine Call_ (ld_blt I hg hm boot_enumerate (PyProof.Rows.callWith_type1 (thn (ha.run pos pins s σ H _ I h) fun us s1 ⟨vs, H1, I1, r1, a, xs, q0, sq, q⟩ => ?_) hs rfl))
  subst q0
  cases r1 with
  | cons r rr =>
    cases rr
    cases r
    obtain ⟨its, rv, p', _⟩ := I1.tuple sq
    refine call_enum1 (begins_tuple a its.toArray) p' fun h' en hit hsz hk => wpAny_pyIter_enum en ?_
    have I2 : Inv X pins σ H1 { s1 with heap := h' } := I1.kept (t' := s1.toks) hk
    have la : a < s1.heap.objs.size := by
      obtain ⟨oa, ho, _⟩ := id p'
      exact Heap.lt_size ho
    refine ⟨s1.heap.objs.size + 1, [s1.heap.objs.size + 1, s1.heap.objs.size], _, _, H1, rfl, I2, turn_numT a (s1.heap.objs.size + 1) s1.heap.objs.size, ⟨⟨.none, en⟩, ⟨_, hit, rfl, rfl⟩, Nat.succ_ne_self _, Nat.ne_of_gt (Nat.lt_succ_of_lt la), Nat.ne_of_lt la⟩, fun b hb => ?_, q⟩
    have lb : s1.heap.objs.size ≤ b := by
      rcases List.mem_cons.mp hb with z | z
      · rw [z]; exact Nat.le_succ _
      · rw [List.mem_singleton.mp z]; exact Nat.le_refl _
    exact I1.fpOk lb (I1.hok.fresh lb)
end Ix

namespace Ix
open PySem L2
/-! ### x += e, enumerate -/
section
variable {X : Cx} {Γ : Fs} {e : Expr} {ce : E} {pos : Pos}
theorem w_aug {i : Nat} {o : Bo} {D : Ends} {σ : L2.St} {H : Hp} (f : Int → Int → Int) (hf : ∀ env S a b S1, env[i]? = some (some (.int a)) → ev Γ ce env S = some (.int b, S1) → ex Γ (.aug i o ce) env S = some (.nx, env.set i (some (.int (f a b))), S1))
    (ho : o = .add ∨ o = .sub) (h : trS X.K Γ (.aug i o ce) D σ H) : tAug i (tr X.K Γ ce) (ipI f) D σ H := by
  obtain ⟨α, env, S, out, env', S', ok, en, e1, k⟩ := h
  have e0 := e1
  simp only [ex] at e1
  split at e1
  · rename_i a ea
    simp only [Option.bind_eq_some_iff] at e1
    obtain ⟨⟨d, S1⟩, e2, e3⟩ := e1
    have hd : ∃ b, d = .int b := by
      rcases ho with rfl | rfl <;> (cases d <;> simp at e3; exact ⟨_, rfl⟩)
    obtain ⟨b, rfl⟩ := hd
    rw [hf env S a b S1 ea e2] at e0
    simp only [Option.some.injEq, Prod.mk.injEq] at e0
    obtain ⟨rfl, rfl, rfl⟩ := e0
    obtain ⟨v, hv, rv⟩ := en.at_ i _ ea
    cases rv
    refine ⟨_, hv, α, env, S, .int b, S1, ok, en, e2, fun α1 H1 w x1 ok1 r1 => ?_⟩
    cases r1
    exact ⟨a, b, rfl, rfl, k α1 H1 x1 ok1 _ ((en.mono x1).set i (.int _))⟩
  · cases e1
theorem xs_aug_add (i : Nat) {x : Str} {p : Pos} (hN : X.N.Nodup) (he : PE X e (tr X.K Γ ce)) (hi : X.N[i]? = some x := by rfl) (hx : Loc X.env.scope x := by first | exact Or.inl rfl | exact Or.inr rfl)
    (hf : X.fn x = true ∨ X.env.scope.names.lookup x = some .local := by first | exact .inl rfl | exact .inr rfl | assumption) : PS X (.AugAssign (.Name x p) .Add e pos) (trS X.K Γ (.aug i .add ce)) :=
  ps_w (ps_aug hN hi hx he ip_add hf) fun D σ H h => w_aug (fun a b => a + b) (fun env S a b S1 h1 h2 => by simp only [ex, h1, h2, Option.bind_some]) (.inl rfl) h
theorem xs_aug_sub (i : Nat) {x : Str} {p : Pos} (hN : X.N.Nodup) (he : PE X e (tr X.K Γ ce)) (hi : X.N[i]? = some x := by rfl) (hx : Loc X.env.scope x := by first | exact Or.inl rfl | exact Or.inr rfl)
    (hf : X.fn x = true ∨ X.env.scope.names.lookup x = some .local := by first | exact .inl rfl | exact .inr rfl | assumption) : PS X (.AugAssign (.Name x p) .Sub e pos) (trS X.K Γ (.aug i .sub ce)) :=
  ps_w (ps_aug hN hi hx he ip_sub hf) fun D σ H h => w_aug (fun a b => a - b) (fun env S a b S1 h1 h2 => by simp only [ex, h1, h2, Option.bind_some]) (.inr rfl) h
end
section
variable {X : Cx} {Γ : Fs} {a b : Expr} {cs : E} {pos : Pos}
/-- x, y = a, b -/
theorem xs_par {i j : Nat} {x y : Str} {px py pt : Pos} {kt k2 pt2} (hc : X.calm = true) (hN : X.N.Nodup) (hi : X.N[i]? = some x) (hj : X.N[j]? = some y) (hij : i ≠ j)
    (hx : X.env.scope.names.lookup x = some .local) (hy : X.env.scope.names.lookup y = some .local) (ha : PA X [a, b] (trA X.K Γ cs))
    (hw : swappedStores [.Tuple [.Name x px, .Name y py] kt pt] (.Tuple [a, b] k2 pt2) X.env = pure (some [x, y]) := by rfl)
    (hs : swapsWithSole [.Tuple [.Name x px, .Name y py] kt pt] (.Tuple [a, b] k2 pt2) pos.line X.env = pure false := by rfl) :
    PS X (.Assign [.Tuple [.Name x px, .Name y py] kt pt] (.Tuple [a, b] k2 pt2) pos) (trS X.K Γ (.asg (.tup (.cons (.name i) (.cons (.name j) .nil))) (.tup cs))) :=
  ps_w (ps_par hc hN hi hj hij hx hy ha hw hs) fun D σ H ⟨α, env, S, o, env', S', ok, en, e1, k⟩ => by
    simp only [ex, ev, Option.bind_eq_some_iff, Option.map_eq_some_iff, Prod.mk.injEq] at e1
    obtain ⟨⟨d, S1⟩, ⟨⟨d2, S2⟩, e2, ds, e3, e4⟩, env1, e5, rfl, rfl, rfl⟩ := e1
    cases argsOf_some e3
    split at e4
    · simp only [Option.some.injEq, Prod.mk.injEq] at e4
      obtain ⟨rfl, rfl⟩ := e4
      refine ⟨α, env, S, ds, S2, ok, en, e2, fun α1 H1 vs x1 ok1 r1 => ?_⟩
      match ds, e5, r1 with
      | [d1, d2], e5, r1 =>
        obtain ⟨v, u, rfl, r2, r3⟩ := r1.two'
        simp only [asgG, Option.bind_some, Option.some.injEq] at e5
        subst e5
        exact ⟨v, u, rfl, k α1 H1 x1 ok1 _ (((en.mono x1).set i r2).set j r3)⟩
      | [], e5, r1 => simp [asgG] at e5
      | [_], e5, r1 => simp [asgG] at e5
      | _ :: _ :: _ :: _, e5, r1 => simp [asgG] at e5
    · cases e4
end
section
variable {K : PySem.W.Frag} {a : Addr} {n : Nat}
theorem walk_numL : Walk (Ite K a) n (fun H => ∃ vs, SqL K H a vs ∧ vs.length = n) (fun i H v H' => ∃ T x, v = .ref T ∧ H T = none ∧ H' = upd H T (.tup [.int (i : Nat), x]) ∧ ∀ xs, SqL K H a xs → xs[i]? = some x) :=
  ⟨fun i _ hi ⟨vs, q, l⟩ => ⟨vs, vs[i]'(by omega), q, by simp⟩, fun _ ⟨vs, q, l⟩ => ⟨vs, q, by omega⟩, fun _ _ _ _ _ _ y => y⟩
theorem walk_numT : Walk (ItnT K a) n (fun H => ∃ vs, SqT K H a vs ∧ vs.length = n) (fun i H v H' => ∃ T x, v = .ref T ∧ H T = none ∧ H' = upd H T (.tup [.int (i : Nat), x]) ∧ ∀ xs, SqT K H a xs → xs[i]? = some x) :=
  ⟨fun i _ hi ⟨vs, q, l⟩ => ⟨vs, vs[i]'(by omega), q, by simp⟩, fun _ ⟨vs, q, l⟩ => ⟨vs, q, by omega⟩, fun _ _ _ _ _ _ y => y⟩
theorem num_turn {α : List Addr} {S : Hd} {H H3 : Hp} {xs : List D} {vs : List V} {v : V} {i : Nat} {T : Addr} {x : V} (ok : Ok K α S H) (r1 : Rps K α H xs vs) (e1 : v = .ref T) (hT : H T = none) (e2 : H3 = upd H T (.tup [.int (i : Nat), x]))
    (h1 : vs[i]? = some x) : ∃ d, (xs.mapIdx fun i d => D.tup [.int (i : Int), d])[i]? = some d ∧ Xt K α H α H3 ∧ Ok K α S H3 ∧ Rp K α H3 d v := by
  obtain ⟨dx, q1, q2⟩ := r1.getV h1
  subst e1 e2
  exact ⟨.tup [.int (i : Int), dx], by rw [List.getElem?_mapIdx, q1]; rfl, Xt.fresh hT, ok.fresh hT, Rp.newT hT (.cons (.int _) (.cons q2 .nil))⟩
end
section
variable {X : Cx} {Γ : Fs} {e : Expr} {cs : E} {pos p : Pos}
theorem num_items {S : Hd} {x : D} {its : List D} (h : items .enum [x] S = some its) : ∃ xs, seqOf S x = some xs ∧ its = xs.mapIdx fun i d => .tup [.int (i : Int), d] := by
  simp only [items, Option.map_eq_some_iff] at h
  obtain ⟨xs, h1, h2⟩ := h
  exact ⟨xs, h1, h2.symm⟩
theorem xi_enum {elts : List Expr} {kk : Nat} {tpos : Pos} (hg : Gl X "enumerate") (hm : X.mg "enumerate" = none) (ha : PA X [e] (trA X.K Γ cs)) (hs : starEach [e] X.env = [(false, eval e X.env)] := by rfl) :
    PI X (.Tuple elts kk tpos) (.Call (.Name "enumerate" p) [e] [] pos) (trI X.K Γ .enum cs) := by
  refine ⟨fun pins s σ H R I ⟨α, env, S, ds, S', its, ok, en, e1, e3, k⟩ => ?_⟩
  match ds, e1, e3 with
  | [x], e1, e3 =>
    obtain ⟨xs, h1, ei⟩ := num_items e3
    cases hx : isTup x with
    | true =>
      refine (pi_enumT hg hm ha hs).run pins s σ H R I ⟨α, env, S, _, S', ok, en, e1, fun α1 H1 vs x1 ok1 r1 => ?_⟩
      obtain ⟨v, rfl, r2⟩ := r1.one'
      obtain ⟨a, _, rfl, _, _⟩ := seq_of ok1 r2 h1
      obtain ⟨vs, z1, q1⟩ := seq_tup ok1 r2 h1 hx
      refine ⟨a, vs, rfl, z1, k α1 H1 _ _ _ x1 ok1 walk_numT (fun α2 S2 H2 x2 ok2 e4 => ?_) fun i α2 S2 H2 w H3 x2 ok2 e4 hi ⟨T, x', f1, f2, f3, f4⟩ => ?_⟩
      · obtain ⟨xs', g1, g3⟩ := num_items e4
        obtain ⟨vs', w1, w2⟩ := seq_tup ok2 (r2.mono x2) g1 hx
        exact ⟨vs', w1, by rw [w2.len, g3, List.length_mapIdx]⟩
      · obtain ⟨xs', g1, g3⟩ := num_items e4
        obtain ⟨vs', w1, w2⟩ := seq_tup ok2 (r2.mono x2) g1 hx
        rw [g3]
        exact num_turn ok2 w2 f1 f2 f3 (f4 _ w1)
    | false =>
      refine (pi_enum hg hm ha hs).run pins s σ H R I ⟨α, env, S, _, S', ok, en, e1, fun α1 H1 vs x1 ok1 r1 => ?_⟩
      obtain ⟨v, rfl, r2⟩ := r1.one'
      obtain ⟨a, _, rfl, _, _⟩ := seq_of ok1 r2 h1
      obtain ⟨vs, z1, q1⟩ := seq_lst ok1 r2 h1 hx
      refine ⟨a, vs, rfl, z1, k α1 H1 _ _ _ x1 ok1 walk_numL (fun α2 S2 H2 x2 ok2 e4 => ?_) fun i α2 S2 H2 w H3 x2 ok2 e4 hi ⟨T, x', f1, f2, f3, f4⟩ => ?_⟩
      · obtain ⟨xs', g1, g3⟩ := num_items e4
        obtain ⟨vs', w1, w2⟩ := seq_lst ok2 (r2.mono x2) g1 hx
        exact ⟨vs', w1, by rw [w2.len, g3, List.length_mapIdx]⟩
      · obtain ⟨xs', g1, g3⟩ := num_items e4
        obtain ⟨vs', w1, w2⟩ := seq_lst ok2 (r2.mono x2) g1 hx
        rw [g3]
        exact num_turn ok2 w2 f1 f2 f3 (f4 _ w1)
  | [], e1, e3 => simp [items] at e3
  | x :: y :: _, e1, e3 => simp [items] at e3
end

/-! ### defs with keyword-only defaults -/
section
/-- a def whose keyword-only parameters have defaults (kws) -/
structure FnID (P : Program) (w : World) (K : PySem.W.Frag) (mg : Str → Option Value) (base : Heap) (Γ : Fs) (n f : Nat) (x : Str) (ps : List Str) (st : Stmt) (kws : List (Str × V)) : Prop where
  ex : ∃ (fa : Addr) (fd : FuncData), mg x = some (.ref fa) ∧ FunD K x x (defArgs st) (defBody st) (defScope st) [] kws fa fd ∧ FnG P w K mg base n fa fd ps (spF K Γ f)
def conE : List D → E
  | [] => .nil
  | d :: ds => .cons (.c d) (conE ds)
def appE (c : E) (ds : List D) : E := match c with
  | .cons a es => .cons a (appE es ds)
  | _ => conE ds
theorem consts_ev {Γ : Fs} {env : Sl} {S : Hd} : ∀ ds : List D, ev Γ (conE ds) env S = some (.tup ds, S)
  | [] => rfl
  | d :: ds => by
    simp only [conE, ev, Option.bind_some, consts_ev ds, argsOf, Option.map_some]
theorem appE_ev {Γ : Fs} {env : Sl} : ∀ {ck : E} {m : Nat} {ds : List D} {S S' : Hd} {d : D}, narg ck = some m → ev Γ (appE ck ds) env S = some (d, S') → ∃ zs, ev Γ ck env S = some (.tup zs, S') ∧ d = .tup (zs ++ ds)
  | .nil, m, ds, S, S', d, _, e => by
    simp only [appE] at e
    rw [consts_ev] at e
    simp only [Option.some.injEq, Prod.mk.injEq] at e
    obtain ⟨rfl, rfl⟩ := e
    exact ⟨[], rfl, rfl⟩
  | .cons a es, m, ds, S, S', d, h, e => by
    simp only [narg, Option.map_eq_some_iff] at h
    obtain ⟨m1, h, _⟩ := h
    simp only [appE, ev, Option.bind_eq_some_iff, Option.map_eq_some_iff, Prod.mk.injEq] at e
    obtain ⟨⟨d1, S1⟩, e1, ⟨d2, S2⟩, e2, zs, e3, rfl, rfl⟩ := e
    obtain ⟨ws, w1, w2⟩ := appE_ev h e2
    cases argsOf_some e3
    cases w2
    exact ⟨d1 :: ws, by simp only [ev, e1, w1, Option.bind_some, argsOf, Option.map_some], rfl⟩
variable {X : Cx} {Γ : Fs} {e : Expr} {es : List Expr} {cs ck : E} {pos p : Pos} {n f : Nat} {x : Str} {ps : List Str} {st : Stmt} {kws0 : List (Str × V)}
theorem kb_of {fa : Addr} {fd : FuncData} (F : FunD X.K x x (defArgs st) (defBody st) (defScope st) [] kws0 fa fd) (ks : List Str) (ms : List (Str × V)) (perm : List Nat) (m : Nat) (hk0 : kws0 ≠ []) (hms : ∀ q ∈ ms, q ∈ kws0)
    (kb : ∀ (D : Addr) (doc pm : Value) (an : Option Addr) (cdv ct : Value) (us mv ws : List Value), us.length = m → mv.length = ms.length → ws.length = ks.length →
      KwChain D ((ms.map (·.1)).zip mv) (bindArgs (PySem.W.fnOf x x (defArgs st) (defBody st) (defScope st) .none (.ref D) doc pm an cdv ct) ⟨us, ks.zip ws⟩) (ps.zip (permV perm (us ++ (ws ++ mv))))) :
    ∃ mv : List Value, KBn X.K fd ps m ks (fun us ws => permV perm (us ++ (ws ++ mv))) (fun vs zs => permV perm (vs ++ (zs ++ ms.map (·.2)))) :=
  F.kbinds0 m ks ms (fun us mv ws => permV perm (us ++ (ws ++ mv))) hk0 hms (fun r1 r2 r3 => rel_perm (r1.append (r3.append r2)) perm) kb
/-- f(e, .., k = v, ..), the keyword-only parameters ms lack -/
theorem xe_callD {kws : List Keyword} (F : FnID X.prog X.w X.K X.mg X.base Γ n f x ps st kws0) (ks : List Str) (ms : List (Str × V)) (ds0 : List D) (perm : List Nat) (m : Nat) (hk0 : kws0 ≠ []) (hms : ∀ q ∈ ms, q ∈ kws0)
    (hds : ∀ α H, Rps X.K α H ds0 (ms.map (·.2)))
    (kb : ∀ (D : Addr) (doc pm : Value) (an : Option Addr) (cdv ct : Value) (us mv ws : List Value), us.length = m → mv.length = ms.length → ws.length = ks.length →
      KwChain D ((ms.map (·.1)).zip mv) (bindArgs (PySem.W.fnOf x x (defArgs st) (defBody st) (defScope st) .none (.ref D) doc pm an cdv ct) ⟨us, ks.zip ws⟩) (ps.zip (permV perm (us ++ (ws ++ mv)))))
    (hn : narg cs = some m) (hnk : narg ck = some ks.length) (hr : RoomG n X.A) (hg : Gl X x) (ha : PA X (e :: es) (trA X.K Γ cs)) (hk : PK X kws (trA X.K Γ ck))
    (hall : (backToKw pos (keywordEach kws X.env)).all (·.1.isSome) = true := by rfl) (hks : (backToKw pos (keywordEach kws X.env)).filterMap (·.1) = ks := by rfl)
    (hdb : (x == ("__debug__" : Str)) = false := by decide) (he : starEach (e :: es) X.env = (false, eval e X.env) :: starEach es X.env := by rfl)
    (hpl : ((backTo pos (starEach (e :: es) X.env)).any (·.1) || (backToKw pos (keywordEach kws X.env)).any (·.1.isNone)) = false := by rfl) :
    PE X (.Call (.Name x p) (e :: es) kws pos) (tr X.K Γ (.callK f cs (appE ck ds0) perm)) := by
  obtain ⟨fa, fd, h1, h2, h3⟩ := F.ex
  obtain ⟨mv, hB⟩ := kb_of h2 ks ms perm m hk0 hms kb
  refine pe_w (pe_callNG (E := E0) h3 hr hg h1 h2.kp hB pass0 ha hk hall hks hdb he hpl) fun σ H Q ⟨α, env, S, d, S', ok, en, e, k⟩ => ?_
  simp only [ev, Option.bind_eq_some_iff] at e
  obtain ⟨⟨d1, S1⟩, e1, ds, e2, ⟨d2, S2⟩, e3, zs, e4, e5⟩ := e
  cases argsOf_some e2
  obtain ⟨ws0, e6, e7⟩ := appE_ev hnk e3
  cases e7
  cases argsOf_some e4
  have l1 := narg_len hn e1
  have l2 := narg_len hnk e6
  exact ⟨α, env, S, ds, S1, ok, en, e1, fun α1 H1 vs x1 ok1 r1 => ⟨α1, env, S1, ws0, S2, ok1, en.mono x1, e6, fun α2 H2 ws x2 ok2 r2 => ⟨by rw [r1.len, l1], by rw [r2.len, l2],
      α2, S2, _, d, S', ok2, ((r1.mono x2).append (r2.append (hds _ _))).perm perm, e5, fun α3 H3 v x3 ok3 r3 => k α3 H3 v (x1.trans (x2.trans x3)) ok3 r3⟩⟩⟩
/-- f(k = v, ..), the same -/
theorem xe_callD0 {kws : List Keyword} (F : FnID X.prog X.w X.K X.mg X.base Γ n f x ps st kws0) (ks : List Str) (ms : List (Str × V)) (ds0 : List D) (perm : List Nat) (hk0 : kws0 ≠ []) (hms : ∀ q ∈ ms, q ∈ kws0)
    (hds : ∀ α H, Rps X.K α H ds0 (ms.map (·.2)))
    (kb : ∀ (D : Addr) (doc pm : Value) (an : Option Addr) (cdv ct : Value) (us mv ws : List Value), us.length = 0 → mv.length = ms.length → ws.length = ks.length →
      KwChain D ((ms.map (·.1)).zip mv) (bindArgs (PySem.W.fnOf x x (defArgs st) (defBody st) (defScope st) .none (.ref D) doc pm an cdv ct) ⟨us, ks.zip ws⟩) (ps.zip (permV perm (us ++ (ws ++ mv)))))
    (hnk : narg ck = some ks.length) (hr : RoomG n X.A) (hg : Gl X x) (hk : PK X kws (trA X.K Γ ck))
    (hall : (backToKw pos (keywordEach kws X.env)).all (·.1.isSome) = true := by rfl) (hks : (backToKw pos (keywordEach kws X.env)).filterMap (·.1) = ks := by rfl)
    (hdb : (x == ("__debug__" : Str)) = false := by decide)
    (hpl : ((backTo pos (starEach [] X.env)).any (·.1) || (backToKw pos (keywordEach kws X.env)).any (·.1.isNone)) = false := by rfl) :
    PE X (.Call (.Name x p) [] kws pos) (tr X.K Γ (.callK f .nil (appE ck ds0) perm)) := by
  obtain ⟨fa, fd, h1, h2, h3⟩ := F.ex
  obtain ⟨mv, hB⟩ := kb_of h2 ks ms perm 0 hk0 hms kb
  refine ⟨fun pins s σ H Q I h => ?_⟩
  obtain ⟨α, env, S, d, S', ok, en, e, k⟩ := h
  simp only [ev, Option.bind_eq_some_iff, Option.some.injEq] at e
  obtain ⟨_, rfl, ds, e1, ⟨d2, S2⟩, e3, zs, e4, e5⟩ := e
  cases argsOf_some e1
  obtain ⟨ws0, e6, e7⟩ := appE_ev hnk e3
  cases e7
  cases argsOf_some e4
  have l2 := narg_len hnk e6
  refine wpAny_Call_Name_kw (ld_glob I hg h1 ?_ hdb)
  refine PySem.W.callWith_KW0 (h₀ := X.base) I.ok.mod.kin h2.kp hall (thn (hk.run pos pins s σ H (fun ws H2 => ws.length = ks.length ∧ spF X.K Γ f (permV perm ([] ++ (ws ++ ms.map (·.2)))) H2 Q E0) I ?_) fun ws s2 ⟨zs, H2, I2, rz, l3, q2⟩ => ⟨I2.kIn, ?_⟩) hpl
  · exact ⟨α, env, S, ws0, S2, ok, en, e6, fun α2 H2 ws x2 ok2 r2 => ⟨by rw [r2.len, l2], α2, S2, _, d, S', ok2, Rps.perm (Rps.nil.append (r2.append (hds _ _))) perm, e5, fun α3 H3 v x3 ok3 r3 => k α3 H3 v (x2.trans x3) ok3 r3⟩⟩
  · rw [hks]
    exact run_fnG h3 hr hB pass0 I2 (.nil : Vals [] []) rz rfl l3 q2
end
end Ix

namespace Ix
open PySem PySem.Spec PyProof.Rows L2
/-! ### x or y by truth; sorted of pairs; sorted(set(..)); list(range(..)) -/
section
variable {X : Cx} {Γ : Fs} {a b e : Expr} {rest es : List Expr} {ca cb ce cs : E} {pos : Pos}
theorem xe_orv (ha : PE X a (tr X.K Γ ca)) (hb : PE X (.BoolOp .Or (b :: rest) pos) (tr X.K Γ cb)) : PE X (.BoolOp .Or (a :: b :: rest) pos) (tr X.K Γ (.orv ca cb)) :=
  pe_w (pe_orT ha hb) fun σ H Q ⟨α, env, S, d, S', ok, en, e, k⟩ => by
    simp only [ev, Option.bind_eq_some_iff] at e
    obtain ⟨⟨d1, S1⟩, e1, c, e2, e3⟩ := e
    refine ⟨α, env, S, d1, S1, ok, en, e1, fun α1 H1 v1 x1 ok1 r1 => ⟨c, tru_of ok1 r1 e2, ?_⟩⟩
    cases c with
    | true =>
      simp only [if_true, Option.some.injEq, Prod.mk.injEq] at e3 ⊢
      obtain ⟨rfl, rfl⟩ := e3
      exact k α1 H1 _ x1 ok1 r1
    | false =>
      simp only [Bool.false_eq_true, if_false] at e3 ⊢
      exact ⟨α1, env, S1, d, S', ok1, en.mono x1, e3, fun α2 H2 v2 x2 ok2 r2 => k α2 H2 v2 (x1.trans x2) ok2 r2⟩
end
/-! pairs in order -/
theorem lexLe_refl (p : Int × Int) : lexLe p p := .inr ⟨rfl, Int.le_refl _⟩
theorem lexLe_tot {p q : Int × Int} (h : ¬ lexLe p q) : lexLe q p := by
  unfold lexLe at h ⊢
  omega
theorem lexLe_trans {p q r : Int × Int} (h : lexLe p q) (k : lexLe q r) : lexLe p r := by
  unfold lexLe at h k ⊢
  omega
theorem lexLe_anti {p q : Int × Int} (h : lexLe p q) (k : lexLe q p) : p = q := by
  unfold lexLe at h k
  have h1 : p.1 = q.1 := by omega
  have h2 : p.2 = q.2 := by omega
  exact Prod.ext h1 h2
theorem insP_perm (p : Int × Int) : ∀ ps, (insP p ps).Perm (p :: ps)
  | [] => .refl _
  | q :: qs => by
    unfold insP
    split
    · exact .refl _
    · exact ((insP_perm p qs).cons q).trans (.swap p q qs)
theorem srtP_perm : ∀ ps : List (Int × Int), (srtP ps).Perm ps
  | [] => .refl _
  | p :: ps => (insP_perm p (srtP ps)).trans ((srtP_perm ps).cons p)
theorem insP_le (p : Int × Int) : ∀ {ps : List (Int × Int)}, ps.Pairwise lexLe → (insP p ps).Pairwise lexLe
  | [], _ => by simp [insP]
  | q :: qs, h => by
    unfold insP
    rw [List.pairwise_cons] at h
    split
    · rename_i c
      refine List.pairwise_cons.mpr ⟨fun r hr => ?_, List.pairwise_cons.mpr h⟩
      rcases List.mem_cons.mp hr with z | z
      · rw [z]; exact c
      · exact lexLe_trans c (h.1 r z)
    · rename_i c
      refine List.pairwise_cons.mpr ⟨fun r hr => ?_, insP_le p h.2⟩
      rcases List.mem_cons.mp ((insP_perm p qs).mem_iff.mp hr) with z | z
      · rw [z]; exact lexLe_tot c
      · exact h.1 r z
theorem srtP_le : ∀ ps : List (Int × Int), (srtP ps).Pairwise lexLe
  | [] => .nil
  | p :: ps => insP_le p (srtP_le ps)
theorem srtP_one {A B : List (Int × Int)} (p : A.Perm B) (ha : A.Pairwise lexLe) (hb : B.Pairwise lexLe) : A = B :=
  p.eq_of_pairwise (fun _ _ _ _ h k => lexLe_anti h k) ha hb
theorem pairsD_map : ∀ ps : List (Int × Int), pairsD (ps.map pairD) = some ps
  | [] => rfl
  | p :: ps => by
    have := pairsD_map ps
    simp only [List.map_cons, pairD, pairsD] at this ⊢
    rw [this]
    rfl
theorem pairsD_of : ∀ {xs : List D} {ps : List (Int × Int)}, pairsD xs = some ps → xs = ps.map pairD
  | [], ps, h => by
    simp only [pairsD, Option.some.injEq] at h
    subst h
    rfl
  | x :: xs, ps, h => by
    unfold pairsD at h
    split at h
    · rename_i heq
      cases heq
    · rename_i i j ds heq
      cases heq
      rw [Option.map_eq_some_iff] at h
      obtain ⟨qs, h1, rfl⟩ := h
      rw [pairsD_of h1]
      rfl
    · cases h
open Classical in
noncomputable def keyV (K : PySem.W.Frag) (H : Hp) (v : V) : Int × Int := if h : ∃ p : Int × Int, ∃ t : Addr, v = .ref t ∧ SqT K H t [.int p.1, .int p.2] then h.choose else (0, 0)
section
variable {X : Cx}
theorem keyV_of {pins : List (Addr × Obj)} {σ : L2.St} {H : Hp} {s : Shared} {t : Addr} {p : Int × Int} (I : Inv X pins σ H s) (h : SqT X.K H t [.int p.1, .int p.2]) : keyV X.K H (.ref t) = p := by
  have hx : ∃ p : Int × Int, ∃ t' : Addr, V.ref t = .ref t' ∧ SqT X.K H t' [.int p.1, .int p.2] := ⟨p, t, rfl, h⟩
  unfold keyV
  rw [dif_pos hx]
  obtain ⟨t', e, c2⟩ := hx.choose_spec
  cases e
  have c4 := I.tuple_inj c2 h
  simp only [List.cons.injEq, V.int.injEq, and_true] at c4
  exact Prod.ext c4.1 c4.2
/-- sorted(xs) of pairs, wherever the pairs lie -/
theorem b_sortp : CallR X (.builtin "sorted") (rA X.K (bltD .sortp_)) := by
  intro pins s σ H xs us Q I r ⟨α, S, ds, d, S', ok, rs, e, k⟩
  match ds, e with
  | [x], e =>
    simp only [bltD, Option.map_eq_some_iff, alloc, Prod.mk.injEq] at e
    obtain ⟨ps, h1, rfl, rfl⟩ := e
    obtain ⟨v, rfl, r1⟩ := rs.one'
    unfold pairsAt at h1
    split at h1
    · cases h1
    rename_i nt
    rw [Option.bind_eq_some_iff] at h1
    obtain ⟨ys, h2, h3⟩ := h1
    have h4 := pairsD_of h3
    subst h4
    obtain ⟨l, vs, rfl, rv, z⟩ := seq_of ok r1 h2
    have z : SqL X.K H l vs := by
      rcases z with z | z
      · exact absurd z.1 nt
      · exact z.2
    obtain ⟨its, rel, hl, hz⟩ := I.list z
    obtain ⟨u, rfl, ru⟩ := vals1 r
    have ru : u = Value.ref l := ru
    subst ru
    -- each item is a tuple of two ints
    have item : ∀ (i : Nat) (v : V), vs[i]? = some v → ∃ (t : Addr) (p : Int × Int), ps[i]? = some p ∧ v = V.ref t ∧ SqT X.K H t [V.int p.1, V.int p.2] := fun i v hv => by
      obtain ⟨x, hx, rx⟩ := rv.getV hv
      rw [List.getElem?_map] at hx
      cases hp : ps[i]? with
      | none => rw [hp] at hx; cases hx
      | some p =>
        rw [hp] at hx
        have hx : pairD p = x := by simpa using hx
        subst hx
        cases rx with
        | tup h l' q =>
          rename_i t ws
          refine ⟨t, p, rfl, rfl, ?_⟩
          match ws, l', h, q with
          | [w1, w2], _, h, q =>
            have q1 := q 0 _ _ rfl rfl
            have q2 := q 1 _ _ rfl rfl
            cases q1
            cases q2
            exact h
          | [], l', _, _ => simp at l'
          | [_], l', _, _ => simp at l'
          | _ :: _ :: _ :: _, l', _, _ => simp at l'
    have isref : ∀ v ∈ vs, ∃ t, v = V.ref t := fun v hv => by
      obtain ⟨i, hi⟩ := List.getElem?_of_mem hv
      obtain ⟨t, p, _, e, _⟩ := item i v hi
      exact ⟨t, e⟩
    obtain ⟨e1, e2⟩ := refs_back rel isref
    have keyp : ∀ (t : Addr) (p : Int × Int), SqT X.K H t [V.int p.1, V.int p.2] → keyV X.K H (V.ref t) = p := fun t p h => keyV_of I h
    generalize keyV X.K H = key at keyp
    refine SrtO.sorted_pairsO (k := fun u => key (backV u)) hl.isList (by rw [← rel.length]; exact hz) (fun v hv => ?_) fun h' dd out o1 o2 kp hd hn => ?_
    · obtain ⟨t, rfl⟩ := e2 v hv
      have hm : V.ref t ∈ vs := by rw [e1]; exact List.mem_map.mpr ⟨_, hv, rfl⟩
      obtain ⟨i, hi⟩ := List.getElem?_of_mem hm
      obtain ⟨t', p, _, et, sq⟩ := item i _ hi
      cases et
      have hk : key (backV (Value.ref t)) = p := keyp t p sq
      obtain ⟨its2, r2, tu, _⟩ := I.tuple sq
      obtain ⟨u1, u2, rfl, ri, rj⟩ := vals2 r2
      obtain ⟨t1, rfl⟩ := ri
      obtain ⟨t2, rfl⟩ := rj
      obtain ⟨o, ho, hcl, n, hd⟩ := tu
      simp only [hk]
      exact ⟨t, o, t1, t2, n, rfl, ho, hcl, hd⟩
    · have h3 : ∀ u ∈ out, ∃ t, u = Value.ref t := fun u hu => e2 u (o2.perm.mem_iff.mp hu)
      have srt := SrtO.srtd_map o1
      have stb : SrtO.Stb (ltP key) (out.map backV) vs := by
        rw [e1]
        exact SrtO.Stb.map (ltP_swo key) backV o2
      obtain ⟨n, hn⟩ := hn
      have hpn := I.hok.fresh hd
      refine ⟨.ref dd, upd H dd (.lst (out.map backV)), I.laid (t' := s.toks) kp hd ⟨?_, out, n, vals_back h3, hn⟩, rfl, ?_⟩
      · rw [stb.len]
        exact hz
      -- the values in order
      have mapk : vs.map key = ps := by
        apply List.ext_getElem?
        intro i
        rw [List.getElem?_map]
        cases hv : vs[i]? with
        | none =>
          have : ps[i]? = none := by
            rw [List.getElem?_eq_none_iff] at hv ⊢
            have := rv.len
            rw [List.length_map] at this
            omega
          rw [this]
          rfl
        | some v =>
          obtain ⟨t, p, hp, rfl, sq⟩ := item i v hv
          rw [hp, Option.map_some, keyp t p sq]
      have pm : ((out.map backV).map key).Perm ps := by
        rw [← mapk]
        exact stb.perm.map key
      have le : ((out.map backV).map key).Pairwise lexLe := by
        rw [List.map_map]
        refine List.Pairwise.imp ?_ srt
        intro x y h
        have := SrtO.lexB_no.mp h
        unfold lexLe
        omega
      have eo : (out.map backV).map key = srtP ps := srtP_one (pm.trans (srtP_perm ps).symm) le (srtP_le ps)
      refine go_new ok hpn ⟨?_, fun i x v h1 h2 => ?_⟩ k
      · have := congrArg List.length eo
        simp only [List.length_map] at this ⊢
        exact this
      · have hv : v ∈ vs := stb.perm.mem_iff.mp (List.mem_of_getElem? h2)
        obtain ⟨j, hj⟩ := List.getElem?_of_mem hv
        obtain ⟨t, p, hp, rfl, sq⟩ := item j v hj
        have h4 : ((out.map backV).map key)[i]? = some p := by rw [List.getElem?_map, h2, Option.map_some, keyp t p sq]
        rw [eo] at h4
        rw [List.getElem?_map, h4] at h1
        have h1 : pairD p = x := by simpa using h1
        subst h1
        exact .tup sq rfl fun i x v h1 h2 => by
          match i, h1, h2 with
          | 0, h1, h2 => cases h1; cases h2; exact .int _
          | 1, h1, h2 => cases h1; cases h2; exact .int _
          | i + 2, h1, h2 => simp at h1
  | [], e => simp [bltD] at e
  | _ :: _ :: _, e => simp [bltD] at e
end
section
variable {X : Cx} {Γ : Fs} {a b : Expr} {ca cb : E} {pos pos2 p p2 : Pos}
theorem xe_lrange (hc : X.calm = true) (hg : Gl X "list") (hm : X.mg "list" = none) (hg2 : Gl X "range") (hm2 : X.mg "range" = none) (ha : PE X a (tr X.K Γ ca)) (hb : PE X b (tr X.K Γ cb))
    (na : starEach [a, b] X.env = (false, eval a X.env) :: starEach [b] X.env := by rfl) (nb : starEach [b] X.env = (false, eval b X.env) :: starEach [] X.env := by rfl) (hp : (backTo pos2 (starEach [b] X.env)).any (·.1) = false := by rfl)
    (nr : starEach [.Call (.Name "range" p2) [a, b] [] pos2] X.env = (false, eval (.Call (.Name "range" p2) [a, b] [] pos2) X.env) :: starEach [] X.env := by rfl) :
    PE X (.Call (.Name "list" p) [.Call (.Name "range" p2) [a, b] [] pos2] [] pos) (tr X.K Γ (.blt .lrange_ (.cons ca (.cons cb .nil)))) :=
  pe_w (pe_listRg hc hg hm (prg_2 hg2 hm2 ha hb na nb hp) nr) fun σ H Q ⟨α, env, S, d, S', ok, en, e, k⟩ => by
    simp only [ev] at e
    cases h1 : ev Γ ca env S with
    | none => rw [h1] at e; cases e
    | some x =>
      obtain ⟨d1, S1⟩ := x
      rw [h1] at e
      simp only [Option.bind_some] at e
      cases h2 : ev Γ cb env S1 with
      | none => rw [h2] at e; cases e
      | some y =>
        obtain ⟨d2, S2⟩ := y
        rw [h2] at e
        simp only [Option.bind_some, argsOf, Option.map_some] at e
        refine ⟨α, env, S, d1, S1, ok, en, h1, fun α1 H1 v1 x1 ok1 r1 => ⟨α1, env, S1, d2, S2, ok1, en.mono x1, h2, fun α2 H2 v2 x2 ok2 r2 => ?_⟩⟩
        cases d1 with
        | int i =>
          cases d2 with
          | int j =>
            simp only [bltD] at e
            split at e
            · rename_i hb
              simp only [alloc, Option.some.injEq, Prod.mk.injEq] at e
              obtain ⟨rfl, rfl⟩ := e
              cases r1
              cases r2
              refine ⟨i, j, rfl, rfl, ⟨hb.1, hb.2.1, hb.2.2.1, hb.2.2.2.1, Nat.le_trans hb.2.2.2.2 (by decide)⟩, fun q hq => ?_⟩
              refine go_new ok2 hq ⟨by simp [rgV], fun m x v h1 h2 => ?_⟩ fun α3 H3 v x3 => k α3 H3 v (x1.trans (x2.trans x3))
              unfold rgV at h2
              rw [List.getElem?_map] at h1 h2
              cases hm : (List.range (j - i).toNat)[m]? with
              | none => rw [hm] at h1; cases h1
              | some z =>
                rw [hm] at h1 h2
                cases h1
                cases h2
                exact .int _
            · cases e
          | _ => simp [bltD] at e
        | _ => simp [bltD] at e
end
end Ix

namespace Ix
open PySem PySem.Spec PyProof.Rows L2
/-! ### == and in of data of any depth; a, b = a list -/
theorem un_of {k : Nat} {A : Around} (r : RoomG k A) : A.units + 65 < cLine := by
  have := r.room.un
  omega
section
variable {K : PySem.W.Frag} {α : List Addr} {S : Hd} {H : Hp}
theorem pyL_of {f : D → Option PyData} (hf : ∀ d v y, Rp K α H d v → f d = some y → Dp K H v y) : ∀ {ds : List D} {vs : List V} {ys : List PyData}, Rps K α H ds vs → pyL f ds = some ys → DpAll K H vs ys
  | [], vs, ys, r, e => by
    rw [r.unnil]
    simp only [pyL, Option.some.injEq] at e
    subst e
    exact .nil
  | d :: ds, vs, ys, r, e => by
    obtain ⟨w, ws, rfl, r1, r2⟩ := r.uncons
    simp only [pyL, Option.bind_eq_some_iff, Option.map_eq_some_iff] at e
    obtain ⟨x, e1, xs, e2, rfl⟩ := e
    exact .cons (hf _ _ _ r1 e1) (pyL_of hf r2 e2)
theorem py_of (ok : Ok K α S H) : ∀ (n : Nat) (d : D) (v : V) (y : PyData), Rp K α H d v → py n S d = some y → Dp K H v y
  | 0, d, v, y, r, e => by cases d <;> simp [py] at e
  | n + 1, d, v, y, r, e => by
    cases d with
    | non => cases r; simp only [py, Option.some.injEq] at e; subst e; exact .non
    | bl b => cases r; simp only [py, Option.some.injEq] at e; subst e; exact .bl b
    | int i => cases r; simp only [py, Option.some.injEq] at e; subst e; exact .int i
    | str x => cases r; simp only [py, Option.some.injEq] at e; subst e; exact .str x
    | ty x => simp [py] at e
    | ro xs => simp [py] at e
    | tup xs =>
      simp only [py, Option.map_eq_some_iff] at e
      obtain ⟨ys, e1, rfl⟩ := e
      cases r with
      | tup h l q => exact .tup h (pyL_of (py_of ok n) ⟨l, q⟩ e1)
    | ref k =>
      simp only [py] at e
      split at e
      · rename_i xs e2
        simp only [Option.map_eq_some_iff] at e
        obtain ⟨ys, e1, rfl⟩ := e
        obtain ⟨a, vs, rfl, _, h, q⟩ := ok.lst e2 r
        exact .lst (SqL.of h) (pyL_of (py_of ok n) q e1)
      · cases e
end
def cdOf : Cd → CmpOp
  | .eq => .Eq | .ne => .NotEq | .in_ => .In | .notin => .NotIn
section
variable {X : Cx} {Γ : Fs} {a b : Expr} {ca cb : E} {pos : Pos}
theorem cd_of (hu : X.A.units + 65 < cLine) : ∀ o : Cd, OpR X (compareOp (cdOf o)) (rB X.K (cmpdD o))
  | .eq => fun pins s σ H x y v u Q I rx ry ⟨α, S, d1, d2, d, S', ok, r1, r2, e, k⟩ => by
    simp only [cmpdD, Option.bind_eq_some_iff] at e
    obtain ⟨y1, e1, y2, e2, e⟩ := e
    split at e
    · rename_i h
      simp only [Option.some.injEq, Prod.mk.injEq] at e
      obtain ⟨rfl, rfl⟩ := e
      exact op_eqD (by omega) pins s σ H _ _ v u Q I rx ry ⟨y1, y2, py_of ok _ _ _ _ r1 e1, py_of ok _ _ _ _ r2 e2, h.1, h.2, k α H _ Xt.refl ok (.bl _)⟩
    · cases e
  | .ne => fun pins s σ H x y v u Q I rx ry ⟨α, S, d1, d2, d, S', ok, r1, r2, e, k⟩ => by
    simp only [cmpdD, Option.bind_eq_some_iff] at e
    obtain ⟨y1, e1, y2, e2, e⟩ := e
    split at e
    · rename_i h
      simp only [Option.some.injEq, Prod.mk.injEq] at e
      obtain ⟨rfl, rfl⟩ := e
      exact op_neD (by omega) pins s σ H _ _ v u Q I rx ry ⟨y1, y2, py_of ok _ _ _ _ r1 e1, py_of ok _ _ _ _ r2 e2, h.1, h.2, k α H _ Xt.refl ok (.bl _)⟩
    · cases e
  | .in_ => fun pins s σ H x y v u Q I rx ry ⟨α, S, d1, d2, d, S', ok, r1, r2, e, k⟩ => by
    simp only [cmpdD, Option.bind_eq_some_iff] at e
    obtain ⟨y1, e1, y2, e2, e⟩ := e
    split at e
    · split at e
      · rename_i h
        simp only [Option.some.injEq, Prod.mk.injEq] at e
        obtain ⟨rfl, rfl⟩ := e
        exact op_inD hu pins s σ H _ _ v u Q I rx ry ⟨y1, _, py_of ok _ _ _ _ r1 e1, py_of ok _ _ _ _ r2 e2, h.1, h.2, k α H _ Xt.refl ok (.bl _)⟩
      · cases e
    · cases e
  | .notin => fun pins s σ H x y v u Q I rx ry ⟨α, S, d1, d2, d, S', ok, r1, r2, e, k⟩ => by
    simp only [cmpdD, Option.bind_eq_some_iff] at e
    obtain ⟨y1, e1, y2, e2, e⟩ := e
    split at e
    · split at e
      · rename_i h
        simp only [Option.some.injEq, Prod.mk.injEq] at e
        obtain ⟨rfl, rfl⟩ := e
        exact op_notInD hu pins s σ H _ _ v u Q I rx ry ⟨y1, _, py_of ok _ _ _ _ r1 e1, py_of ok _ _ _ _ r2 e2, h.1, h.2, k α H _ Xt.refl ok (.bl _)⟩
      · cases e
    · cases e
theorem cmpd_bl {o : Cd} {x y d : D} {S S' : Hd} (h : cmpdD o x y S = some (d, S')) : ∃ b, d = .bl b := by
  cases o <;> simp only [cmpdD, Option.bind_eq_some_iff] at h <;> obtain ⟨_, _, _, _, h⟩ := h <;> (repeat' split at h) <;> first | (cases h; done) | (simp only [Option.some.injEq, Prod.mk.injEq] at h; exact ⟨_, h.1.symm⟩)
theorem xe_cmpd (o : Cd) {k : Nat} (hr : RoomG k X.A) (ha : PE X a (tr X.K Γ ca)) (hb : PE X b (tr X.K Γ cb)) (hm : behindInMarks (cdOf o) b = false) : PE X (.Compare a [cdOf o] [b] pos) (tr X.K Γ (.cmpd o ca cb)) :=
  pe_w (pe_cmpR (cd_of (un_of hr) o) ha hb hm) fun σ H Q h => w_bin (fun _ _ => rfl) h
theorem xt_cmpd (o : Cd) {k : Nat} (hr : RoomG k X.A) (ha : PE X a (tr X.K Γ ca)) (hb : PE X b (tr X.K Γ cb)) (hm : behindInMarks (cdOf o) b = false) : PT X (.Compare a [cdOf o] [b] pos) (trT X.K Γ (.cmpd o ca cb)) :=
  pt_w (pt_cmpR (cd_of (un_of hr) o) ha hb hm) fun σ H Q h => w_test (fun env S d S' e => by
    simp only [ev, Option.bind_eq_some_iff] at e
    obtain ⟨_, _, _, _, e⟩ := e
    exact cmpd_bl e) (fun σ H Q h => w_bin (fun _ _ => rfl) h) h
end
section
variable {X : Cx} {Γ : Fs} {e : Expr} {ce : E} {pos tpos : Pos}
theorem xs_asgL {es : List Expr} {g : G} {k n : Nat} (hc : X.calm = true) (he : PE X e (tr X.K Γ ce)) (h : PGs X es (trGs X.K g)) (hl : gLen g = some n := by rfl) (hn : (assignEach es X.env).length = n := by rfl) (hst : (assignEach es X.env).findIdx? (·.1) = none := by rfl)
    (hs : swapsWithSole [.Tuple es k tpos] e pos.line X.env = pure false := by rfl) (hw : swappedStores [.Tuple es k tpos] e X.env = pure none := by rfl) (h1 : (assignEach [.Tuple es k tpos] X.env).map (·.2) = [assign (.Tuple es k tpos) X.env] := by rfl) :
    PS X (.Assign [.Tuple es k tpos] e pos) (trS X.K Γ (.asgL (.tup g) ce)) :=
  ps_w (ps_asg he (pg_unl hc h hn hst) hs hw h1) fun D σ H ⟨α, env, S, o, env', S', ok, en, e, kk⟩ => by
    simp only [ex, Option.bind_eq_some_iff, Option.map_eq_some_iff, Prod.mk.injEq] at e
    obtain ⟨⟨d, S1⟩, e1, xs, e2, env1, e3, rfl, rfl, rfl⟩ := e
    refine ⟨α, env, S, d, S1, ok, en, e1, fun α1 H1 v x1 ok1 r1 => ?_⟩
    split at e2
    · cases e2
    rename_i nt
    obtain ⟨a, vs, rfl, rs, z⟩ := seq_of ok1 r1 e2
    have z : SqL X.K H1 a vs := by
      rcases z with z | z
      · exact absurd z.1 nt
      · exact z.2
    simp only [asgG] at e3
    exact ⟨a, vs, rfl, z, by rw [rs.len, asg_len ⟨_, rfl⟩ hl e3], α1, env, xs, env1, rs, en.mono x1, e3, fun σ' en' _ => kk α1 H1 x1 ok1 σ' en'⟩
end
end Ix

namespace Ix
open PySem PySem.Spec PyProof.Rows L2
/-! ### sorted(set(numbers)) -/
/-- the set that a call of its class makes first -/
abbrev so (w : World) : Obj := { cls := .type "set", dict := none, data := .set #[] 0 (.fresh 0 0 (!w.params.followText "set-order")) }
section
variable {P : Program} {w : World} {A : Around} {E : Value → Shared → Prop} {s : Shared}
set_option maxHeartbeats 3200000 in
theorem set_of_list {l : Addr} {its : Array Value} (ns : List Int) {Q : Value → Shared → Prop} (nh : A.handled = none) (isl : s.heap.IsList l its) (ai : IntsAre its.toList ns) (room : ns.length + 1 < scanBound)
    (k : ∀ (h' : Heap) (tk c : Nat), SetR w h' s.heap.objs.size (fun j => decide (j ∈ ns)) c → c ≤ ns.length → (∀ b o, s.heap.get? b = some o → h'.get? b = some o) → Q (.ref s.heap.objs.size) { s with heap := h', toks := tk }) :
    wpAny (model P w) A (call (.type "set") [.ref l]) Q E s := by
  have sz : its.size = ns.length := by simpa using IntsAre.length ai
  obtain ⟨_, _, mro⟩ := F.called_set.mro
  have made := F.called_set.made
  have sub := F.called_set.sub
  refine wpAny_call (codeAny_of_tree ?_)
  show wpAny _ _ (callAny (.type "set") _) _ _ _
  refine wpAny_pure ⟨Code.quiet_builtin _ (by decide +kernel), codeAny_builtin F.entry_type_call ?_⟩
  rw [Around.under_plain (weight_type_call_type "set" [.ref l] []) rfl]
  have nt := F.called_set.notType
  have cc := F.called_set.canCreate
  have ct := F.typeCall_set_1 (.ref l)
  repeat (any_goals (first | assumption | wp_step))
  refine codeAny_mono (code_set_led1 (.ref l) (E := E) (Q₁ := fun u s₁ => u = .ref s.heap.objs.size ∧ s₁ = { s with heap := s.heap.push (so w) }) ⟨rfl, rfl⟩) fun r s₁ hr => ?_
  match r, hr with
  | .error _, hr => exact hr
  | .ok (.ret _), hr =>
    obtain ⟨rfl, rfl⟩ := hr
    have at1 : (s.heap.push (so w)).get? s.heap.objs.size = some (so w) := Heap.get?_push_size _ rfl
    have ty : Shared.TypeIs { s with heap := s.heap.push (so w) } (.ref s.heap.objs.size) "set" := ⟨_, at1, rfl⟩
    have lk := F.called_set.init.lookup
    have bd := F.called_set.init.bind (.ref s.heap.objs.size)
    repeat (any_goals (first | assumption | wp_step))
    refine codeAny_mono (codeAny_call_builtin (R := wants (fun u s₂ => u = .none ∧ ∃ h' tk c, s₂ = { s with heap := h', toks := tk } ∧ SetR w h' s.heap.objs.size (fun j => decide (j ∈ ns)) c ∧ c ≤ ns.length ∧ ∀ b o, s.heap.get? b = some o → h'.get? b = some o) E)
      F.called_set.init.plain F.entry_set_init (check_set_init_1 ty ?_)) fun r₂ s₂ hr₂ => ?_
    · obtain ⟨⟨oc, od, odt, os⟩, ho, e1, nl, e2⟩ := isl
      simp only at e1 e2
      subst e1 e2
      have ho' : (s.heap.push (so w)).get? l = some { cls := .type "list", dict := od, data := .seq its nl, slots := os } := Heap.get?_push_of_some _ ho
      have sl1 := F.sub_list_set
      have sl2 := F.sub_list_frozenset
      have nd : (Value.type "list" == Value.type "dict") = false := by decide
      have il : (s.heap.push (so w)).IsList l its := ⟨_, ho', rfl, nl, rfl⟩
      unfold Builtin.«set.__init__» noKeywords Builtin.Frozenset.updateFrom
      generalize hg : pyIter = PI
      wp_walk
      subst hg
      refine wpAny_pyIter_list il ?_
      refine wpAny_bind (wpAny_runValue ?_)
      have lt : l < s.heap.objs.size := Heap.lt_size ho
      have nh3 : A.in1.in1.in1.handled = none := by simp [nh]
      have z1 : (s.heap.push (so w)).objs.size = s.heap.objs.size + 1 := Heap.size_push ..
      have ne1 : l ≠ (s.heap.push (so w)).objs.size := by rw [z1]; exact Nat.ne_of_lt (Nat.lt_succ_of_lt lt)
      have nin : s.heap.objs.size ∉ [(s.heap.push (so w)).objs.size, l] := by
        rw [z1]
        simp only [List.mem_cons, List.not_mem_nil, or_false, not_or]
        exact ⟨Nat.ne_of_lt (Nat.lt_succ_self _), Nat.ne_of_gt lt⟩
      have val : ∀ (i : Nat) (v : Value), its[i]? = some v → ∃ m t, ns[i]? = some m ∧ v = .int m t := fun i v hv => by
        have hi : i < ns.length := by rw [← sz]; exact (Array.getElem?_eq_some_iff.mp hv).1
        obtain ⟨t, e⟩ := PyProof.Rows.IntsAre.int_at ai i v (by rw [Array.getElem?_toList]; exact hv)
        refine ⟨ns[i], t, List.getElem?_eq_getElem hi, ?_⟩
        rw [e, List.getD_eq_getElem?_getD, List.getElem?_eq_getElem hi] <;> rfl
      refine set_update_ints ((Walks.list nh3 _ l ne1 its).toS) s.heap.objs.size nin ns sz room val (its.size - 0) 0 _ (by omega) (Nat.zero_le _) ⟨⟨_, Heap.get?_push_size _ rfl, rfl, rfl⟩, il.push _⟩ ⟨0, Nat.le_refl 0, setR_new_at (Heap.get?_push_of_some _ at1)⟩ ?_
      intro s' c' mv hc' hS'
      obtain ⟨h', g2, d', tk', os'⟩ := s'
      obtain rfl : g2 = s.gens := mv.gens
      obtain rfl : d' = s.drawn := mv.drawn
      obtain rfl : os' = s.os := mv.os
      show wpAny _ _ _ _ _ _
      refine wpAny_pure ?_
      show wpAny _ _ (ret Value.none) _ _ _
      rw [sz] at hc'
      refine wpAny_pure ⟨rfl, h', tk', c', rfl, hS', hc', fun b o e => ?_⟩
      have lb : b < s.heap.objs.size := Heap.lt_size e
      refine mv.heap b o ?_ (Heap.get?_push_of_some _ (Heap.get?_push_of_some _ e))
      rw [z1]
      simp only [List.mem_cons, List.not_mem_nil, or_false, not_or]
      exact ⟨Nat.ne_of_lt lb, Nat.ne_of_lt (Nat.lt_succ_of_lt lb)⟩
    · match r₂, hr₂ with
      | .error _, hr₂ => exact hr₂
      | .ok (.ret _), hr₂ =>
        obtain ⟨rfl, h', tk, c', rfl, hS', hc', hk'⟩ := hr₂
        repeat (any_goals (first | assumption | wp_step))
        exact k _ _ _ hS' hc' hk'
end
theorem insU_mem {i x : Int} : ∀ {js : List Int}, x ∈ insU i js ↔ x = i ∨ x ∈ js
  | [] => by simp [insU]
  | j :: js => by
    unfold insU
    split
    · simp
    · split
      · rename_i e
        subst e
        simp
      · rw [List.mem_cons, insU_mem (js := js), List.mem_cons]
        constructor
        · rintro (h | h | h)
          · exact .inr (.inl h)
          · exact .inl h
          · exact .inr (.inr h)
        · rintro (h | h | h)
          · exact .inr (.inl h)
          · exact .inl h
          · exact .inr (.inr h)
theorem insU_asc {i : Int} : ∀ {js : List Int}, js.Pairwise (· < ·) → (insU i js).Pairwise (· < ·)
  | [], _ => by simp [insU]
  | j :: js, h => by
    unfold insU
    rw [List.pairwise_cons] at h
    split
    · rename_i c
      refine List.pairwise_cons.mpr ⟨fun x hx => ?_, List.pairwise_cons.mpr h⟩
      rcases List.mem_cons.mp hx with e | e
      · omega
      · have := h.1 x e
        omega
    · split
      · exact List.pairwise_cons.mpr h
      · refine List.pairwise_cons.mpr ⟨fun x hx => ?_, insU_asc h.2⟩
        rcases insU_mem.mp hx with e | e
        · omega
        · exact h.1 x e
theorem srtU_mem {x : Int} : ∀ {is : List Int}, x ∈ srtU is ↔ x ∈ is
  | [] => by simp [srtU]
  | i :: is => by rw [srtU, insU_mem, srtU_mem (is := is), List.mem_cons]
theorem srtU_asc : ∀ is : List Int, (srtU is).Pairwise (· < ·)
  | [] => .nil
  | i :: is => insU_asc (srtU_asc is)
theorem asc_one : ∀ {A B : List Int}, A.Pairwise (· < ·) → B.Pairwise (· < ·) → (∀ x, x ∈ A ↔ x ∈ B) → A = B
  | [], [], _, _, _ => rfl
  | [], b :: B, _, _, h => absurd ((h b).mpr List.mem_cons_self) (by simp)
  | a :: A, [], _, _, h => absurd ((h a).mp List.mem_cons_self) (by simp)
  | a :: A, b :: B, ha, hb, h => by
    rw [List.pairwise_cons] at ha hb
    have e : a = b := by
      rcases List.mem_cons.mp ((h a).mp List.mem_cons_self) with q | q
      · exact q
      · rcases List.mem_cons.mp ((h b).mpr List.mem_cons_self) with r | r
        · exact r.symm
        · have := ha.1 b r
          have := hb.1 a q
          omega
    subst e
    congr 1
    refine asc_one ha.2 hb.2 fun x => ⟨fun q => ?_, fun q => ?_⟩
    · rcases List.mem_cons.mp ((h x).mp (List.mem_cons_of_mem _ q)) with r | r
      · have := ha.1 x q
        omega
      · exact r
    · rcases List.mem_cons.mp ((h x).mpr (List.mem_cons_of_mem _ q)) with r | r
      · have := hb.1 x q
        omega
      · exact r
section
variable {X : Cx} {Γ : Fs} {a : Expr} {ca : E} {pos q p p2 : Pos}
/-- a set of numbers that a call of its class on a list makes -/
def rSetL' (w : World) (K : PySem.W.Frag) : List V → Hp → VK → Prop := fun vs H Q => ∃ (l : Addr) (ns : List Int), vs = [.ref l] ∧ SqL K H l (ns.map V.int) ∧ ns.length ≤ 4000 ∧ ∀ (p : Addr) (n : Nat), H p = none → (∀ ms : List Int, ms.Pairwise (· < ·) → (∀ x, x ∈ ms ↔ x ∈ ns) → ms.length = n) → Q (.ref p) (upd H p (SetO w p (fun j => decide (j ∈ ns)) n))
theorem ints_vals : ∀ {ns : List Int} {us : List Value}, Vals (ns.map V.int) us → IntsAre us ns
  | [], _, .nil => .nil
  | n :: ns, _, .cons r t => by
    obtain ⟨k, rfl⟩ := r
    exact .cons n k (ints_vals t)
theorem setR_count {w : World} {h : Heap} {a : Addr} {S : Int → Bool} {n : Nat} (R : SetR w h a S n) {ms : List Int} (hm : ms.Pairwise (· < ·)) (hs : ∀ x, x ∈ ms ↔ S x = true) : ms.length = n := by
  obtain ⟨o, es, ep, t, _, _, _, _, nd, km, _, _, hn, _⟩ := R
  have nm : ms.Nodup := hm.imp fun h => by omega
  have e : ms.Perm (es.toList.map keyOf) := (List.perm_ext_iff_of_nodup nm nd).mpr fun x => (hs x).trans (km x)
  rw [e.length_eq, List.length_map, Array.length_toList, hn]
theorem cr_setL (hc : X.calm = true) : CallR X (.type "set") (rSetL' X.w X.K) := by
  intro pins s σ H xs us Q I r ⟨l, ns, e, sq, hl, k⟩
  subst e
  obtain ⟨u, rfl, ru⟩ := vals1 r
  obtain rfl : u = Value.ref l := ru
  obtain ⟨its, rv, pl, hz⟩ := I.list sq
  refine set_of_list ns (I.ok.hd hc) pl.isList (by simpa using ints_vals rv) (by unfold scanBound; omega) fun h' tk c hS hc' hk => ?_
  have np := I.hok.fresh (Nat.le_refl s.heap.objs.size)
  refine ⟨.ref s.heap.objs.size, upd H s.heap.objs.size (SetO X.w s.heap.objs.size (fun j => decide (j ∈ ns)) c), I.laid (t' := tk) hk (Nat.le_refl _) (setO_new hS), rfl, k _ c np fun ms h1 h2 => setR_count hS h1 fun x => by rw [h2]; simp⟩
theorem xe_ssort (hc : X.calm = true) (hg : Gl X "sorted") (hm : X.mg "sorted" = none) (hg2 : Gl X "set") (hm2 : X.mg "set" = none) (ha : PE X a (tr X.K Γ ca))
    (he : starEach [a] X.env = (false, eval a X.env) :: starEach [] X.env := by rfl) (hpl : (backTo q (starEach [] X.env)).any (·.1) = false := by rfl)
    (he2 : starEach [.Call (.Name "set" p2) [a] [] q] X.env = (false, eval (.Call (.Name "set" p2) [a] [] q) X.env) :: starEach [] X.env := by rfl) (hpl2 : (backTo pos (starEach [] X.env)).any (·.1) = false := by rfl) :
    PE X (.Call (.Name "sorted" p) [.Call (.Name "set" p2) [a] [] q] [] pos) (tr X.K Γ (.blt .ssort_ (.cons ca .nil))) :=
  pe_w (pe_callB (cr_sortedSet hc) hg hm rfl (pa_cons (pe_callTy (cr_setL hc) hg2 hm2 rfl (pa_cons ha pa_nil he) (by decide) (by decide) he hpl) pa_nil he2) (by decide) (by decide) he2 hpl2) fun σ H Q ⟨α, env, S, d, S', ok, en, e, k⟩ => by
    simp only [ev] at e
    cases h1 : ev Γ ca env S with
    | none => rw [h1] at e; cases e
    | some x =>
      obtain ⟨d1, S1⟩ := x
      rw [h1] at e
      simp only [Option.bind_some, Option.map_some, argsOf, bltD, Option.bind_eq_some_iff] at e
      obtain ⟨ns, e1, e⟩ := e
      split at e
      · rename_i hb
        simp only [alloc, Option.some.injEq, Prod.mk.injEq] at e
        obtain ⟨rfl, rfl⟩ := e
        refine ⟨α, env, S, d1, S1, ok, en, h1, fun α1 H1 v1 x1 ok1 r1 => ?_⟩
        obtain ⟨l, rfl, sq⟩ := intsAt_of ok1 r1 e1
        refine ⟨l, ns, rfl, sq, hb.1, fun p n hp hn => ?_⟩
        have len : n < 64 := by
          have := hn (srtU ns) (srtU_asc ns) fun x => srtU_mem
          omega
        refine ⟨p, fun j => decide (j ∈ ns), n, rfl, upd_same, len, fun ms p' asc mem _ hp' => ?_⟩
        have em : ms = srtU ns := asc_one asc (srtU_asc ns) fun x => by rw [mem, srtU_mem]; simp
        subst em
        have ok2 : Ok X.K α1 S1 (upd H1 p (SetO X.w p (fun j => decide (j ∈ ns)) n)) := ok1.fresh hp
        refine go_new ok2 hp' ⟨by simp, fun i x v h1 h2 => ?_⟩ fun α' H' v x' => k α' H' v (x1.trans ((Xt.fresh hp).trans x'))
        rw [List.getElem?_map] at h1 h2
        cases hx : (srtU ns)[i]? with
        | none => rw [hx] at h1; cases h1
        | some m =>
          rw [hx] at h1 h2
          cases h1
          cases h2
          exact .int m
      · cases e
end
end Ix

namespace Ix
open PySem PySem.Spec PyProof.Rows L2
/-! ### dicts: displays, d[k] -/
def argsE : List (E × E) → E
  | [] => .nil
  | (k, v) :: r => .cons k (.cons v (argsE r))
inductive PsR (K : PySem.W.Frag) (α : List Addr) (H : Hp) : List D → List (V × V) → Prop where
  | nil : PsR K α H [] []
  | cons {k v : D} {a b : V} {ds : List D} {ps : List (V × V)} : Rp K α H k a → Rp K α H v b → PsR K α H ds ps → PsR K α H (k :: v :: ds) ((a, b) :: ps)
section
variable {K : PySem.W.Frag} {Γ : Fs} {α : List Addr} {S : Hd} {H : Hp}
theorem w_pairs {σ : L2.St} : ∀ {ces : List (E × E)} {env : Sl} {α : List Addr} {S S' : Hd} {H : Hp} {ds : List D} {Q : List (V × V) → Hp → Prop}, Ok K α S H → En K α H env σ → ev Γ (argsE ces) env S = some (.tup ds, S') →
    (∀ α' H' ps, Xt K α H α' H' → Ok K α' S' H' → PsR K α' H' ds ps → Q ps H') → tPairs (ces.map fun p => (tr K Γ p.1, tr K Γ p.2)) σ H Q
  | [], env, α, S, S', H, ds, Q, ok, en, e, k => by
    simp only [argsE, ev, Option.some.injEq, Prod.mk.injEq, D.tup.injEq] at e
    obtain ⟨rfl, rfl⟩ := e
    exact k α H [] Xt.refl ok .nil
  | (ck, cv) :: r, env, α, S, S', H, ds, Q, ok, en, e, k => by
    simp only [argsE, ev, Option.bind_eq_some_iff, Option.map_eq_some_iff] at e
    obtain ⟨⟨d1, S1⟩, e1, ⟨d2, S2⟩, ⟨⟨d3, S3⟩, e3, ⟨d4, S4⟩, e4, ds4, e5, e6⟩, ds2, e7, e8⟩ := e
    cases e6
    cases e8
    simp only [argsOf, Option.some.injEq] at e7
    subst e7
    cases argsOf_some e5
    refine ⟨α, env, S, d1, S1, ok, en, e1, fun α1 H1 v1 x1 ok1 r1 => ⟨α1, env, S1, d3, S3, ok1, en.mono x1, e3, fun α2 H2 v2 x2 ok2 r2 => ?_⟩⟩
    refine w_pairs ok2 (en.mono (x1.trans x2)) e4 fun α3 H3 ps x3 ok3 rs => ?_
    exact k α3 H3 _ (x1.trans (x2.trans x3)) ok3 (.cons (r1.mono (x2.trans x3)) (r2.mono x3) rs)
theorem psr_kvs : ∀ {ds : List D} {ps : List (V × V)} {ks : List (Key × D)}, PsR K α H ds ps → pairUp ds = some ks → ∃ kvs : List (Key × V), ps = kvs.map (fun kv => (kV kv.1, kv.2)) ∧ kvs.map (·.1) = ks.map (·.1) ∧ Rps K α H (ks.map (·.2)) (kvs.map (·.2))
  | [], ps, ks, r, e => by
    cases r
    simp only [pairUp, Option.some.injEq] at e
    subst e
    exact ⟨[], rfl, rfl, .nil⟩
  | [_], ps, ks, r, e => by simp [pairUp] at e
  | k :: v :: ds, ps, ks, r, e => by
    simp only [pairUp, Option.bind_eq_some_iff, Option.map_eq_some_iff] at e
    obtain ⟨x, e1, ks', e2, rfl⟩ := e
    cases r with
    | @cons _ _ a b _ ps r1 r2 r3 =>
      obtain ⟨kvs, rfl, h1, h2⟩ := psr_kvs r3 e2
      have ea : a = kV x := by
        cases k with
        | int i =>
          simp only [keyD, Option.some.injEq] at e1
          subst e1
          cases r1
          rfl
        | str z =>
          simp only [keyD, Option.some.injEq] at e1
          subst e1
          cases r1
          rfl
        | _ => simp [keyD] at e1
      subst ea
      exact ⟨(x, b) :: kvs, rfl, by simp [h1], h2.cons r2⟩
theorem mergeK_nodup : ∀ {more acc : List (Key × V)}, ((acc ++ more).map (·.1)).Nodup → mergeK acc more = acc ++ more
  | [], acc, _ => by simp [mergeK]
  | (k, v) :: more, acc, h => by
    have hk : (acc.any fun kv => decide (kv.1 = k)) = false := by
      rw [List.any_eq_false]
      intro x hx
      simp only [decide_eq_true_eq]
      intro e
      rw [List.map_append, List.nodup_append] at h
      exact h.2.2 x.1 (List.mem_map_of_mem hx) k (by simp) e
    have e : putK acc k v = acc ++ [(k, v)] := by
      unfold putK
      rw [hk]
      rfl
    have ih := mergeK_nodup (more := more) (acc := acc ++ [(k, v)]) (by rw [List.append_assoc]; exact h)
    rw [List.append_assoc] at ih
    show mergeK (putK acc k v) more = _
    rw [e, ih]
    rfl
theorem find_of : ∀ {ks : List (Key × D)} {vs : List (Key × V)} {k : Key} {d : D}, vs.map (·.1) = ks.map (·.1) → Rps K α H (ks.map (·.2)) (vs.map (·.2)) → findK ks k = some d → ∃ v, valV vs k = some v ∧ Rp K α H d v
  | [], vs, k, d, _, _, e => by simp [findK] at e
  | (x, dx) :: ks, [], k, d, h, _, _ => by simp at h
  | (x, dx) :: ks, (y, vy) :: vs, k, d, h, r, e => by
    simp only [List.map_cons, List.cons.injEq] at h
    obtain ⟨rfl, h⟩ := h
    obtain ⟨w, ws, e1, r1, r2⟩ := r.uncons
    simp only [List.map_cons, List.cons.injEq] at e1
    obtain ⟨rfl, rfl⟩ := e1
    unfold findK at e
    unfold valV
    rw [List.find?_cons] at e ⊢
    by_cases c : y = k
    · simp only [c, decide_true, Option.map_some, Option.some.injEq] at e ⊢
      subst e
      exact ⟨_, rfl, r1⟩
    · simp only [c, decide_false] at e ⊢
      exact find_of h r2 e
end
section
variable {X : Cx} {Γ : Fs} {a b : Expr} {ca cb : E} {pos : Pos} {keys : List (Option Expr)} {values : List Expr}
theorem xe_dct (ces : List (E × E)) (h : PPs X pos keys values (ces.map fun p => (tr X.K Γ p.1, tr X.K Γ p.2))) (hall : keys.all (·.isSome) = true) (hl : keys.length = values.length) (h0 : keys ≠ []) (h15 : keys.length ≤ 15) : PE X (.Dict keys values pos) (tr X.K Γ (.dct (argsE ces))) :=
  pe_w (pe_disp h hall hl h0 h15) fun σ H Q ⟨α, env, S, d, S', ok, en, e, k⟩ => by
    intro p hp
    simp only [ev, Option.bind_eq_some_iff] at e
    obtain ⟨⟨d1, S1⟩, e1, ds, e2, ks, e3, e⟩ := e
    cases argsOf_some e2
    split at e
    · rename_i hc
      simp only [Option.some.injEq, Prod.mk.injEq] at e
      obtain ⟨rfl, rfl⟩ := e
      obtain ⟨nd, len, hm⟩ := hc
      have okD : Ok X.K (α ++ [p]) (S ++ [.dct []]) (upd H p (.dK [])) := ok.snoc hp (o := .dct []) (u := .dK []) ⟨rfl, Rps.nil⟩
      refine w_pairs okD (en.mono (Xt.snoc hp)) e1 fun α1 H1 ps x1 ok1 rs => ?_
      have cell : S1[S.length]? = some (.dct []) := by
        revert hm
        generalize S1[S.length]? = q
        unfold isE
        split
        · intro _
          rfl
        · intro h
          cases h
      have kD : (α ++ [p])[S.length]? = some p := by rw [← ok.len]; simp
      have kk := x1.pre _ _ kD
      obtain ⟨a', vs, e4, e5, e6, e7, e8⟩ := ok1.dct cell (.ref kk)
      cases e4
      have vn : vs = [] := by simpa using e7
      subst vn
      obtain ⟨kvs, rfl, q1, q2⟩ := psr_kvs rs e3
      have len2 : kvs.length ≤ 15 := by
        have := congrArg List.length q1
        simp only [List.length_map] at this
        omega
      refine ⟨e6, kvs, rfl, len2, ?_⟩
      rw [mergeK_nodup (acc := []) (by rw [List.nil_append, q1]; exact nd), List.nil_append]
      have q2' : Rps X.K α1 (upd H1 p (.dK kvs)) (ks.map (·.2)) (kvs.map (·.2)) := q2.mono (Xt.writeD e6)
      exact k α1 _ _ ((Xt.snoc hp).trans (x1.trans (Xt.writeD e6))) (ok1.writeD e5 e6 (o := .dct ks) (u := .dK kvs) ⟨q1, q2⟩) (.ref kk)
    · cases e
theorem xe_dct0 : PE X (.Dict [] [] pos) (tr X.K Γ (.dct .nil)) :=
  pe_w pe_dnewK fun σ H Q ⟨α, env, S, d, S', ok, en, e, k⟩ => by
    intro p hp
    simp only [ev, Option.bind_some, argsOf, pairUp] at e
    split at e
    · simp only [Option.some.injEq, Prod.mk.injEq] at e
      obtain ⟨rfl, rfl⟩ := e
      have okD : Ok X.K (α ++ [p]) (S ++ [.dct []]) (upd H p (.dK [])) := ok.snoc hp (o := .dct []) (u := .dK []) ⟨rfl, Rps.nil⟩
      refine k _ _ _ (Xt.snoc hp) ?_ (Rp.snoc ok.len)
      rw [show (S ++ [O.dct []]).set S.length (.dct []) = S ++ [.dct []] by simp]
      exact okD
    · cases e
theorem xe_dget {k : Nat} (hr : RoomG k X.A) (ha : PE X a (tr X.K Γ ca)) (hb : PE X b (tr X.K Γ cb)) (hs : NoSl b) : PE X (.Subscript a b pos) (tr X.K Γ (.dget ca cb)) :=
  pe_w (pe_dget (by have := un_of hr; omega) ha hb hs) fun σ H Q ⟨α, env, S, d, S', ok, en, e, k⟩ => by
    simp only [ev, Option.bind_eq_some_iff] at e
    obtain ⟨⟨d1, S1⟩, e1, ⟨d2, S2⟩, e2, e3⟩ := e
    refine ⟨α, env, S, d1, S1, ok, en, e1, fun α1 H1 v1 x1 ok1 r1 => ⟨α1, env, S1, d2, S2, ok1, en.mono x1, e2, fun α2 H2 v2 x2 ok2 r2 => ?_⟩⟩
    have r1' := r1.mono x2
    cases d1 with
    | ref m =>
      simp only [dgetD] at e3
      split at e3
      · rename_i ks e4
        simp only [Option.bind_eq_some_iff, Option.map_eq_some_iff, Prod.mk.injEq] at e3
        obtain ⟨y, e5, d', e6, rfl, rfl⟩ := e3
        obtain ⟨p, vs, rfl, e7, e8, e9, e10⟩ := ok2.dct e4 r1'
        obtain ⟨v, e11, r3⟩ := find_of e9 e10 e6
        have ey : v2 = kV y := by
          cases d2 with
          | int i => simp only [keyD, Option.some.injEq] at e5; subst e5; cases r2; rfl
          | str z => simp only [keyD, Option.some.injEq] at e5; subst e5; cases r2; rfl
          | _ => simp [keyD] at e5
        subst ey
        refine ⟨p, v, rfl, ?_, k α2 H2 v (x1.trans x2) ok2 r3⟩
        rw [← e11]
        exact DGet.k e8
      · cases e3
    | _ => simp [dgetD] at e3
end
end Ix

namespace Ix
open PySem PySem.Spec PyProof.Rows L2
/-! ### dicts of the module: d[k], d.get(k); xs.count(text) -/
section
variable {X : Cx} {Γ : Fs} {a b : Expr} {ca cb : E} {pos p : Pos}
/-- what the written dict at a holds, as the table t tells it -/
def Kd (K : PySem.W.Frag) (w : World) (a : Addr) (t : List (Str × D)) : Prop := ∀ z d, lookC t z = some d → ∃ v, KDct K w a z v ∧ ∀ α H, Rp K α H d v
theorem xe_cix {x : Str} {t : List (Str × D)} {f : Addr} (hg : Gl X x) (hm : X.mg x = some (.ref f)) (hk : Kd X.K X.w f t) (hb : PE X b (tr X.K Γ cb)) (hs : PlainIx b) (hd : (x == ("__debug__" : Str)) = false := by decide) :
    PE X (.Subscript (.Name x p) b pos) (tr X.K Γ (.cix t cb)) :=
  pe_w (pe_ix ix_kdict (pe_glob (v := .ref f) hg hm rfl hd) hb hs) fun σ H Q ⟨α, env, S, d, S', ok, en, e, k⟩ => by
    simp only [ev, Option.bind_eq_some_iff] at e
    obtain ⟨⟨d1, S1⟩, e1, e2⟩ := e
    refine ⟨α, env, S, d1, S1, ok, en, e1, fun α1 H1 v1 x1 ok1 r1 => ?_⟩
    cases d1 with
    | str z =>
      simp only [Option.map_eq_some_iff, Prod.mk.injEq] at e2
      obtain ⟨d', e3, rfl, rfl⟩ := e2
      obtain ⟨v, kd, r⟩ := hk z d' e3
      cases r1
      exact ⟨f, z, v, rfl, rfl, kd, k α1 H1 v x1 ok1 (r α1 H1)⟩
    | _ => simp at e2
/-- the dict's look-up, or nothing -/
def KGet (K : PySem.W.Frag) (w : World) (a : Addr) (z : Str) (o : Option V) : Prop :=
  ∃ es n r, K.lookup a = some ⟨.type "dict", none, .dict es n, #[]⟩ ∧ PySem.W.KeysLit w.params es.toList ∧ (a == sysModules) = false ∧ PySem.W.nsIn K a z = some r ∧
    (match r, o with | some u, some v => RelV v u | none, none => True | _, _ => False)
def Kg (K : PySem.W.Frag) (w : World) (a : Addr) (t : List (Str × D)) : Prop := ∀ z, ∃ o, KGet K w a z o ∧ ∀ α H, Rp K α H ((lookC t z).getD .non) (o.getD .non)
def tKGet (K : PySem.W.Frag) (w : World) (f : Addr) (ty : TE) : TE := fun σ H Q => ty σ H fun y H2 => ∃ z o, y = .str z ∧ KGet K w f z o ∧ Q (o.getD .non) H2
theorem pe_kget {x : Str} {f : Addr} {e : Expr} {ty : TE} {apos cpos : Pos} (hg : Gl X x) (hm : X.mg x = some (.ref f)) (hty : ∃ es n, X.K.lookup f = some ⟨.type "dict", none, .dict es n, #[]⟩ ∧ PySem.W.KeysLit X.w.params es.toList) (he : PE X e ty) (m : M1 X (.Name x p) "get" apos e cpos)
    (hd : (x == ("__debug__" : Str)) = false := by decide) : PE X (.Call (.Attribute (.Name x p) "get" apos) [e] [] cpos) (tKGet X.K X.w f ty) := by
  obtain ⟨es0, n0, hl0, hk0⟩ := hty
  refine ⟨fun pins s σ H Q I h => ?_⟩
  have tyD : ∀ {pins : List (Addr × Obj)} {s : Shared} {σ : L2.St} {H : Hp}, Inv X pins σ H s → s.TypeIs (.ref f) "dict" := fun I => (PySem.W.mapOf_K (prog := X.prog) (w := X.w) I.kIn hl0 hk0).typeIs
  refine wpAny_Call_method m.base m.few m.line PySem.F.plainAttrs_dict PySem.F.slot_dict_get PySem.F.type_dict_get (ld_glob I hg hm ?_ hd)
  refine ⟨tyD I, fun b q => ?_, ?_⟩
  · cases q
    exact ⟨_, I.kIn _ _ hl0, rfl⟩
  rw [m.trees]
  refine Calls.callWith_builtin rfl (Calls.evalArgs_plain (Calls.spliced_cons (thn (he.run pins s σ H _ I h) fun iv s2 ⟨y, H2, I2, ry, z, o, ey, ⟨es, n, r, hl, hk, low, hn, hr⟩, q2⟩ => Calls.spliced_nil ?_)))
  subst ey
  obtain ⟨t, rfl⟩ := (show ∃ t, iv = Value.str z t from ry)
  have hm' := PySem.W.mapOf_K (prog := X.prog) (w := X.w) I2.kIn hl hk
  refine call_meetsIn PySem.F.slot_dict_get hm'.typeIs PySem.F.entry_dict_get (PySem.F.args_dict_get_2 _ _) (meets_dict_get (strKind X.prog X.w) f (strKind_is X.prog X.w z t) low) ⟨_, hm', ?_⟩
  rw [PySem.W.find_K hl hn]
  refine ⟨o.getD .non, H2, I2.tok _, ?_, q2⟩
  cases r with
  | none =>
    cases o with
    | none => rfl
    | some v => exact hr.elim
  | some u =>
    cases o with
    | none => exact hr.elim
    | some v => exact hr
theorem xe_cget {x : Str} {t : List (Str × D)} {f : Addr} {apos cpos : Pos} (hg : Gl X x) (hm : X.mg x = some (.ref f)) (hk : Kg X.K X.w f t) (hb : PE X b (tr X.K Γ cb)) (m : M1 X (.Name x p) "get" apos b cpos) (hd : (x == ("__debug__" : Str)) = false := by decide) :
    PE X (.Call (.Attribute (.Name x p) "get" apos) [b] [] cpos) (tr X.K Γ (.cget t cb)) := by
  obtain ⟨o0, ⟨es0, n0, _, hl0, hk0, _⟩, _⟩ := hk ""
  refine pe_w (pe_kget hg hm ⟨es0, n0, hl0, hk0⟩ hb m hd) fun σ H Q ⟨α, env, S, d, S', ok, en, e, k⟩ => ?_
  simp only [ev, Option.bind_eq_some_iff] at e
  obtain ⟨⟨d1, S1⟩, e1, e2⟩ := e
  refine ⟨α, env, S, d1, S1, ok, en, e1, fun α1 H1 v1 x1 ok1 r1 => ?_⟩
  cases d1 with
  | str z =>
    simp only [Option.some.injEq, Prod.mk.injEq] at e2
    obtain ⟨rfl, rfl⟩ := e2
    obtain ⟨o, kg, r⟩ := hk z
    cases r1
    exact ⟨z, o, rfl, kg, k α1 H1 _ x1 ok1 (r α1 H1)⟩
  | _ => simp at e2
/-- the rows of a written dict, as a table tells them -/
inductive TabR (K : PySem.W.Frag) : List DictEntry → List (Str × D) → Prop where
  | nil : TabR K [] []
  | cons {e : DictEntry} {es : List DictEntry} {z : Str} {d : D} {t : List (Str × D)} (tk : Tok) (v : V) (hk : e.key = .str z tk) (rv : RelV v e.val) (r : ∀ α H, Rp K α H d v) : TabR K es t → TabR K (e :: es) ((z, d) :: t)
theorem tab_find {K : PySem.W.Frag} (z : Str) : ∀ {es : List DictEntry} {t : List (Str × D)}, TabR K es t →
    (∃ e d v, es.find? (·.key.isStr z) = some e ∧ lookC t z = some d ∧ RelV v e.val ∧ ∀ α H, Rp K α H d v) ∨ (es.find? (·.key.isStr z) = none ∧ lookC t z = none ∧ es.any (·.refKey) = false)
  | _, _, .nil => .inr ⟨rfl, rfl, rfl⟩
  | _, _, @TabR.cons _ e es y d t tk v hk rv r rest => by
    have hs : e.key.isStr z = decide (y = z) := by
      rw [hk]
      show (y == z) = decide (y = z)
      by_cases h : y = z
      · subst h
        simp
      · simp [h]
    have hr : e.refKey = false := by
      unfold DictEntry.refKey
      rw [hk]
    by_cases h : y = z
    · refine .inl ⟨e, d, v, ?_, ?_, rv, r⟩
      · rw [List.find?_cons, hs]
        simp [h]
      · unfold lookC
        rw [List.find?_cons]
        simp [h]
    · have l1 : (e :: es).find? (·.key.isStr z) = es.find? (·.key.isStr z) := by
        rw [List.find?_cons, hs]
        simp [h]
      have l2 : lookC ((y, d) :: t) z = lookC t z := by
        unfold lookC
        rw [List.find?_cons]
        simp [h]
      rw [l1, l2]
      rcases tab_find z rest with ⟨e', d', v', h1, h2, h3, h4⟩ | ⟨h1, h2, h3⟩
      · exact .inl ⟨e', d', v', h1, h2, h3, h4⟩
      · exact .inr ⟨h1, h2, by rw [List.any_cons, hr, h3]; rfl⟩
/-- which keys there are -/
def Kn (K : PySem.W.Frag) (w : World) (a : Addr) (t : List (Str × D)) : Prop := ∃ es n, KDict K w a es n ∧ ∀ z, ∃ r, PySem.W.nsIn K a z = some r ∧ r.isSome = (lookC t z).isSome
def Kt (K : PySem.W.Frag) (w : World) (a : Addr) (t : List (Str × D)) : Prop := Kd K w a t ∧ Kg K w a t ∧ Kn K w a t
theorem kt_of {K : PySem.W.Frag} {w : World} {a : Addr} {es : Array DictEntry} {n : Nat} {t : List (Str × D)} (hl : K.lookup a = some ⟨.type "dict", none, .dict es n, #[]⟩) (hk : PySem.W.KeysLit w.params es.toList) (low : (a == sysModules) = false) (ht : TabR K es.toList t) : Kt K w a t := by
  have ns : ∀ z, PySem.W.nsIn K a z = match es.toList.find? (·.key.isStr z) with
      | some e => some (some e.val)
      | none => if es.toList.any (·.refKey) then none else some none := fun z => by
    unfold PySem.W.nsIn
    rw [hl]
    rfl
  refine ⟨?_, ?_, es, n, ⟨hl, hk, low⟩, fun z => ?_⟩
  · intro z d hd
    rcases tab_find z ht with ⟨e, d', v, h1, h2, h3, h4⟩ | ⟨h1, h2, h3⟩
    · rw [hd] at h2
      cases h2
      exact ⟨v, ⟨es, n, e.val, hl, hk, by rw [ns, h1], h3⟩, h4⟩
    · rw [hd] at h2
      cases h2
  · intro z
    rcases tab_find z ht with ⟨e, d', v, h1, h2, h3, h4⟩ | ⟨h1, h2, h3⟩
    · exact ⟨some v, ⟨es, n, some e.val, hl, hk, low, by rw [ns, h1], h3⟩, fun α H => by rw [h2]; exact h4 α H⟩
    · exact ⟨none, ⟨es, n, none, hl, hk, low, by rw [ns, h1, h3]; rfl, trivial⟩, fun α H => by rw [h2]; exact .non⟩
  · rcases tab_find z ht with ⟨e, d', v, h1, h2, h3, h4⟩ | ⟨h1, h2, h3⟩
    · exact ⟨some e.val, by rw [ns, h1], by rw [h2]; rfl⟩
    · exact ⟨none, by rw [ns, h1, h3]; rfl, by rw [h2]; rfl⟩
theorem strs_vals : ∀ {ys : List Str} {its : List Value}, Vals (ys.map V.str) its → StrsAre its ys
  | [], _, r => by cases r; exact .nil
  | y :: ys, _, r => by
    cases r with
    | cons h r =>
      obtain ⟨t, rfl⟩ := h
      exact .cons y t (strs_vals r)
def rCntS (K : PySem.W.Frag) : V → List V → Hp → VK → Prop := fun x xs H Q => ∃ (q : Addr) (ys : List Str) (z : Str), x = .ref q ∧ xs = [.str z] ∧ SqL K H q (ys.map V.str) ∧ Q (.int (PySem.Spec.countIn (.str z) (ys.map PyData.str))) H
theorem mt_countS : MtR X "list.count" (rCntS X.K) := by
  intro pins s σ H x xs v us Q I rx rxs h
  obtain ⟨q, ys, z, rfl, rfl, hs, hq⟩ := h
  cases rx
  obtain ⟨u, rfl, ru⟩ := rxs.one
  obtain ⟨t, rfl⟩ := ru
  obtain ⟨its, rv, isl, hlen⟩ := I.list hs
  obtain ⟨o, n, ho, hc, hdn, hd⟩ := isl
  exact count_list_strs (vs := its) ⟨o, ho, hc, n, hd⟩ (strs_vals rv) ⟨.int (PySem.Spec.countIn (.str z) (ys.map PyData.str)), H, I.tok _, ⟨s.toks, rfl⟩, hq⟩
theorem strsD_map : ∀ {ds : List D} {ys : List Str} {K : PySem.W.Frag} {α : List Addr} {H : Hp} {vs : List V}, strsD ds = some ys → Rps K α H ds vs → vs = ys.map V.str
  | [], ys, K, α, H, vs, e, r => by
    simp only [strsD, Option.some.injEq] at e
    subst e
    exact r.unnil
  | d :: ds, ys, K, α, H, vs, e, r => by
    obtain ⟨w, ws, rfl, r1, r2⟩ := r.uncons
    cases d with
    | str z =>
      simp only [strsD, Option.map_eq_some_iff] at e
      obtain ⟨zs, e1, rfl⟩ := e
      cases r1
      rw [strsD_map e1 r2]
      rfl
    | _ => simp [strsD] at e
theorem xe_cnts {apos cpos : Pos} {o e : Expr} {co ce : E} (ho : PE X o (tr X.K Γ co)) (he : PE X e (tr X.K Γ ce))
    (hbase : attributeBase o "count" X.env (eval o X.env) = eval o X.env := by rfl)
    (hfew : ((backTo cpos (starEach [e] X.env)).all (fun x => !x.1) && (backToKw cpos (keywordEach [] X.env)).all (fun x => x.1.isSome)
      && decide (([e] : List Expr).length + ([] : List Keyword).length + (if ([] : List Keyword).isEmpty then 0 else 1) < 30)) = true := by rfl)
    (hline : (apos.endLine == cpos.line) = true := by rfl) (hs : starEach [e] X.env = (false, eval e X.env) :: starEach [] X.env := by rfl) (hplain : (backTo cpos (starEach ([] : List Expr) X.env)).any (·.1) = false := by rfl) :
    PE X (.Call (.Attribute o "count" apos) [e] [] cpos) (tr X.K Γ (.cnts co ce)) :=
  pe_w (pe_bm PySem.F.plainAttrs_list PySem.F.slot_list_count PySem.F.type_list_count mt_countS ho (pa_cons he pa_nil hs) hbase hfew hline hs hplain) fun σ H Q ⟨α, env, S, d, S', ok, en, e, k⟩ => by
    simp only [ev, Option.bind_eq_some_iff] at e
    obtain ⟨⟨d1, S1⟩, e1, e2⟩ := e
    split at e2
    · rename_i hl
      simp only [Option.bind_eq_some_iff] at e2
      obtain ⟨⟨d2, S2⟩, e2, e3⟩ := e2
      refine ⟨α, env, S, d1, S1, ok, en, e1, fun α1 H1 v1 x1 ok1 r1 => ⟨lst_ty ok1 r1 hl, α1, env, S1, d2, S2, ok1, en.mono x1, e2, fun α2 H2 v2 x2 ok2 r2 => ?_⟩⟩
      have r1' := r1.mono x2
      cases d1 with
      | ref m =>
        cases d2 with
        | str z =>
          simp only [cntD] at e3
          split at e3
          · rename_i xs e4
            simp only [Option.map_eq_some_iff, Prod.mk.injEq] at e3
            obtain ⟨ys, e5, rfl, rfl⟩ := e3
            obtain ⟨q, vs, rfl, _, h, rs⟩ := ok2.lst e4 r1'
            have ev := strsD_map e5 rs
            subst ev
            cases r2
            exact ⟨q, ys, z, rfl, rfl, SqL.of h, k α2 H2 _ (x1.trans x2) ok2 (.int _)⟩
          · cases e3
        | _ => simp [cntD] at e3
      | _ => simp [cntD] at e3
    · cases e2
end
section
variable {X : Cx} {Γ : Fs} {a b c : Expr} {cs : E} {pos : Pos}
/-- x, y, z = a, b, c -/
theorem xs_par3 {i j l : Nat} {x y z : Str} {px py pz pt : Pos} {kt k2 pt2} (hc : X.calm = true) (hN : X.N.Nodup) (hi : X.N[i]? = some x) (hj : X.N[j]? = some y) (hl : X.N[l]? = some z) (hij : i ≠ j) (hil : i ≠ l) (hjl : j ≠ l)
    (hx : X.env.scope.names.lookup x = some .local) (hy : X.env.scope.names.lookup y = some .local) (hz : X.env.scope.names.lookup z = some .local) (ha : PA X [a, b, c] (trA X.K Γ cs))
    (hw : swappedStores [.Tuple [.Name x px, .Name y py, .Name z pz] kt pt] (.Tuple [a, b, c] k2 pt2) X.env = pure (some [x, y, z]) := by rfl)
    (hs : swapsWithSole [.Tuple [.Name x px, .Name y py, .Name z pz] kt pt] (.Tuple [a, b, c] k2 pt2) pos.line X.env = pure false := by rfl) :
    PS X (.Assign [.Tuple [.Name x px, .Name y py, .Name z pz] kt pt] (.Tuple [a, b, c] k2 pt2) pos) (trS X.K Γ (.asg (.tup (.cons (.name i) (.cons (.name j) (.cons (.name l) .nil)))) (.tup cs))) :=
  ps_w (ps_par3 hc hN hi hj hl hij hil hjl hx hy hz ha hw hs) fun D σ H ⟨α, env, S, o, env', S', ok, en, e1, k⟩ => by
    simp only [ex, ev, Option.bind_eq_some_iff, Option.map_eq_some_iff, Prod.mk.injEq] at e1
    obtain ⟨⟨d, S1⟩, ⟨⟨d2, S2⟩, e2, ds, e3, e4⟩, env1, e5, rfl, rfl, rfl⟩ := e1
    cases argsOf_some e3
    split at e4
    · simp only [Option.some.injEq, Prod.mk.injEq] at e4
      obtain ⟨rfl, rfl⟩ := e4
      refine ⟨α, env, S, ds, S2, ok, en, e2, fun α1 H1 vs x1 ok1 r1 => ?_⟩
      match ds, e5, r1 with
      | [d1, d2, d3], e5, r1 =>
        obtain ⟨u, us, rfl, r2, r1⟩ := r1.uncons
        obtain ⟨v, vs, rfl, r3, r1⟩ := r1.uncons
        obtain ⟨w, ws, rfl, r4, r1⟩ := r1.uncons
        have e0 := r1.unnil
        subst e0
        simp only [asgG, Option.bind_some, Option.some.injEq] at e5
        subst e5
        exact ⟨u, v, w, rfl, k α1 H1 x1 ok1 _ ((((en.mono x1).set i r2).set j r3).set l r4)⟩
      | [], e5, r1 => simp [asgG] at e5
      | [_], e5, r1 => simp [asgG] at e5
      | [_, _], e5, r1 => simp [asgG] at e5
      | _ :: _ :: _ :: _ :: _, e5, r1 => simp [asgG] at e5
    · cases e4
end
end Ix

namespace Ix
open PySem PySem.Spec PyProof.Rows L2
/-! ### repr of data -/
section
variable {X : Cx} {Γ : Fs} {e : Expr} {ce : E} {pos p : Pos} {k : Nat}
def rRepr (K : PySem.W.Frag) : List V → Hp → VK → Prop := fun xs H Q => ∃ (a : Addr) (d : PyData), xs = [.ref a] ∧ Dp K H (.ref a) d ∧ d.showable = true ∧ d.hasDict = false ∧ d.depth ≤ 64 ∧ d.shown.length ≤ sizeLine ∧ Q (.str d.shown) H
theorem call_reprD (hr : RoomG k X.A) : CallR X (.builtin "repr") (rRepr X.K) := by
  intro pins s σ H xs us Q I r h
  obtain ⟨a, d, rfl, hd, h1, h2, h3, h4, q⟩ := h
  obtain ⟨u, rfl, ru⟩ := vals1 r
  obtain ⟨as, rd⟩ := Dp.reads I d _ _ hd ru
  cases ru
  have un := hr.room.un
  refine repr_of_reads' rd h1 (fun z => by rw [h2] at z; cases z) hr.none (by omega) (fun _ _ z => z) (fun h' v tk keep => ?_) h4
  exact ⟨.str d.shown, H, I.kept keep, ⟨v, rfl⟩, q⟩
theorem xe_rpr {x : Str} (hr : RoomG k X.A) (hg : Gl X x) (hm : X.mg x = none) (hv : bootBuiltins x = some (.builtin "repr")) (ha : PE X e (tr X.K Γ ce)) (hn : x ≠ "__name__" := by decide) (hdb : (x == ("__debug__" : Str)) = false := by decide)
    (he : starEach [e] X.env = (false, eval e X.env) :: starEach [] X.env := by rfl) (hpl : (backTo pos (starEach ([] : List Expr) X.env)).any (·.1) = false := by rfl) : PE X (.Call (.Name x p) [e] [] pos) (tr X.K Γ (.rpr ce)) :=
  pe_w (pe_callB (call_reprD hr) hg hm hv (pa_cons ha pa_nil he) hn hdb he hpl) fun σ H Q ⟨α, env, S, d, S', ok, en, e, k⟩ => by
    simp only [ev, Option.bind_eq_some_iff] at e
    obtain ⟨⟨d1, S1⟩, e1, e2⟩ := e
    refine ⟨α, env, S, d1, S1, ok, en, e1, fun α1 H1 v1 x1 ok1 r1 => ?_⟩
    have fin : ∀ a, v1 = .ref a → (py 9 S1 d1).bind (fun d => if PyData.showable d = true ∧ PyData.hasDict d = false ∧ PyData.depth d ≤ 64 ∧ (PyData.shown d).length ≤ sizeLine then some (D.str (PyData.shown d), S1) else none) = some (d, S') → rRepr X.K [v1] H1 Q := fun a ea e3 => by
      simp only [Option.bind_eq_some_iff] at e3
      obtain ⟨y, e4, e5⟩ := e3
      split at e5
      · rename_i c
        simp only [Option.some.injEq, Prod.mk.injEq] at e5
        obtain ⟨rfl, rfl⟩ := e5
        subst ea
        exact ⟨a, y, rfl, py_of ok1 _ _ _ _ r1 e4, c.1, c.2.1, c.2.2.1, c.2.2.2, k α1 H1 _ x1 ok1 (.str _)⟩
      · cases e5
    cases d1 with
    | tup xs =>
      cases r1 with
      | tup h l q => exact fin _ rfl e2
    | ref m =>
      cases r1 with
      | ref h => exact fin _ rfl e2
    | _ => simp [rprD] at e2
end
end Ix

namespace Ix
open PySem PySem.Spec PyProof.Rows L2
/-! ### clear, join, get with a default -/
section
variable {X : Cx} {Γ : Fs} {a b c : Expr} {ca cb cc : E} {pos p : Pos}
theorem xe_clear {apos cpos : Pos} {o : Expr} {co : E} (ho : PE X o (tr X.K Γ co)) (hbase : attributeBase o "clear" X.env (eval o X.env) = eval o X.env := by rfl) (hline : (apos.endLine == cpos.line) = true := by rfl) :
    PE X (.Call (.Attribute o "clear" apos) [] [] cpos) (tr X.K Γ (.meth .clear co .nil)) :=
  pe_w (pe_bm0 PySem.F.plainAttrs_list PySem.F.slot_list_clear PySem.F.type_list_clear m_clear ho hbase hline) fun σ H Q ⟨α, env, S, d, S', ok, en, e, k⟩ => by
    simp only [ev, Option.bind_eq_some_iff] at e
    obtain ⟨⟨d1, S1⟩, e1, e2⟩ := e
    split at e2
    · rename_i hl
      simp only [Option.bind_some, argsOf] at e2
      exact ⟨α, env, S, d1, S1, ok, en, e1, fun α1 H1 v1 x1 ok1 r1 => ⟨lst_ty ok1 r1 hl, ⟨α1, S1, d1, [], d, S', ok1, r1, Rps.nil, e2, fun α3 H3 v x3 ok3 r3 => k α3 H3 v (x1.trans x3) ok3 r3⟩⟩⟩
    · cases e2
theorem strs_of {K : PySem.W.Frag} {α : List Addr} {H : Hp} : ∀ {xs : List D} {ys : List Str} {vs : List V}, strsD xs = some ys → Rps K α H xs vs → vs = ys.map V.str
  | [], ys, vs, h, r => by
    simp only [strsD, Option.some.injEq] at h
    subst h
    exact r.unnil
  | d :: ds, ys, vs, h, r => by
    cases d with
    | str z =>
      simp only [strsD, Option.map_eq_some_iff] at h
      obtain ⟨zs, h1, rfl⟩ := h
      obtain ⟨w, ws, rfl, r1, r2⟩ := r.uncons
      cases r1
      rw [strs_of h1 r2]
      rfl
    | _ => simp [strsD] at h
theorem xe_joinS {apos : Pos} {z : Str} {j : Nat} {p2 : Pos} (ha : PE X a (tr X.K Γ ca)) (hs : starEach [a] X.env = [(false, eval a X.env)] := by rfl)
    (hbase : attributeBase (.Constant (.str z) j p2) "join" X.env (eval (.Constant (.str z) j p2) X.env) = eval (.Constant (.str z) j p2) X.env := by rfl) (hline : (apos.endLine == pos.line) = true := by rfl) :
    PE X (.Call (.Attribute (.Constant (.str z) j p2) "join" apos) [a] [] pos) (tr X.K Γ (.joinS z ca)) :=
  pe_w (pe_join (pe_str (x := z)) ha hs hbase hline) fun σ H Q ⟨α, env, S, d, S', ok, en, e, k⟩ => by
    simp only [ev, Option.bind_eq_some_iff, joinD] at e
    obtain ⟨⟨d1, S1⟩, e1, ys, ⟨xs, e2, e3⟩, e4⟩ := e
    split at e4
    · rename_i hz
      simp only [Option.some.injEq, Prod.mk.injEq] at e4
      obtain ⟨rfl, rfl⟩ := e4
      refine ⟨⟨z, rfl⟩, α, env, S, d1, S1, ok, en, e1, fun α1 H1 v1 x1 ok1 r1 => ?_⟩
      obtain ⟨q, vs, rfl, rs, t⟩ := seq_of ok1 r1 e2
      have ev := strs_of e3 rs
      subst ev
      exact ⟨z, q, ys, rfl, rfl, t.elim (fun t => .inr t.2) fun t => .inl t.2, hz, k α1 H1 _ x1 ok1 (.str _)⟩
    · cases e4
theorem find_no {K : PySem.W.Frag} {α : List Addr} {H : Hp} : ∀ {ks : List (Key × D)} {vs : List (Key × V)} {k : Key}, vs.map (·.1) = ks.map (·.1) → findK ks k = none → valV vs k = none
  | [], [], k, _, _ => rfl
  | [], _ :: _, k, h, _ => by simp at h
  | (x, dx) :: ks, [], k, h, _ => by simp at h
  | (x, dx) :: ks, (y, vy) :: vs, k, h, e => by
    simp only [List.map_cons, List.cons.injEq] at h
    obtain ⟨rfl, h⟩ := h
    unfold findK at e
    unfold valV
    rw [List.find?_cons] at e ⊢
    by_cases c : y = k
    · simp [c] at e
    · simp only [c, decide_false] at e ⊢
      exact find_no (K := K) (α := α) (H := H) h e
theorem xe_getd {k : Nat} {apos cpos : Pos} (hr : RoomG k X.A) (ha : PE X a (tr X.K Γ ca)) (hb : PE X b (tr X.K Γ cb)) (hc : PE X c (tr X.K Γ cc)) (m : M2 X a "get" apos b c cpos) :
    PE X (.Call (.Attribute a "get" apos) [b, c] [] cpos) (tr X.K Γ (.getd ca cb cc)) :=
  pe_w (pe_dget2 (by have := un_of hr; omega) ha hb hc m) fun σ H Q ⟨α, env, S, d, S', ok, en, e, k⟩ => by
    simp only [ev, Option.bind_eq_some_iff] at e
    obtain ⟨⟨d1, S1⟩, e1, e2⟩ := e
    split at e2
    · rename_i hd
      simp only [Option.bind_eq_some_iff] at e2
      obtain ⟨⟨d2, S2⟩, e2, ⟨d3, S3⟩, e3, e4⟩ := e2
      refine ⟨α, env, S, d1, S1, ok, en, e1, fun α1 H1 v1 x1 ok1 r1 => ?_⟩
      cases d1 with
      | ref m =>
        have hd2 : ∃ ks, S1[m]? = some (.dct ks) := by
          simp only [isDct] at hd
          split at hd
          · exact ⟨_, by assumption⟩
          · cases hd
        obtain ⟨ks0, hk0⟩ := hd2
        obtain ⟨p0, vs0, rfl, e7, e8, _, _⟩ := ok1.dct hk0 r1
        refine ⟨p0, rfl, .inl ⟨vs0, .inl e8⟩, α1, env, S1, d2, S2, ok1, en.mono x1, e2, fun α2 H2 v2 x2 ok2 r2 => ⟨α2, env, S2, d3, S3, ok2, en.mono (x1.trans x2), e3, fun α3 H3 v3 x3 ok3 r3 => ?_⟩⟩
        have r1' := r1.mono (x2.trans x3)
        have r2' := r2.mono x3
        simp only [getdD] at e4
        split at e4
        · rename_i ks e5
          simp only [Option.map_eq_some_iff, Prod.mk.injEq] at e4
          obtain ⟨y, e6, rfl, rfl⟩ := e4
          obtain ⟨p, vs, ep, e9, e10, e11, e12⟩ := ok3.dct e5 r1'
          cases ep
          have ey : v2 = kV y := by
            cases d2 with
            | int i => simp only [keyD, Option.some.injEq] at e6; subst e6; cases r2; rfl
            | str z => simp only [keyD, Option.some.injEq] at e6; subst e6; cases r2; rfl
            | _ => simp [keyD] at e6
          subst ey
          refine ⟨valV vs y, DGet.k e10, ?_⟩
          cases hf : findK ks y with
          | none =>
            rw [find_no (K := X.K) (α := α3) (H := H3) e11 hf]
            rw [hf] at k
            exact k α3 H3 v3 (x1.trans (x2.trans x3)) ok3 r3
          | some dd =>
            obtain ⟨v, e13, r4⟩ := find_of e11 e12 hf
            rw [e13]
            rw [hf] at k
            exact k α3 H3 v (x1.trans (x2.trans x3)) ok3 r4
        · cases e4
      | _ => simp [isDct] at hd
    · cases e2
end
end Ix

namespace Ix
open PySem PySem.Spec PyProof.Rows L2
/-! ### while, signs of texts, keys of written dicts -/
section
variable {X : Cx} {Γ : Fs} {a b : Expr} {ca cb : E} {pos p : Pos}
theorem loopW_succ {test : Sl → Hd → Option (Bool × Hd)} {body : Sl → Hd → Option (Out × Sl × Hd)} {n : Nat} {env : Sl} {S : Hd} : loopW test body (n + 1) env S = (test env S).bind fun t => if t.1 = true then (body env t.2).bind fun r => match r.1 with
    | .brk => some (.nx, r.2)
    | .ret x => some (.ret x, r.2)
    | _ => loopW test body n r.2.1 r.2.2
    else some (.nx, env, t.2) := rfl
theorem xs_while {body : List Stmt} {cc : E} {c1 : Sx} {c : Expr} (hp : PassesOwn (model X.prog X.w) X.A X.env X.xe) (hc : PT X c (trT X.K Γ cc)) (hb : PSs X body (trS X.K Γ c1)) : PS X (.While c body [] pos) (trS X.K Γ (.while_ cc c1)) :=
  ps_w (ps_while hp hc hb) fun D σ H ⟨α, env, S, o, env', S', ok, en, e, kn⟩ => by
    simp only [ex] at e
    refine ⟨fun m σ1 H1 => ∃ α1 env1 S1, Ok X.K α1 S1 H1 ∧ En X.K α1 H1 env1 σ1 ∧ Xt X.K α H α1 H1 ∧ loopW (fun e S1 => tst (ev Γ cc e S1)) (fun e S1 => ex Γ c1 e S1) m env1 S1 = some (o, env', S'), ⟨most, α, env, S, ok, en, Xt.refl, e⟩, ?_⟩
    rintro m σ1 H1 ⟨α1, env1, S1, ok1, en1, x1, lp⟩
    cases m with
    | zero => simp [loopW] at lp
    | succ m =>
      rw [loopW_succ] at lp
      simp only [Option.bind_eq_some_iff] at lp
      obtain ⟨⟨t, S2⟩, e1, e2⟩ := lp
      refine ⟨α1, env1, S1, t, S2, ok1, en1, e1, fun α2 H2 x2 ok2 => ?_⟩
      cases t with
      | false =>
        rw [if_neg Bool.false_ne_true] at e2 ⊢
        simp only [Option.some.injEq, Prod.mk.injEq] at e2
        obtain ⟨rfl, rfl, rfl⟩ := e2
        exact kn α2 H2 (x1.trans x2) ok2 σ1 (en1.mono x2)
      | true =>
        rw [if_pos rfl] at e2 ⊢
        simp only [Option.bind_eq_some_iff] at e2
        obtain ⟨⟨o3, env3, S3⟩, e3, e4⟩ := e2
        refine ⟨fun σ4 H4 => ∃ α4 env4 S4, Ok X.K α4 S4 H4 ∧ En X.K α4 H4 env4 σ4 ∧ Xt X.K α H α4 H4 ∧ loopW (fun e S1 => tst (ev Γ cc e S1)) (fun e S1 => ex Γ c1 e S1) m env4 S4 = some (o, env', S'), fun σ4 H4 w => ⟨m, Nat.lt_succ_self m, w⟩, ?_⟩
        refine ⟨α2, env1, S2, o3, env3, S3, ok2, en1.mono x2, e3, fun α5 H5 x5 ok5 => ?_⟩
        have xx := x1.trans (x2.trans x5)
        cases o3 with
        | nx => exact fun σ5 en5 => ⟨α5, env3, S3, ok5, en5, xx, e4⟩
        | cont => exact fun σ5 en5 => ⟨α5, env3, S3, ok5, en5, xx, e4⟩
        | brk =>
          simp only [Option.some.injEq, Prod.mk.injEq] at e4
          obtain ⟨rfl, rfl, rfl⟩ := e4
          exact kn α5 H5 xx ok5
        | ret d =>
          simp only [Option.some.injEq, Prod.mk.injEq] at e4
          obtain ⟨rfl, rfl, rfl⟩ := e4
          exact kn α5 H5 xx ok5
theorem w_cin {x : Str} {t : List (Str × D)} {f : Addr} {es : Array DictEntry} {n : Nat} (hz : ∀ z, ∃ r, PySem.W.nsIn X.K f z = some r ∧ r.isSome = (lookC t z).isSome) {σ : L2.St} {H : Hp} {Q : VK} (h : tr X.K Γ (.cin false t cb) σ H Q) :
    tOp (fun x y H Q => ∃ (z : Str) (r : Option Value), x = .str z ∧ y = .ref f ∧ PySem.W.nsIn X.K f z = some r ∧ Q (.bl r.isSome) H) (tr X.K Γ cb) (tC (.ref f)) σ H Q := by
  obtain ⟨α, env, S, d, S', ok, en, e, k⟩ := h
  simp only [ev, Option.bind_eq_some_iff] at e
  obtain ⟨⟨d1, S1⟩, e1, e2⟩ := e
  refine ⟨α, env, S, d1, S1, ok, en, e1, fun α1 H1 v1 x1 ok1 r1 => ?_⟩
  cases d1 with
  | str z =>
    simp only [Option.some.injEq, Prod.mk.injEq] at e2
    obtain ⟨rfl, rfl⟩ := e2
    obtain ⟨r, h1, h2⟩ := hz z
    cases r1
    refine ⟨z, r, rfl, rfl, h1, ?_⟩
    rw [h2]
    exact k α1 H1 _ x1 ok1 (.bl _)
  | _ => simp at e2
theorem w_notcin {x : Str} {t : List (Str × D)} {f : Addr} {es : Array DictEntry} {n : Nat} (hz : ∀ z, ∃ r, PySem.W.nsIn X.K f z = some r ∧ r.isSome = (lookC t z).isSome) {σ : L2.St} {H : Hp} {Q : VK} (h : tr X.K Γ (.cin true t cb) σ H Q) :
    tOp (fun x y H Q => ∃ (z : Str) (r : Option Value), x = .str z ∧ y = .ref f ∧ PySem.W.nsIn X.K f z = some r ∧ Q (.bl (!r.isSome)) H) (tr X.K Γ cb) (tC (.ref f)) σ H Q := by
  obtain ⟨α, env, S, d, S', ok, en, e, k⟩ := h
  simp only [ev, Option.bind_eq_some_iff] at e
  obtain ⟨⟨d1, S1⟩, e1, e2⟩ := e
  refine ⟨α, env, S, d1, S1, ok, en, e1, fun α1 H1 v1 x1 ok1 r1 => ?_⟩
  cases d1 with
  | str z =>
    simp only [Option.some.injEq, Prod.mk.injEq] at e2
    obtain ⟨rfl, rfl⟩ := e2
    obtain ⟨r, h1, h2⟩ := hz z
    cases r1
    refine ⟨z, r, rfl, rfl, h1, ?_⟩
    rw [h2]
    exact k α1 H1 _ x1 ok1 (.bl _)
  | _ => simp at e2
theorem cin_bl {neg : Bool} {t : List (Str × D)} {env : Sl} {S S' : Hd} {d : D} (e : ev Γ (.cin neg t cb) env S = some (d, S')) : ∃ b, d = .bl b := by
  simp only [ev, Option.bind_eq_some_iff] at e
  obtain ⟨⟨d1, S1⟩, e1, e2⟩ := e
  cases d1 with
  | str z =>
    simp only [Option.some.injEq, Prod.mk.injEq] at e2
    exact ⟨_, e2.1.symm⟩
  | _ => simp at e2
/-- x in a written dict -/
theorem xe_cin {x : Str} {t : List (Str × D)} {f : Addr} (hg : Gl X x) (hm : X.mg x = some (.ref f)) (hk : Kn X.K X.w f t) (hb : PE X b (tr X.K Γ cb)) (hd : (x == ("__debug__" : Str)) = false := by decide) (hmk : behindInMarks .In (.Name x p) = false := by rfl) :
    PE X (.Compare b [.In] [.Name x p] pos) (tr X.K Γ (.cin false t cb)) := by
  obtain ⟨es, n, D, hz⟩ := hk
  exact pe_w (pe_cmpR (op_in_kd D) hb (pe_glob (v := .ref f) hg hm rfl hd) hmk) fun σ H Q h => w_cin (x := x) (es := es) (n := n) hz h
theorem xe_notcin {x : Str} {t : List (Str × D)} {f : Addr} (hg : Gl X x) (hm : X.mg x = some (.ref f)) (hk : Kn X.K X.w f t) (hb : PE X b (tr X.K Γ cb)) (hd : (x == ("__debug__" : Str)) = false := by decide) (hmk : behindInMarks .NotIn (.Name x p) = false := by rfl) :
    PE X (.Compare b [.NotIn] [.Name x p] pos) (tr X.K Γ (.cin true t cb)) := by
  obtain ⟨es, n, D, hz⟩ := hk
  exact pe_w (pe_cmpR (op_notIn_kd D) hb (pe_glob (v := .ref f) hg hm rfl hd) hmk) fun σ H Q h => w_notcin (x := x) (es := es) (n := n) hz h
theorem xt_cin {x : Str} {t : List (Str × D)} {f : Addr} (hg : Gl X x) (hm : X.mg x = some (.ref f)) (hk : Kn X.K X.w f t) (hb : PE X b (tr X.K Γ cb)) (hd : (x == ("__debug__" : Str)) = false := by decide) (hmk : behindInMarks .In (.Name x p) = false := by rfl) :
    PT X (.Compare b [.In] [.Name x p] pos) (trT X.K Γ (.cin false t cb)) := by
  obtain ⟨es, n, D, hz⟩ := hk
  exact pt_w (pt_cmpR (op_in_kd D) hb (pe_glob (v := .ref f) hg hm rfl hd) hmk) fun σ H Q h => w_test (fun _ _ _ _ e => cin_bl e) (fun σ H Q h => w_cin (x := x) (es := es) (n := n) hz h) h
theorem xt_notcin {x : Str} {t : List (Str × D)} {f : Addr} (hg : Gl X x) (hm : X.mg x = some (.ref f)) (hk : Kn X.K X.w f t) (hb : PE X b (tr X.K Γ cb)) (hd : (x == ("__debug__" : Str)) = false := by decide) (hmk : behindInMarks .NotIn (.Name x p) = false := by rfl) :
    PT X (.Compare b [.NotIn] [.Name x p] pos) (trT X.K Γ (.cin true t cb)) := by
  obtain ⟨es, n, D, hz⟩ := hk
  exact pt_w (pt_cmpR (op_notIn_kd D) hb (pe_glob (v := .ref f) hg hm rfl hd) hmk) fun σ H Q h => w_test (fun _ _ _ _ e => cin_bl e) (fun σ H Q h => w_notcin (x := x) (es := es) (n := n) hz h) h
/-- a sign in a text -/
theorem xe_sgn (ha : PE X a (tr X.K Γ ca)) (hb : PE X b (tr X.K Γ cb)) (hmk : behindInMarks .In b = false := by rfl) : PE X (.Compare a [.In] [b] pos) (tr X.K Γ (.sgn ca cb)) :=
  pe_w (pe_cmpR op_in_sign ha hb hmk) fun σ H Q ⟨α, env, S, d, S', ok, en, e, k⟩ => by
    simp only [ev, Option.bind_eq_some_iff] at e
    obtain ⟨⟨d1, S1⟩, e1, ⟨d2, S2⟩, e2, e3⟩ := e
    refine ⟨α, env, S, d1, S1, ok, en, e1, fun α1 H1 v1 x1 ok1 r1 => ⟨α1, env, S1, d2, S2, ok1, en.mono x1, e2, fun α2 H2 v2 x2 ok2 r2 => ?_⟩⟩
    have r1' := r1.mono x2
    cases d1 with
    | str u =>
      cases d2 with
      | str z =>
        simp only at e3
        split at e3
        · rename_i hs
          simp only [Option.some.injEq, Prod.mk.injEq] at e3
          obtain ⟨rfl, rfl⟩ := e3
          cases r1'
          cases r2
          have eu : u = ⟨#[u.cps.getD 0 0]⟩ := by
            obtain ⟨⟨l⟩⟩ := u
            match l, hs with
            | [c], _ => rfl
          exact ⟨u.cps.getD 0 0, z, by rw [← eu], rfl, k α2 H2 _ (x1.trans x2) ok2 (.bl _)⟩
        · cases e3
      | _ => simp at e3
    | _ => simp at e3
theorem xe_stw {apos : Pos} {z : Str} {j : Nat} {p2 : Pos} (ha : PE X a (tr X.K Γ ca)) (hs : starEach [(.Constant (.str z) j p2 : Expr)] X.env = [(false, eval (.Constant (.str z) j p2) X.env)] := by rfl)
    (hbase : attributeBase a "startswith" X.env (eval a X.env) = eval a X.env := by rfl) (hline : (apos.endLine == pos.line) = true := by rfl) :
    PE X (.Call (.Attribute a "startswith" apos) [.Constant (.str z) j p2] [] pos) (tr X.K Γ (.stw ca z)) :=
  pe_w (pe_m1 F.slot_str_startswith F.type_str_startswith mt_startswith ha pe_str hs hbase hline) fun σ H Q ⟨α, env, S, d, S', ok, en, e, k⟩ => by
    simp only [ev, Option.bind_eq_some_iff] at e
    obtain ⟨⟨d1, S1⟩, e1, e2⟩ := e
    refine ⟨α, env, S, d1, S1, ok, en, e1, fun α1 H1 v1 x1 ok1 r1 => ?_⟩
    cases d1 with
    | str u =>
      simp only [Option.some.injEq, Prod.mk.injEq] at e2
      obtain ⟨rfl, rfl⟩ := e2
      cases r1
      exact ⟨⟨u, rfl⟩, u, z, rfl, rfl, k α1 H1 _ x1 ok1 (.bl _)⟩
    | _ => simp at e2
theorem strs_rps {K : PySem.W.Frag} {α : List Addr} {H : Hp} : ∀ ys : List Str, Rps K α H (ys.map D.str) (ys.map V.str)
  | [] => Rps.nil
  | y :: ys => Rps.cons (.str y) (strs_rps ys)
theorem xe_split {apos : Pos} {z : Str} {j : Nat} {p2 : Pos} (ha : PE X a (tr X.K Γ ca)) (hs : starEach [(.Constant (.str z) j p2 : Expr)] X.env = [(false, eval (.Constant (.str z) j p2) X.env)] := by rfl)
    (hbase : attributeBase a "split" X.env (eval a X.env) = eval a X.env := by rfl) (hline : (apos.endLine == pos.line) = true := by rfl) :
    PE X (.Call (.Attribute a "split" apos) [.Constant (.str z) j p2] [] pos) (tr X.K Γ (.split ca z)) :=
  pe_w (pe_split ha pe_str hs hbase hline) fun σ H Q ⟨α, env, S, d, S', ok, en, e, k⟩ => by
    simp only [ev, Option.bind_eq_some_iff] at e
    obtain ⟨⟨d1, S1⟩, e1, e2⟩ := e
    refine ⟨α, env, S, d1, S1, ok, en, e1, fun α1 H1 v1 x1 ok1 r1 => ?_⟩
    cases d1 with
    | str u =>
      simp only at e2
      split at e2
      · rename_i hc
        simp only [Option.some.injEq, alloc, Prod.mk.injEq] at e2
        obtain ⟨rfl, rfl⟩ := e2
        cases r1
        refine ⟨⟨u, rfl⟩, u, z, rfl, rfl, hc.1, Nat.le_trans (Nat.add_le_add_right hc.2.1 2) (by decide), fun q hq => ?_⟩
        exact go_new ok1 hq (strs_rps _) fun α2 H2 v2 x2 ok2 r2 => k α2 H2 v2 (x1.trans x2) ok2 r2
      · cases e2
    | _ => simp at e2
theorem b_slen : CallR X (.builtin "len") (rA X.K (bltD .slen)) := by
  intro pins s σ H xs us Q I r ⟨α, S, ds, d, S', ok, rs, e, k⟩
  match ds, e with
  | [x], e =>
    obtain ⟨v, rfl, r1⟩ := rs.one'
    cases x with
    | str z =>
      simp only [bltD] at e
      split at e
      · rename_i hz
        simp only [Option.some.injEq, Prod.mk.injEq] at e
        obtain ⟨rfl, rfl⟩ := e
        cases r1
        exact call_len_str pins s σ H _ us Q I r ⟨z, rfl, most_line hz, k α H _ Xt.refl ok (.int _)⟩
      · cases e
    | _ => simp [bltD] at e
  | [], e => simp [bltD] at e
  | x :: _ :: _, e => cases x <;> simp [bltD] at e
theorem b_sint : CallR X (.type "int") (rA X.K (bltD .sint)) := by
  intro pins s σ H xs us Q I r ⟨α, S, ds, d, S', ok, rs, e, k⟩
  match ds, e with
  | [x], e =>
    obtain ⟨v, rfl, r1⟩ := rs.one'
    cases x with
    | str z =>
      simp only [bltD] at e
      split at e
      · rename_i hz
        simp only [Option.map_eq_some_iff, Prod.mk.injEq] at e
        obtain ⟨n, h1, rfl, rfl⟩ := e
        cases r1
        exact call_int_str pins s σ H _ us Q I r ⟨z, n, rfl, h1, hz, k α H _ Xt.refl ok (.int _)⟩
      · cases e
    | _ => simp [bltD] at e
  | [], e => simp [bltD] at e
  | x :: _ :: _, e => cases x <;> simp [bltD] at e
theorem xi_chars {tg e : Expr} {c : E} (h : PE X e (tr X.K Γ c)) : PI X tg e (trI X.K Γ .chars (.cons c .nil)) := by
  refine ⟨fun pins s σ H R I ⟨α, env, S, ds, S', its, ok, en, e1, e2, k⟩ => ?_⟩
  simp only [ev, Option.bind_eq_some_iff, Option.map_eq_some_iff, Option.some.injEq, Prod.mk.injEq, D.tup.injEq] at e1
  obtain ⟨⟨d, S1⟩, e1, _, rfl, dr, e3, rfl, rfl⟩ := e1
  cases argsOf_some e3
  cases d with
  | str z =>
    simp only [items, Option.some.injEq] at e2
    subst e2
    refine (pi_str h).run pins s σ H R I ⟨α, env, S, .str z, S1, ok, en, e1, fun α1 H1 v x1 ok1 r1 => ?_⟩
    cases r1
    have hw : Walk (Its z) (z.cps.toList.map fun c => D.str ⟨#[c]⟩).length (fun _ => True) (fun i H v H' => H' = H ∧ ∃ c, z.cps[i]? = some c ∧ v = .str ⟨#[c]⟩) := by
      rw [List.length_map, Array.length_toList]
      exact walk_str
    refine ⟨z, rfl, k α1 H1 _ _ _ x1 ok1 hw (fun α2 S2 H2 x2 ok2 e4 => trivial) fun i α2 S2 H2 x H3 x2 ok2 e4 hi ⟨y1, c, y2, y3⟩ => ?_⟩
    subst y1 y3
    refine ⟨.str ⟨#[c]⟩, ?_, Xt.refl, ok2, .str _⟩
    rw [List.getElem?_map, Array.getElem?_toList, y2]
    rfl
  | _ => simp [items] at e2
end
end Ix

namespace Ix
open PySem L2
/-! ### what a result is to satisfy -/
def M {β : Type} (r : Option β) (Q : β → Prop) : Prop := ∃ a, r = some a ∧ Q a
theorem M_some {β : Type} {a : β} {Q : β → Prop} : M (some a) Q = Q a := propext ⟨fun ⟨_, e, q⟩ => by cases e; exact q, fun q => ⟨a, rfl, q⟩⟩
theorem M_none {β : Type} {Q : β → Prop} : M (none : Option β) Q = False := propext ⟨fun ⟨_, e, _⟩ => (by cases e), False.elim⟩
theorem M_bind {β γ : Type} {r : Option β} {f : β → Option γ} {Q : γ → Prop} : M (r.bind f) Q = M r (fun a => M (f a) Q) := propext (by
  cases r with
  | none => exact ⟨fun ⟨_, e, _⟩ => (by cases e), fun ⟨_, e, _⟩ => (by cases e)⟩
  | some a => exact ⟨fun h => ⟨a, rfl, h⟩, fun ⟨_, e, h⟩ => by cases e; exact h⟩)
theorem M_map {β γ : Type} {r : Option β} {f : β → γ} {Q : γ → Prop} : M (r.map f) Q = M r (fun a => Q (f a)) := propext (by
  cases r with
  | none => exact ⟨fun ⟨_, e, _⟩ => (by cases e), fun ⟨_, e, _⟩ => (by cases e)⟩
  | some a => exact ⟨fun ⟨_, e, h⟩ => ⟨a, rfl, by cases e; exact h⟩, fun ⟨_, e, h⟩ => ⟨_, rfl, by cases e; exact h⟩⟩)
theorem M_ite {β : Type} {c : Prop} [Decidable c] {a b : Option β} {Q : β → Prop} : M (if c then a else b) Q = if c then M a Q else M b Q := by split <;> rfl
theorem M.imp {β : Type} {r : Option β} {P Q : β → Prop} (h : M r P) (k : ∀ a, P a → Q a) : M r Q := let ⟨a, e, p⟩ := h; ⟨a, e, k a p⟩
theorem run_M {T : Nat → Option Fd} {n f : Nat} {F : Fd} {ds : List D} {S : Hd} {Q : D × Hd → Prop} (hT : T f = some F) (hl : ds.length = F.np) (h : M (ex (run T n) F.body (ds.map some ++ List.replicate (F.m - ds.length) none) S) fun r => M (outD (some r)) Q) : M (run T (n + 1) f ds S) Q := by
  simp only [run_step, hT, Option.bind_some]
  rw [if_pos hl]
  obtain ⟨r, e, q⟩ := h
  rw [e]
  exact q
/-- S' keeps what S has, but for the cell p -/
def Le (p : Nat) (S S' : Hd) : Prop := ∀ (k : Nat) (o : O), k ≠ p → S[k]? = some o → S'[k]? = some o
def Lq (S S' : Hd) : Prop := ∀ (k : Nat) (o : O), S[k]? = some o → S'[k]? = some o
theorem Lq.refl (S : Hd) : Lq S S := fun _ _ h => h
theorem Lq.trans {S1 S2 S3 : Hd} (a : Lq S1 S2) (b : Lq S2 S3) : Lq S1 S3 := fun k o h => b k o (a k o h)
theorem Le.refl (p : Nat) (S : Hd) : Le p S S := fun _ _ _ h => h
theorem Le.trans {p : Nat} {S1 S2 S3 : Hd} (a : Le p S1 S2) (b : Le p S2 S3) : Le p S1 S3 := fun k o n h => b k o n (a k o n h)
theorem Lq.le {p : Nat} {S S' : Hd} (a : Lq S S') : Le p S S' := fun k o _ h => a k o h
theorem Lq.app (S T : Hd) : Lq S (S ++ T) := fun k o h => by rw [List.getElem?_append_left (List.getElem?_eq_some_iff.mp h).1]; exact h
theorem Le.app (p : Nat) (S T : Hd) : Le p S (S ++ T) := (Lq.app S T).le
theorem Le.set (p : Nat) (S : Hd) (o : O) : Le p S (S.set p o) := fun k u n h => by rw [List.getElem?_set_ne (fun e => n e.symm)]; exact h
/-- the pot at p -/
def Pot (p : Nat) (S : Hd) : Prop := ∃ q : Int, S[p]? = some (.lst [.int q])
theorem Pot.app {p : Nat} {S : Hd} (h : Pot p S) (T : Hd) : Pot p (S ++ T) := let ⟨q, e⟩ := h; ⟨q, Lq.app S T p _ e⟩
theorem lt_of_get {S : Hd} {k : Nat} {o : O} (h : S[k]? = some o) : k < S.length := (List.getElem?_eq_some_iff.mp h).1
end Ix

namespace Ix
open PySem L2
/-! ### the operations on known values -/
section
variable {S : Hd} {i j : Int} {x y d : D} {xs ys : List D} {k : Nat}
theorem q_add : binD .add (.int i) (.int j) S = some (.int (i + j), S) := rfl
theorem q_sub : binD .sub (.int i) (.int j) S = some (.int (i - j), S) := rfl
theorem q_mod (h : 0 < j) : binD .mod (.int i) (.int j) S = some (.int (i % j), S) := if_pos h
theorem q_addT (h : xs.length + ys.length ≤ most) : binD .add (.tup xs) (.tup ys) S = some (.tup (xs ++ ys), S) := if_pos h
theorem q_addL {a b : Nat} (h1 : S[a]? = some (.lst xs)) (h2 : S[b]? = some (.lst ys)) (h : xs.length + ys.length ≤ most) : binD .add (.ref a) (.ref b) S = some (alloc S (xs ++ ys)) := by
  simp only [binD, h1, h2]
  exact if_pos h
theorem q_addR {b : Nat} {ns : List Int} (h2 : S[b]? = some (.lst ys)) (h : ns.length + ys.length ≤ most) : binD .add (.ro ns) (.ref b) S = some (alloc S (ns.map .int ++ ys)) := by
  have e : binD .add (.ro ns) (.ref b) S = match S[b]? with
    | some (.lst ys) => if ns.length + ys.length ≤ most then some (alloc S (ns.map .int ++ ys)) else none
    | _ => none := rfl
  rw [e, h2]
  exact if_pos h
theorem q_mulW (h : i.natAbs.log2 + j.natAbs.log2 < 1000000) : binD .mul (.int i) (.int j) S = some (.int (i * j), S) := if_pos h
theorem log2_le {n : Nat} (m : Nat) (h : n < 2 ^ m) (h0 : 0 < m) : n.log2 < m := PySem.Flt.log2_lt_of h0 h
theorem q_mul (h1 : -(2 ^ 64) < i) (h2 : i < 2 ^ 64) (h3 : -(2 ^ 64) < j) (h4 : j < 2 ^ 64) : binD .mul (.int i) (.int j) S = some (.int (i * j), S) := q_mulW (by
  have a := log2_le (n := i.natAbs) 64 (by omega) (by decide)
  have b := log2_le (n := j.natAbs) 64 (by omega) (by decide)
  omega)
theorem q_fdivW (h : 0 < j) (h2 : j.natAbs.log2 < 9000) : binD .fdiv (.int i) (.int j) S = some (.int (i / j), S) := if_pos ⟨h, h2⟩
theorem q_fdiv (h : 0 < j) (h2 : j < 2 ^ 64) : binD .fdiv (.int i) (.int j) S = some (.int (i / j), S) := q_fdivW h (by
  have a := log2_le (n := j.natAbs) 64 (by omega) (by decide)
  omega)
theorem q_pow (h : 0 ≤ j) (h1 : j ≤ 1000000) (h2 : i.natAbs < 2 ^ 64) : binD .pow (.int i) (.int j) S = some (.int (i ^ j.toNat), S) := if_pos ⟨h, h1, h2⟩
theorem q_lt : cmpD .lt (.int i) (.int j) S = some (.bl (decide (i < j)), S) := rfl
theorem q_le : cmpD .le (.int i) (.int j) S = some (.bl (decide (i ≤ j)), S) := rfl
theorem q_gt : cmpD .gt (.int i) (.int j) S = some (.bl (decide (j < i)), S) := rfl
theorem q_ge : cmpD .ge (.int i) (.int j) S = some (.bl (decide (j ≤ i)), S) := rfl
theorem q_eqI : cmpD .eq (.int i) (.int j) S = some (.bl (decide (i = j)), S) := rfl
theorem q_neI : cmpD .ne (.int i) (.int j) S = some (.bl (!decide (i = j)), S) := rfl
theorem q_eqB {b c : Bool} : cmpD .eq (.bl b) (.bl c) S = some (.bl (decide (b = c)), S) := rfl
theorem q_neB {b c : Bool} : cmpD .ne (.bl b) (.bl c) S = some (.bl (!decide (b = c)), S) := rfl
theorem q_eqS {b c : Str} : cmpD .eq (.str b) (.str c) S = some (.bl (decide (b = c)), S) := rfl
theorem q_isN : cmpD .is_ x .non S = some (.bl (isNon x), S) := by cases x <;> rfl
theorem q_notN : cmpD .isnot x .non S = some (.bl (!isNon x), S) := by cases x <;> rfl
theorem q_isB {b c : Bool} : cmpD .is_ (.bl b) (.bl c) S = some (.bl (decide (b = c)), S) := rfl
theorem q_notB {b c : Bool} : cmpD .isnot (.bl b) (.bl c) S = some (.bl (!decide (b = c)), S) := rfl
theorem q_in (h1 : flat x = true) (h2 : seqOf S y = some xs) (h3 : xs.all flat = true) : cmpD .in_ x y S = some (.bl (xs.any fun z => eqF z x), S) := by
  simp only [cmpD, h1, if_true, h2, Option.bind_some, h3]
theorem q_notin (h1 : flat x = true) (h2 : seqOf S y = some xs) (h3 : xs.all flat = true) : cmpD .notin x y S = some (.bl (!xs.any fun z => eqF z x), S) := by
  simp only [cmpD, h1, if_true, h2, Option.bind_some, h3]
theorem q_seqT : seqOf S (.tup xs) = some xs := rfl
theorem q_seqR {ns : List Int} : seqOf S (.ro ns) = some (ns.map .int) := rfl
theorem q_seqL (h : S[k]? = some (.lst xs)) : seqOf S (.ref k) = some xs := by simp only [seqOf, h]
theorem q_ixT : ixD (.tup xs) (.int i) S = (atI xs i).map fun d => (d, S) := rfl
theorem q_ixR {ns : List Int} : ixD (.ro ns) (.int i) S = (atI (ns.map .int) i).map fun d => (d, S) := rfl
theorem q_ixL (h : S[k]? = some (.lst xs)) : ixD (.ref k) (.int i) S = (atI xs i).map fun d => (d, S) := by simp only [ixD, seqOf, h, Option.bind_some]
theorem atI_lt {β : Type} {xs : List β} (h0 : 0 ≤ i) (h : i < xs.length) : atI xs i = xs[i.toNat]? := by
  unfold atI ixN
  rw [if_pos h0, if_pos h]
  rfl
theorem atI_0 {β : Type} {a : β} {l : List β} : atI (a :: l) 0 = some a := by
  rw [atI_lt (by omega) (by simp)]
  rfl
theorem atI_1 {β : Type} {a b : β} {l : List β} : atI (a :: b :: l) 1 = some b := by
  rw [atI_lt (by omega) (by simp; omega)]
  rfl
theorem atI_2 {β : Type} {a b c : β} {l : List β} : atI (a :: b :: c :: l) 2 = some c := by
  rw [atI_lt (by omega) (by simp; omega)]
  rfl
theorem atI_last {β : Type} {xs : List β} (h : xs ≠ []) : atI xs (-1) = some (xs.getLast h) := by
  have hl : 0 < xs.length := List.length_pos_iff.mpr h
  unfold atI ixN
  rw [if_neg (by omega), if_pos (by omega)]
  show xs[(-1 + (xs.length : Int)).toNat]? = _
  have : (-1 + (xs.length : Int)).toNat = xs.length - 1 := by omega
  rw [this, List.getLast_eq_getElem, List.getElem?_eq_getElem (by omega)]
theorem q_slT {l h : Option Int} : slD (.tup xs) l h S = some (.tup (cutD xs l h), S) := rfl
theorem q_slL {l h : Option Int} (e : S[k]? = some (.lst xs)) : slD (.ref k) l h S = some (alloc S (cutD xs l h)) := by simp only [slD, seqOf, e, Option.map_some]
theorem q_slR {l h : Option Int} {ns : List Int} : slD (.ro ns) l h S = some (alloc S (cutD (ns.map .int) l h)) := rfl
theorem q_revT : revD (.tup xs) S = some (.tup xs.reverse, S) := rfl
theorem q_len (h : seqOf S x = some xs) : bltD .len [x] S = some (.int xs.length, S) := by simp only [bltD, h, Option.map_some]
theorem q_int : bltD .int_ [.int i] S = some (.int i, S) := rfl
theorem q_intB {b : Bool} : bltD .int_ [.bl b] S = some (.int (if b then 1 else 0), S) := rfl
theorem q_max : bltD .max_ [.int i, .int j] S = some (.int (if j > i then j else i), S) := rfl
theorem q_min : bltD .min_ [.int i, .int j] S = some (.int (if j < i then j else i), S) := rfl
theorem q_abs : bltD .abs_ [.int i] S = some (.int (if i < 0 then -i else i), S) := rfl
theorem bools_map {bs : List Bool} : bools (bs.map .bl) = some bs := by
  induction bs with
  | nil => rfl
  | cons b bs ih => simp only [List.map_cons, bools, ih, Option.map_some]
theorem q_all {bs : List Bool} (h : S[k]? = some (.lst (bs.map .bl))) : bltD .all_ [.ref k] S = some (.bl (bs.all id), S) := by
  simp only [bltD, isTup, seqOf, h, Option.bind_some, bools_map, Option.map_some, Bool.false_eq_true, if_false]
theorem q_tupT : bltD .tuple_ [.tup xs] S = some (.tup xs, S) := rfl
theorem q_tupL (h : S[k]? = some (.lst xs)) : bltD .tuple_ [.ref k] S = some (.tup xs, S) := by simp only [bltD, seqOf, h, Option.map_some]
theorem q_list (h : seqOf S x = some xs) : bltD .list_ [x] S = some (alloc S xs) := by simp only [bltD, h, Option.map_some]
theorem q_isi {c n : String} (h : plainTy c = true) (h2 : tyName S x = some n) : bltD .isi [x, .ty c] S = some (.bl (isaN n c), S) := by
  simp only [bltD, h, if_true, h2, Option.map_some]
theorem q_isiT {n : String} {cs : List D} {ts : List String} (h : tysOf cs = some ts) (h2 : tyName S x = some n) : bltD .isi [x, .tup cs] S = some (.bl (ts.any (isaN n)), S) := by
  simp only [bltD, h, Option.bind_some, h2, Option.map_some]
theorem n_tup : tyName S (.tup xs) = some "tuple" := rfl
theorem n_int : tyName S (.int i) = some "int" := rfl
theorem n_bl {b : Bool} : tyName S (.bl b) = some "bool" := rfl
theorem n_non : tyName S .non = some "NoneType" := rfl
theorem n_str {z : Str} : tyName S (.str z) = some "str" := rfl
theorem n_ref (h : S[k]? = some (.lst xs)) : tyName S (.ref k) = some "list" := by simp only [tyName, h]
theorem q_app (h : S[k]? = some (.lst xs)) (hz : xs.length < most) : methD .append (.ref k) [d] S = some (.non, S.set k (.lst (xs ++ [d]))) := by
  simp only [methD, h]
  exact if_pos hz
theorem q_isL (h : S[k]? = some (.lst xs)) : isLst S (.ref k) = true := by simp only [isLst, h]
theorem q_set {m : Nat} (h : S[k]? = some (.lst xs)) (hm : ixN xs.length i = some m) : setD (.ref k) (.int i) d S = some (S.set k (.lst (xs.set m d))) := by simp only [setD, h, hm, Option.map_some]
theorem q_push (h : S[k]? = some (.lst xs)) (hz : xs.length < most) : pushD k d S = some (S.set k (.lst (xs ++ [d]))) := by
  simp only [pushD, h]
  exact if_pos hz
theorem u_bl {b : Bool} : tru S (.bl b) = some b := rfl
theorem u_int : tru S (.int i) = some (i != 0) := rfl
theorem u_non : tru S .non = some false := rfl
theorem u_tup : tru S (.tup xs) = some (!xs.isEmpty) := rfl
theorem u_ref (h : S[k]? = some (.lst xs)) : tru S (.ref k) = some (!xs.isEmpty) := by simp only [tru, seqOf, h, Option.map_some]
theorem g_name {i : Nat} {env : Sl} : asgG (.name i) d env = some (env.set i (some d)) := rfl
theorem g_tup {g : G} {env : Sl} : asgG (.tup g) (.tup xs) env = asgG g (.tup xs) env := rfl
theorem g_nil {env : Sl} : asgG .nil (.tup []) env = some env := rfl
theorem g_cons {g h : G} {env : Sl} : asgG (.cons g h) (.tup (d :: xs)) env = (asgG g d env).bind fun e => asgG h (.tup xs) e := rfl
theorem a_tup : argsOf (.tup xs) = some xs := rfl
theorem t_eq (r : Option (D × Hd)) : tst r = r.bind fun x => (tru x.2 x.1).map fun b => (b, x.2) := rfl
theorem al_eq : alloc S xs = (.ref S.length, S ++ [.lst xs]) := rfl
theorem o_ret {env : Sl} : outD (some (.ret d, env, S)) = some (d, S) := rfl
theorem o_nx {env : Sl} : outD (some (.nx, env, S)) = some (.non, S) := rfl
theorem i_seq : items .seq [x] S = seqOf S x := rfl
theorem i_rng (h1 : -(2 ^ 62) ≤ i) (h2 : i < 2 ^ 62) : items .range1 [.int i] S = some ((List.range i.toNat).map fun (m : Nat) => .int (0 + (m : Int))) := if_pos ⟨h1, h2⟩
end
/-! ### loops -/
open Classical in
theorem M_loopS {turn : D → Sl → Hd → Option (Out × Sl × Hd)} {still : Hd → Prop} {Q : Out × Sl × Hd → Prop} (I : Nat → Sl → Hd → Prop) : ∀ {its : List D} {m : Nat} {env : Sl} {S : Hd}, I m env S →
    (∀ (i : Nat) (d : D) (env : Sl) (S : Hd), its[i]? = some d → I (m + i) env S → M (turn d env S) fun r => match r.1 with
      | .brk => Q (.nx, r.2)
      | .ret x => Q (.ret x, r.2)
      | _ => still r.2.2 ∧ I (m + i + 1) r.2.1 r.2.2) →
    (∀ env S, I (m + its.length) env S → Q (.nx, env, S)) → M (loopS turn still its env S) Q
  | [], m, env, S, h0, hs, hd => by
    simp only [loopS, M_some]
    exact hd env S h0
  | d :: ds, m, env, S, h0, hs, hd => by
    simp only [loopS, M_bind]
    refine (hs 0 d env S rfl h0).imp fun r h => ?_
    obtain ⟨o, env1, S1⟩ := r
    have go : still S1 ∧ I (m + 0 + 1) env1 S1 → M (if still S1 then loopS turn still ds env1 S1 else none) Q := fun ⟨a, b⟩ => by
      rw [if_pos a]
      refine M_loopS I (m := m + 1) b (fun i d env S h1 h2 => ?_) fun env S h => hd env S ?_
      · have := hs (i + 1) d env S (by simpa using h1) (by rw [show m + (i + 1) = m + 1 + i by omega]; exact h2)
        refine this.imp fun r h => ?_
        rw [show m + 1 + i + 1 = m + (i + 1) + 1 by omega]
        exact h
      · rw [List.length_cons, show m + (ds.length + 1) = m + 1 + ds.length by omega]
        exact h
    cases o with
    | nx => exact go h
    | cont => exact go h
    | brk => simp only [M_some]; exact h
    | ret x => simp only [M_some]; exact h
open Classical in
theorem M_loopH {turn : D → Hd → Option Hd} {still : Hd → Prop} {Q : Hd → Prop} (I : Nat → Hd → Prop) : ∀ {its : List D} {m : Nat} {S : Hd}, I m S →
    (∀ (i : Nat) (d : D) (S : Hd), its[i]? = some d → I (m + i) S → M (turn d S) fun S1 => still S1 ∧ I (m + i + 1) S1) →
    (∀ S, I (m + its.length) S → Q S) → M (loopH turn still its S) Q
  | [], m, S, h0, hs, hd => by
    simp only [loopH, M_some]
    exact hd S h0
  | d :: ds, m, S, h0, hs, hd => by
    simp only [loopH, M_bind]
    refine (hs 0 d S rfl h0).imp fun S1 ⟨a, b⟩ => ?_
    rw [if_pos a]
    refine M_loopH I (m := m + 1) b (fun i d S h1 h2 => ?_) fun S h => hd S ?_
    · have := hs (i + 1) d S (by simpa using h1) (by rw [show m + (i + 1) = m + 1 + i by omega]; exact h2)
      refine this.imp fun r h => ?_
      rw [show m + 1 + i + 1 = m + (i + 1) + 1 by omega]
      exact h
    · rw [List.length_cons, show m + (ds.length + 1) = m + 1 + ds.length by omega]
      exact h
/-- a comprehension whose elements change nothing that stands: v tells each item's value -/
theorem M_lc {Γ : Fs} {k : Ik} {cs ce : E} {g : G} {own : List Nat} {env : Sl} {S S1 : Hd} {ds its : List D} {Q : D × Hd → Prop} (v : Nat → D) (ho : gOk own g = true) (h1 : ev Γ cs env S = some (.tup ds, S1)) (h2 : items k ds S1 = some its) (hz : its.length < most)
    (he : ∀ (i : Nat) (d : D) (S2 : Hd), its[i]? = some d → Lq S1 S2 → ∃ env1, asgG g d (wipeD env own) = some env1 ∧ M (ev Γ ce env1 S2) fun r => r.1 = v i ∧ Lq S2 r.2)
    (hit : ∀ S2, Lq S1 S2 → items k ds S2 = some its)
    (hq : ∀ (j : Nat) (S2 : Hd), S1.length ≤ j → S2[j]? = some (.lst ((List.range its.length).map v)) → Lq S1 S2 → Q (.ref j, S2)) : M (ev Γ (.lc k cs g (.c (.bl true)) ce own) env S) Q := by
  simp only [ev, ho, if_true, h1, Option.bind_some, argsOf, h2, M_map]
  refine M_loopH (fun i S2 => S2[S1.length]? = some (.lst ((List.range i).map v)) ∧ Lq S1 S2) (m := 0) ⟨by simp, Lq.app _ _⟩ (fun i d S2 hi ⟨a, b⟩ => ?_) fun S2 ⟨a, b⟩ => ?_
  · obtain ⟨env1, e1, m1⟩ := he i d S2 hi b
    simp only [e1, Option.bind_some, tst, tru, Option.map_some, if_true, M_bind]
    refine m1.imp fun r ⟨e2, l2⟩ => ?_
    have hlt : i < its.length := (List.getElem?_eq_some_iff.mp hi).1
    rw [q_push (l2 _ _ a) (by simp; omega), M_some]
    have l3 : Lq S1 (r.2.set S1.length (.lst (((List.range (0 + i)).map v) ++ [r.1]))) := fun k' o h => by
      rw [List.getElem?_set_ne (by have := lt_of_get h; omega)]
      exact l2 _ _ (b _ _ h)
    refine ⟨hit _ l3, ?_, l3⟩
    rw [List.getElem?_set_self (lt_of_get (l2 _ _ a)), e2, Nat.zero_add, List.range_succ, List.map_append]
    rfl
  · rw [Nat.zero_add] at a
    exact hq _ S2 (Nat.le_refl _) a b
end Ix

namespace Ix
open PySem L2
theorem seq_M {Γ : Fs} {s t : Sx} {env : Sl} {S : Hd} {Q : Out × Sl × Hd → Prop} (P : Sl → Hd → Prop) (h : M (ex Γ s env S) fun r => r.1 = .nx ∧ P r.2.1 r.2.2) (k : ∀ env S, P env S → M (ex Γ t env S) Q) : M (ex Γ (.seq s t) env S) Q := by
  simp only [ex, M_bind]
  refine h.imp fun r ⟨e, p⟩ => ?_
  rw [e]
  exact k _ _ p
theorem seq_Mx {Γ : Fs} {s t : Sx} {env : Sl} {S : Hd} {Q : Out × Sl × Hd → Prop} (h : M (ex Γ s env S) fun r => match r.1 with
    | .nx => M (ex Γ t r.2.1 r.2.2) Q
    | _ => Q r) : M (ex Γ (.seq s t) env S) Q := by
  simp only [ex, M_bind]
  refine h.imp fun r q => ?_
  obtain ⟨o, e, S1⟩ := r
  cases o with
  | nx => exact q
  | _ => simp only [M_some]; exact q
theorem atI_ints {ns : List Int} {i : Int} (h0 : 0 ≤ i) (h : i < ns.length) : ∃ z, ns[i.toNat]? = some z ∧ z ∈ ns ∧ atI (ns.map D.int) i = some (.int z) := by
  have hi : i.toNat < ns.length := by omega
  refine ⟨ns[i.toNat], List.getElem?_eq_getElem hi, List.getElem_mem hi, ?_⟩
  rw [atI_lt h0 (by simpa using h), List.getElem?_map, List.getElem?_eq_getElem hi]
  rfl
theorem Lq.at {S S' : Hd} (a : Lq S S') {k : Nat} {o : O} (h : S[k]? = some o) : S'[k]? = some o := a k o h
theorem Le.at {p : Nat} {S S' : Hd} (a : Le p S S') {k : Nat} {o : O} (n : k ≠ p) (h : S[k]? = some o) : S'[k]? = some o := a k o n h
theorem get_new {S : Hd} {o : O} : (S ++ [o])[S.length]? = some o := by simp
theorem Pot.lt {p : Nat} {S : Hd} (h : Pot p S) : p < S.length := let ⟨_, e⟩ := h; lt_of_get e
theorem Pot.ne {p : Nat} {S : Hd} (h : Pot p S) : S.length ≠ p := Nat.ne_of_gt h.lt
theorem Pot.lq {p : Nat} {S S' : Hd} (h : Pot p S) (l : Lq S S') : Pot p S' := let ⟨q, e⟩ := h; ⟨q, l p _ e⟩
theorem Lq.set {S S' : Hd} (l : Lq S S') {k : Nat} {o : O} (h : S.length ≤ k) : Lq S (S'.set k o) := fun j u e => by
  rw [List.getElem?_set_ne (by have := lt_of_get e; omega)]
  exact l j u e
end Ix
namespace Ix
open PySem L2
theorem q_pow10 {j : Int} {S : Hd} (h : 0 ≤ j) (h1 : j ≤ 1000000) : binD .pow (.int 10) (.int j) S = some (.int (10 ^ j.toNat), S) := q_pow h h1 (by decide)
end Ix
namespace Ix
theorem rng_get {β : Type} {n i : Nat} {d : β} {f : Nat → β} (h : ((List.range n).map f)[i]? = some d) : i < n ∧ d = f i := by
  rw [List.getElem?_map] at h
  by_cases hi : i < n
  · rw [List.getElem?_range hi] at h
    exact ⟨hi, (Option.some.inj h).symm⟩
  · rw [List.getElem?_eq_none (by simpa using hi)] at h
    cases h
end Ix
namespace Ix
open PySem L2
theorem atI_k {β : Type} {xs : List β} {a : β} (k : Nat) (h : xs[k]? = some a) : atI xs (k : Int) = some a := atI_nat h
theorem atI_3 {β : Type} {a b c d : β} {l : List β} : atI (a :: b :: c :: d :: l) 3 = some d := atI_k 3 rfl
theorem atI_4 {β : Type} {a b c d e : β} {l : List β} : atI (a :: b :: c :: d :: e :: l) 4 = some e := atI_k 4 rfl
theorem atI_5 {β : Type} {a b c d e f : β} {l : List β} : atI (a :: b :: c :: d :: e :: f :: l) 5 = some f := atI_k 5 rfl
theorem atI_6 {β : Type} {a b c d e f g : β} {l : List β} : atI (a :: b :: c :: d :: e :: f :: g :: l) 6 = some g := atI_k 6 rfl
theorem atI_7 {β : Type} {a b c d e f g h : β} {l : List β} : atI (a :: b :: c :: d :: e :: f :: g :: h :: l) 7 = some h := atI_k 7 rfl
theorem M_blt1 {Γ : Fs} {B : Bl} {e : E} {env : Sl} {S : Hd} {Q : D × Hd → Prop} (h : M (ev Γ e env S) fun x => M (bltD B [x.1] x.2) Q) : M (ev Γ (.blt B (.cons e .nil)) env S) Q := by
  simp only [ev, M_bind, M_map, M_some, argsOf, Option.map_some, Option.bind_some]
  exact h
end Ix
namespace Ix
open PySem L2
theorem for_M {Γ : Fs} {k : Ik} {es : E} {g : G} {b : Sx} {env : Sl} {S : Hd} {Q : Out × Sl × Hd → Prop}
    (h : M (ev Γ es env S) fun x => ∃ ds its, x.1 = .tup ds ∧ items k ds x.2 = some its ∧ M (loopS (fun d e S1 => (asgG g d e).bind fun e2 => ex Γ b e2 S1) (fun S1 => items k ds S1 = some its) its env x.2) Q) : M (ex Γ (.for_ k es g b) env S) Q := by
  simp only [ex, M_bind]
  refine h.imp fun x ⟨ds, its, e1, e2, m⟩ => ?_
  rw [e1]
  simp only [argsOf, M_some, e2]
  exact m
theorem ite_M {Γ : Fs} {c : E} {s t : Sx} {env : Sl} {S : Hd} {Q : Out × Sl × Hd → Prop} (h : M (tst (ev Γ c env S)) fun r => if r.1 = true then M (ex Γ s env r.2) Q else M (ex Γ t env r.2) Q) : M (ex Γ (.ite c s t) env S) Q := by
  simp only [ex, M_bind, M_ite]
  exact h
end Ix
namespace Ix
open PySem L2
/-- a result that changes nothing that stands -/
def Pu (r : Option (D × Hd)) (v : D) (S : Hd) : Prop := M r fun x => x.1 = v ∧ Lq S x.2
theorem Pu.use {r : Option (D × Hd)} {v : D} {S : Hd} {Q : D × Hd → Prop} (h : Pu r v S) (k : ∀ S', Lq S S' → Q (v, S')) : M r Q := h.imp fun ⟨d, S'⟩ ⟨e, l⟩ => by
  have e : d = v := e
  subst e
  exact k S' l
theorem Pu.run {T : Nat → Option Fd} {n f : Nat} {F : Fd} {ds : List D} {S : Hd} {v : D} (hT : T f = some F) (hl : ds.length = F.np) (h : M (ex (run T n) F.body (ds.map some ++ List.replicate (F.m - ds.length) none) S) fun r => M (outD (some r)) fun x => x.1 = v ∧ Lq S x.2) : Pu (Ix.run T (n + 1) f ds S) v S := run_M hT hl h
theorem cut_1 {xs : List D} : cutD xs (some 1) none = xs.drop 1 := by
  unfold cutD
  have e1 : HT.sIx xs.length 0 (some 1) = min 1 xs.length := rfl
  have e2 : HT.sIx xs.length xs.length none = xs.length := rfl
  rw [e1, e2]
  cases xs with
  | nil => rfl
  | cons x xs =>
    have : min 1 (x :: xs).length = 1 := by simp
    rw [this, List.take_of_length_le (by simp)]
theorem zip_get {L : List Int} {i : Nat} {d : D} (h : (List.zipWith (fun a b => D.tup [a, b]) (L.map .int) ((L.map .int).drop 1))[i]? = some d) : ∃ x y, L[i]? = some x ∧ L[i + 1]? = some y ∧ d = .tup [.int x, .int y] := by
  rw [List.getElem?_zipWith, List.getElem?_drop, List.getElem?_map, List.getElem?_map, show 1 + i = i + 1 by omega] at h
  cases h1 : L[i]? with
  | none => rw [h1] at h; simp at h
  | some x =>
    cases h2 : L[i + 1]? with
    | none => rw [h1, h2] at h; simp at h
    | some y =>
      rw [h1, h2] at h
      simp at h
      exact ⟨x, y, rfl, rfl, h.symm⟩
theorem M_all {Γ : Fs} {k : Ik} {cs ce : E} {g : G} {own : List Nat} {env : Sl} {S S1 : Hd} {ds its : List D} {Q : D × Hd → Prop} (b : Nat → Bool) (ho : gOk own g = true) (h1 : ev Γ cs env S = some (.tup ds, S1)) (l1 : Lq S S1) (h2 : items k ds S1 = some its) (hz : its.length < most)
    (he : ∀ (i : Nat) (d : D) (S2 : Hd), its[i]? = some d → Lq S1 S2 → ∃ env1, asgG g d (wipeD env own) = some env1 ∧ M (ev Γ ce env1 S2) fun r => r.1 = .bl (b i) ∧ Lq S2 r.2)
    (hit : ∀ S2, Lq S1 S2 → items k ds S2 = some its) (hq : ∀ S2, Lq S S2 → Q (.bl ((List.range its.length).all b), S2)) :
    M (ev Γ (.blt .all_ (.cons (.lc k cs g (.c (.bl true)) ce own) .nil)) env S) Q := by
  refine M_blt1 (M_lc (fun i => .bl (b i)) ho h1 h2 hz he hit fun j S2 hj hg l => ?_)
  have e : (List.range its.length).map (fun i => D.bl (b i)) = ((List.range its.length).map b).map .bl := by
    rw [List.map_map]
    rfl
  rw [e] at hg
  simp only [q_all hg, M_some]
  rw [List.all_map]
  exact hq S2 (l1.trans l)
theorem M_allT {Γ : Fs} {k : Ik} {cs ce : E} {g : G} {own : List Nat} {env : Sl} {S S1 : Hd} {ds its : List D} {Q : D × Hd → Prop} (ho : gOk own g = true) (h1 : ev Γ cs env S = some (.tup ds, S1)) (l1 : Lq S S1) (h2 : items k ds S1 = some its) (hz : its.length < most)
    (he : ∀ (i : Nat) (d : D) (S2 : Hd), its[i]? = some d → Lq S1 S2 → ∃ env1, asgG g d (wipeD env own) = some env1 ∧ M (ev Γ ce env1 S2) fun r => r.1 = .bl true ∧ Lq S2 r.2)
    (hit : ∀ S2, Lq S1 S2 → items k ds S2 = some its) (hq : ∀ S2, Lq S S2 → Q (.bl true, S2)) :
    M (ev Γ (.blt .all_ (.cons (.lc k cs g (.c (.bl true)) ce own) .nil)) env S) Q :=
  M_all (fun _ => true) ho h1 l1 h2 hz he hit fun S2 l => by
    rw [show ((List.range its.length).all fun _ => true) = true by simp]
    exact hq S2 l
theorem isi_ii {i : Int} {S : Hd} : bltD .isi [.int i, .ty "int"] S = some (.bl true, S) := by
  rw [q_isi (c := "int") (n := "int") (by decide) rfl]
  rfl
theorem isi_ib {i : Int} {S : Hd} : bltD .isi [.int i, .ty "bool"] S = some (.bl false, S) := by
  rw [q_isi (c := "bool") (n := "int") (by decide) rfl]
  rfl
theorem isi_tt {xs : List D} {S : Hd} : bltD .isi [.tup xs, .ty "tuple"] S = some (.bl true, S) := by
  rw [q_isi (c := "tuple") (n := "tuple") (by decide) rfl]
  rfl
theorem isi_itl {i : Int} {S : Hd} : bltD .isi [.int i, .tup [.ty "tuple", .ty "list"]] S = some (.bl false, S) := by
  rw [q_isiT (cs := [.ty "tuple", .ty "list"]) (ts := ["tuple", "list"]) (n := "int") (by simp only [tysOf, show plainTy "tuple" = true by decide, show plainTy "list" = true by decide, if_true, Option.map_some]) rfl]
  rfl
theorem isi_btl {i : Bool} {S : Hd} : bltD .isi [.bl i, .tup [.ty "tuple", .ty "list"]] S = some (.bl false, S) := by
  rw [q_isiT (cs := [.ty "tuple", .ty "list"]) (ts := ["tuple", "list"]) (n := "bool") (by simp only [tysOf, show plainTy "tuple" = true by decide, show plainTy "list" = true by decide, if_true, Option.map_some]) rfl]
  rfl
theorem isi_ttl {xs : List D} {S : Hd} : bltD .isi [.tup xs, .tup [.ty "tuple", .ty "list"]] S = some (.bl true, S) := by
  rw [q_isiT (cs := [.ty "tuple", .ty "list"]) (ts := ["tuple", "list"]) (n := "tuple") (by simp only [tysOf, show plainTy "tuple" = true by decide, show plainTy "list" = true by decide, if_true, Option.map_some]) rfl]
  rfl
theorem isi_tl {xs : List D} {S : Hd} : bltD .isi [.tup xs, .ty "list"] S = some (.bl false, S) := by
  rw [q_isi (c := "list") (n := "tuple") (by decide) rfl]
  rfl
theorem isi_bb {i : Bool} {S : Hd} : bltD .isi [.bl i, .ty "bool"] S = some (.bl true, S) := by
  rw [q_isi (c := "bool") (n := "bool") (by decide) rfl]
  rfl
theorem isi_ltl {xs : List D} {k : Nat} {S : Hd} (h : S[k]? = some (.lst xs)) : bltD .isi [.ref k, .tup [.ty "tuple", .ty "list"]] S = some (.bl true, S) := by
  rw [q_isiT (cs := [.ty "tuple", .ty "list"]) (ts := ["tuple", "list"]) (n := "list") (by simp only [tysOf, show plainTy "tuple" = true by decide, show plainTy "list" = true by decide, if_true, Option.map_some]) (n_ref h)]
  rfl
theorem isi_ll {xs : List D} {k : Nat} {S : Hd} (h : S[k]? = some (.lst xs)) : bltD .isi [.ref k, .ty "list"] S = some (.bl true, S) := by
  rw [q_isi (c := "list") (n := "list") (by decide) (n_ref h)]
  rfl
theorem M_and {Γ : Fs} {a b : E} {env : Sl} {S : Hd} {Q : D × Hd → Prop} (h : M (ev Γ a env S) fun x => x.1 = .bl true ∧ M (ev Γ b env x.2) Q) : M (ev Γ (.and_ a b) env S) Q := by
  simp only [ev, M_bind]
  refine h.imp fun x ⟨e, m⟩ => ?_
  rw [e]
  exact m
end Ix
namespace Ix
open PySem L2
theorem Lq.ple {S0 S S' : Hd} {p : Nat} (a : Lq S0 S) (b : Le p S S') (h : S0.length ≤ p) : Lq S0 S' := fun k o e => b k o (by have := lt_of_get e; omega) (a k o e)
theorem cut_mem {xs : List D} {l h : Option Int} {i : Nat} {d : D} (e : (cutD xs l h)[i]? = some d) : d ∈ xs := by
  unfold cutD at e
  exact List.mem_of_mem_drop (List.mem_of_mem_take (List.mem_of_getElem? e))
theorem cut_len {xs : List D} {l h : Option Int} : (cutD xs l h).length ≤ xs.length := by
  unfold cutD
  rw [List.length_take, List.length_drop]
  omega
theorem cell_get {ns : List Int} {c : Int} {l h : Option Int} {i : Nat} {d : D} (e : ([D.int c] ++ cutD (ns.map .int) l h)[i]? = some d) : ∃ z, d = .int z := by
  have := List.mem_of_getElem? e
  rcases List.mem_append.mp this with q | q
  · exact ⟨c, List.mem_singleton.mp q⟩
  · obtain ⟨j, hj⟩ := List.getElem?_of_mem q
    obtain ⟨z, _, rfl⟩ := List.mem_map.mp (cut_mem hj)
    exact ⟨z, rfl⟩
end Ix

namespace Ix
open PySem L2
theorem Lq.len {S S' : Hd} (a : Lq S S') : S.length ≤ S'.length := by
  rcases Nat.lt_or_ge S'.length S.length with h | h
  · have e := a S'.length _ (List.getElem?_eq_getElem h)
    have := lt_of_get e
    omega
  · exact h
/-- a comprehension over known items: c tells which of them are kept, v what each becomes -/
theorem M_lcx {β : Type} {Γ : Fs} {k : Ik} {cs cc ce : E} {g : G} {own : List Nat} {env : Sl} {S : Hd} {Q : D × Hd → Prop} (xs : List β) (f : β → D) (c : β → Bool) (v : β → D) (ho : gOk own g = true)
    (h1 : M (ev Γ cs env S) fun x => ∃ ds S1, x = (.tup ds, S1) ∧ Lq S S1 ∧ ∀ S2, Lq S1 S2 → items k ds S2 = some (xs.map f)) (hz : xs.length < most)
    (he : ∀ (x : β) (S2 : Hd), x ∈ xs → Lq S S2 → ∃ env1, asgG g (f x) (wipeD env own) = some env1 ∧ M (tst (ev Γ cc env1 S2)) fun r => r.1 = c x ∧ Lq S2 r.2 ∧ (c x = true → M (ev Γ ce env1 r.2) fun y => y.1 = v x ∧ Lq r.2 y.2))
    (hq : ∀ (j : Nat) (S2 : Hd), S.length ≤ j → S2[j]? = some (.lst ((xs.filter c).map v)) → Lq S S2 → Q (.ref j, S2)) : M (ev Γ (.lc k cs g cc ce own) env S) Q := by
  simp only [ev, ho, if_true, M_bind]
  refine h1.imp ?_
  rintro _ ⟨ds, S1, rfl, l1, hit⟩
  simp only [M_bind, argsOf, M_some, hit S1 (Lq.refl _), M_map]
  refine M_loopH (fun i S2 => S2[S1.length]? = some (.lst (((xs.take i).filter c).map v)) ∧ Lq S1 S2) (m := 0) ⟨by simp, Lq.app _ _⟩ (fun i d S2 hi ⟨a, b⟩ => ?_) fun S2 ⟨a, b⟩ => ?_
  · rw [List.getElem?_map] at hi
    cases hx : xs[i]? with
    | none => rw [hx] at hi; cases hi
    | some x =>
      rw [hx] at hi
      simp only [Option.map_some, Option.some.injEq] at hi
      subst hi
      obtain ⟨env1, e1, m1⟩ := he x S2 (List.mem_of_getElem? hx) (l1.trans b)
      have et : xs.take (0 + i + 1) = xs.take (0 + i) ++ [x] := by
        rw [Nat.zero_add, List.take_add_one, hx]
        rfl
      simp only [e1, Option.bind_some, M_bind]
      refine m1.imp fun r ⟨e2, l2, m2⟩ => ?_
      have hlt : i < xs.length := (List.getElem?_eq_some_iff.mp hx).1
      cases hc : c x with
      | false =>
        rw [e2, hc]
        simp only [Bool.false_eq_true, if_false, M_some]
        refine ⟨hit _ (b.trans l2), ?_, b.trans l2⟩
        rw [et, List.filter_append]
        simp only [List.filter_cons, hc, Bool.false_eq_true, if_false, List.filter_nil, List.append_nil]
        exact l2 _ _ a
      | true =>
        rw [e2, hc]
        simp only [if_true, M_bind]
        refine (m2 hc).imp fun y ⟨e3, l3⟩ => ?_
        have hl : ((xs.take (0 + i)).filter c).length ≤ xs.length := Nat.le_trans (List.length_filter_le _ _) (by rw [List.length_take]; omega)
        have hl2 : ((xs.take (0 + i)).filter c).length ≤ i := Nat.le_trans (List.length_filter_le _ _) (by rw [List.length_take]; omega)
        rw [q_push (l3 _ _ (l2 _ _ a)) (by rw [List.length_map]; omega), M_some]
        have l4 : Lq S1 (y.2.set S1.length (.lst ((((xs.take (0 + i)).filter c).map v) ++ [y.1]))) := Lq.set (b.trans (l2.trans l3)) (Nat.le_refl _)
        refine ⟨hit _ l4, ?_, l4⟩
        rw [List.getElem?_set_self (lt_of_get (l3 _ _ (l2 _ _ a))), e3, et, List.filter_append, List.map_append]
        simp only [List.filter_cons, hc, if_true, List.filter_nil, List.map_cons, List.map_nil]
  · rw [Nat.zero_add, List.length_map, List.take_length] at a
    exact hq _ S2 l1.len a (l1.trans b)
theorem filt_true {β : Type} {xs : List β} : xs.filter (fun _ => true) = xs := List.filter_eq_self.mpr (by simp)
theorem map_get {β : Type} {xs : List β} {f : β → D} {i : Nat} {d : D} (h : (xs.map f)[i]? = some d) : ∃ x, xs[i]? = some x ∧ x ∈ xs ∧ d = f x := by
  rw [List.getElem?_map] at h
  cases hx : xs[i]? with
  | none => rw [hx] at h; cases h
  | some j =>
    rw [hx] at h
    simp only [Option.map_some, Option.some.injEq] at h
    exact ⟨j, rfl, List.mem_of_getElem? hx, h.symm⟩
/-- ascending lists of the same numbers are the same -/
theorem asc_ext : ∀ {A B : List Int}, A.Pairwise (· < ·) → B.Pairwise (· < ·) → (∀ x, x ∈ A ↔ x ∈ B) → A = B
  | [], [], _, _, _ => rfl
  | [], b :: B, _, _, h => absurd ((h b).mpr List.mem_cons_self) (by simp)
  | a :: A, [], _, _, h => absurd ((h a).mp List.mem_cons_self) (by simp)
  | a :: A, b :: B, ha, hb, h => by
    rw [List.pairwise_cons] at ha hb
    have e : a = b := by
      have h1 := (h a).mp List.mem_cons_self
      have h2 := (h b).mpr List.mem_cons_self
      rcases List.mem_cons.mp h1 with q | q
      · exact q
      · rcases List.mem_cons.mp h2 with r | r
        · exact r.symm
        · have := ha.1 b r
          have := hb.1 a q
          omega
    subst e
    congr 1
    refine asc_ext ha.2 hb.2 fun x => ⟨fun q => ?_, fun q => ?_⟩
    · rcases List.mem_cons.mp ((h x).mp (List.mem_cons_of_mem _ q)) with r | r
      · have := ha.1 x q
        omega
      · exact r
    · rcases List.mem_cons.mp ((h x).mpr (List.mem_cons_of_mem _ q)) with r | r
      · have := hb.1 x q
        omega
      · exact r
theorem M_tup2 {Γ : Fs} {a b : E} {env : Sl} {S : Hd} {Q : D × Hd → Prop} (h : M (ev Γ a env S) fun x => M (ev Γ b env x.2) fun y => Q (.tup [x.1, y.1], y.2)) : M (ev Γ (.tup (.cons a (.cons b .nil))) env S) Q := by
  simp only [ev, M_bind, M_map, M_some, argsOf, Option.map_some, Option.bind_some, List.length_cons, List.length_nil, show (0 + 1 + 1 : Nat) ≤ most by decide, if_true]
  exact h
theorem i_rng2 {i j : Int} {S : Hd} (h1 : -(2 ^ 62) ≤ i) (h2 : i < 2 ^ 62) (h3 : -(2 ^ 62) ≤ j) (h4 : j < 2 ^ 62) : items .range2 [.int i, .int j] S = some ((List.range (j - i).toNat).map fun (m : Nat) => .int (i + (m : Int))) := if_pos ⟨h1, h2, h3, h4⟩
end Ix

namespace Ix
open PySem L2
/-- a comprehension without a test whose elements may change what stands: I i ys S after i turns, ys what the new list (at j) holds -/
theorem M_lcI {β : Type} {Γ : Fs} {k : Ik} {cs ce : E} {g : G} {own : List Nat} {env : Sl} {S : Hd} {Q : D × Hd → Prop} (xs : List β) (f : β → D) (I : Nat → Nat → List D → Hd → Prop) (ho : gOk own g = true)
    (h1 : M (ev Γ cs env S) fun x => ∃ ds S1, x = (.tup ds, S1) ∧ items k ds S1 = some (xs.map f) ∧ I S1.length 0 [] (S1 ++ [.lst []]) ∧
      ∀ (i : Nat) (x : β) (ys : List D) (S2 : Hd), xs[i]? = some x → ys.length = i → S2[S1.length]? = some (.lst ys) → I S1.length i ys S2 → ∃ env1, asgG g (f x) (wipeD env own) = some env1 ∧
        M (ev Γ ce env1 S2) fun y => y.2[S1.length]? = some (.lst ys) ∧ items k ds (y.2.set S1.length (.lst (ys ++ [y.1]))) = some (xs.map f) ∧ I S1.length (i + 1) (ys ++ [y.1]) (y.2.set S1.length (.lst (ys ++ [y.1]))))
    (hz : xs.length < most) (hq : ∀ (j : Nat) (ys : List D) (S2 : Hd), ys.length = xs.length → S2[j]? = some (.lst ys) → I j xs.length ys S2 → Q (.ref j, S2)) :
    M (ev Γ (.lc k cs g (.c (.bl true)) ce own) env S) Q := by
  simp only [ev, ho, if_true, M_bind]
  refine h1.imp ?_
  rintro _ ⟨ds, S1, rfl, hit, i0, he⟩
  simp only [M_bind, argsOf, M_some, hit, M_map]
  refine M_loopH (fun i S2 => ∃ ys, ys.length = i ∧ S2[S1.length]? = some (.lst ys) ∧ I S1.length i ys S2) (m := 0) ⟨[], rfl, by simp, i0⟩ (fun i d S2 hi ⟨ys, yl, a, b⟩ => ?_) fun S2 ⟨ys, yl, a, b⟩ => ?_
  · rw [List.getElem?_map] at hi
    cases hx : xs[i]? with
    | none => rw [hx] at hi; cases hi
    | some x =>
      rw [hx] at hi
      simp only [Option.map_some, Option.some.injEq] at hi
      subst hi
      rw [Nat.zero_add] at yl b ⊢
      obtain ⟨env1, e1, m1⟩ := he i x ys S2 hx yl a b
      have hlt : i < xs.length := (List.getElem?_eq_some_iff.mp hx).1
      simp only [e1, Option.bind_some, tst, tru, Option.map_some, if_true, M_bind]
      refine m1.imp fun y ⟨q1, q2, q3⟩ => ?_
      rw [q_push q1 (by omega), M_some]
      exact ⟨q2, ys ++ [y.1], by simp [yl], List.getElem?_set_self (lt_of_get q1), q3⟩
  · rw [Nat.zero_add, List.length_map] at b yl
    exact hq _ ys S2 yl a b
theorem M_call3 {Γ : Fs} {f : Nat} {a b c : E} {env : Sl} {S : Hd} {Q : D × Hd → Prop} (h : M (ev Γ a env S) fun x => M (ev Γ b env x.2) fun y => M (ev Γ c env y.2) fun z => M (Γ f [x.1, y.1, z.1] z.2) Q) : M (ev Γ (.call f (.cons a (.cons b (.cons c .nil)))) env S) Q := by
  simp only [ev, M_bind, M_map, M_some, argsOf, Option.map_some, Option.bind_some]
  exact h
theorem cut_to {xs : List D} {m : Nat} : cutD xs none (some (m : Int)) = xs.take m := by
  unfold cutD
  have e1 : HT.sIx xs.length 0 none = 0 := rfl
  have e2 : HT.sIx xs.length xs.length (some (m : Int)) = min m xs.length := rfl
  rw [e1, e2, List.drop_zero, Nat.sub_zero]
  apply List.ext_getElem?
  intro i
  rw [List.getElem?_take, List.getElem?_take]
  by_cases h : i < xs.length
  · by_cases h2 : i < m
    · rw [if_pos h2, if_pos (by omega)]
    · rw [if_neg h2, if_neg (by omega)]
  · rw [List.getElem?_eq_none (by omega)]
    split <;> split <;> rfl
end Ix

namespace Ix
open PySem L2
open Classical in
/-- a while loop by what stands and a bound of its turns -/
theorem M_loopW {test : Sl → Hd → Option (Bool × Hd)} {body : Sl → Hd → Option (Out × Sl × Hd)} {Q : Out × Sl × Hd → Prop} (I : Nat → Sl → Hd → Prop)
    (hs : ∀ n env S, I n env S → M (test env S) fun t => if t.1 = true then ∃ m, n = m + 1 ∧ M (body env t.2) fun r => match r.1 with
      | .brk => Q (.nx, r.2)
      | .ret x => Q (.ret x, r.2)
      | _ => I m r.2.1 r.2.2
      else Q (.nx, env, t.2)) : ∀ {f n : Nat} {env : Sl} {S : Hd}, n < f → I n env S → M (loopW test body f env S) Q
  | 0, n, env, S, h, _ => absurd h (Nat.not_lt_zero n)
  | f + 1, n, env, S, h, i => by
    rw [loopW_succ, M_bind]
    refine (hs n env S i).imp fun t q => ?_
    split at q
    · rename_i ht
      obtain ⟨m, rfl, q⟩ := q
      rw [if_pos ht, M_bind]
      refine q.imp fun r q => ?_
      obtain ⟨o, env1, S1⟩ := r
      cases o with
      | nx => exact M_loopW I hs (by omega) q
      | cont => exact M_loopW I hs (by omega) q
      | brk => simp only [M_some]; exact q
      | ret x => simp only [M_some]; exact q
    · rename_i ht
      rw [if_neg ht, M_some]
      exact q
end Ix

open PySem L2 Ix in
local macro_rules
  | `(tactic| simp? only [$as,*] $[$loc]?) => `(tactic| simp only [ex, ev, M_bind, M_map, M_some, M_ite, t_eq, a_tup, al_eq, List.getElem?_cons_zero, List.getElem?_cons_succ, Option.bind_some, Option.map_some, q_add, q_sub, q_lt, q_le, q_gt, q_ge, q_eqI, q_neI, q_eqB, q_neB, q_isN, q_notN, Ix.isNon, q_ixT, q_ixR, atI_0, atI_1, atI_2, atI_3, atI_4, atI_5, atI_6, atI_7, q_slT, q_slR, q_revT, q_seqT, q_int, q_intB, q_max, q_min, q_abs, q_tupT, n_tup, n_int, n_bl, n_non, n_str, isi_ii, isi_ib, isi_tt, isi_itl, isi_btl, isi_ttl, isi_tl, isi_bb, u_bl, u_int, u_non, u_tup, g_name, g_tup, g_nil, g_cons, o_ret, o_nx, i_seq, List.set_cons_zero, List.set_cons_succ, decide_eq_true_eq, Bool.not_eq_true', decide_eq_false_iff_not, evP, Bool.false_eq_true, if_true, if_false, ite_true, ite_false, reduceIte, Bool.not_true, Bool.not_false, Option.some.injEq, q_pow10, Int.reduceToNat, Int.reducePow, Int.reduceAdd, Int.reduceSub, Int.reduceMul, Int.reduceNeg, Int.reduceLT, Int.reduceLE, Nat.reducePow, Nat.reduceLT, Nat.reduceLeDiff, Nat.reduceAdd, List.length_cons, List.length_nil, Int.neg_neg, $as,*] $[$loc]?)
open PySem L2 Ix in
local macro_rules
  | `(tactic| simp_all? only [$as,*]) => `(tactic| simp only [ev, M_bind, M_map, M_some, M_ite, t_eq, a_tup, al_eq, List.getElem?_cons_zero, List.getElem?_cons_succ, Option.bind_some, Option.map_some, q_add, q_sub, q_lt, q_le, q_gt, q_ge, q_eqI, q_neI, q_eqB, q_neB, q_isN, q_notN, Ix.isNon, q_ixT, q_ixR, atI_0, atI_1, atI_2, atI_3, atI_4, atI_5, atI_6, atI_7, q_slT, q_slR, q_revT, q_seqT, q_int, q_intB, q_max, q_min, q_abs, q_tupT, n_tup, n_int, n_bl, n_non, n_str, isi_ii, isi_ib, isi_tt, isi_itl, isi_btl, isi_ttl, isi_tl, isi_bb, u_bl, u_int, u_non, u_tup, g_name, g_tup, g_nil, g_cons, o_ret, o_nx, i_seq, List.set_cons_zero, List.set_cons_succ, decide_eq_true_eq, Bool.not_eq_true', decide_eq_false_iff_not, evP, Bool.false_eq_true, if_true, if_false, ite_true, ite_false, reduceIte, Bool.not_true, Bool.not_false, Option.some.injEq, q_pow10, Int.reduceToNat, Int.reducePow, Int.reduceAdd, Int.reduceSub, Int.reduceMul, Int.reduceNeg, Int.reduceLT, Int.reduceLE, Nat.reducePow, Nat.reduceLT, Nat.reduceLeDiff, Nat.reduceAdd, List.length_cons, List.length_nil, Int.neg_neg, $as,*])

namespace Lw
open PySem L2 Ix
/-- 0: is_number (value) -/
def b_is_number : Sx := (.ret (.and_ (.blt .isi (.cons (.var 0) (.cons (.c (.ty "int")) (.nil)))) (.not_ (.blt .isi (.cons (.var 0) (.cons (.c (.ty "bool")) (.nil)))))))
/-- 1: is_pair (value) -/
def b_is_pair : Sx := (.ret (.and_ (.blt .isi (.cons (.var 0) (.cons (.c (.ty "tuple")) (.nil)))) (.cmp .eq (.blt .len (.cons (.var 0) (.nil))) (.c (.int 2)))))
/-- 3: is_ascending (numbers, one, other) -/
def b_is_ascending : Sx := (.ret (.blt .all_ (.cons (.lc .zip (.cons (.var 0) (.cons (.sl true false (.var 0) (.c (.int 1)) .nop) (.nil))) (.tup (.cons (.name 1) (.cons (.name 2) .nil))) (.c (.bl true)) (.cmp .lt (.var 1) (.var 2)) [1, 2]) (.nil))))
/-- 4: _is_near (value) -/
def b_is_near : Sx := (.ret (.and_ (.call 0 (.cons (.var 0) (.nil))) (.chain .le .le (.neg (.c (.int 900))) (.var 0) (.c (.int 900)))))
/-- 5: _are_offsets (value, item) -/
def b_are_offsets : Sx := (.seq (.ite (.or_ (.not_ (.blt .isi (.cons (.var 0) (.cons (.c (.ty "tuple")) (.nil))))) (.not_ (.chain .le .le (.c (.int 1)) (.blt .len (.cons (.var 0) (.nil))) (.c (.int 3)))))
    (.ret (.c (.bl false))) .skip)
    (.ret (.and_ (.blt .all_ (.cons (.lc .seq (.cons (.var 0) .nil) (.name 1) (.c (.bl true)) (.call 4 (.cons (.var 1) (.nil))) [1]) (.nil))) (.call 3 (.cons (.var 0) (.nil))))))
/-- 6: is_zone (value, offsets, spacing) -/
def b_is_zone : Sx := (.seq (.ite (.not_ (.call 1 (.cons (.var 0) (.nil))))
    (.ret (.c (.bl false))) .skip)
    (.seq (.asg (.tup (.cons (.name 1) (.cons (.name 2) .nil))) (.var 0))
    (.seq (.ite (.or_ (.not_ (.call 5 (.cons (.var 1) (.nil)))) (.not_ (.call 0 (.cons (.var 2) (.nil)))))
    (.ret (.c (.bl false))) .skip)
    (.ret (.chain .lt .le (.bin .sub (.ix (.var 1) (.neg (.c (.int 1)))) (.ix (.var 1) (.c (.int 0)))) (.var 2) (.c (.int 1000000)))))))
/-- 65: is_rule (value, rules) -/
def b_is_rule : Sx := (.ret (.and_ (.blt .isi (.cons (.var 0) (.cons (.c (.ty "str")) (.nil)))) (.cmp .in_ (.var 0) (.var 1))))
/-- 84: first_word (value) -/
def b_first_word : Sx := (.seq (.ite (.and_ (.blt .isi (.cons (.var 0) (.cons (.c (.ty "tuple")) (.nil)))) (.and_ (.cmp .gt (.blt .len (.cons (.var 0) (.nil))) (.c (.int 0))) (.blt .isi (.cons (.ix (.var 0) (.c (.int 0))) (.cons (.c (.ty "str")) (.nil))))))
    (.ret (.ix (.var 0) (.c (.int 0)))) .skip)
    (.ret (.c .non)))
/-- 85: is_zones (value, item) -/
def b_is_zones : Sx := (.seq (.ite (.or_ (.not_ (.blt .isi (.cons (.var 0) (.cons (.c (.ty "tuple")) (.nil))))) (.not_ (.chain .le .le (.c (.int 1)) (.blt .len (.cons (.var 0) (.nil))) (.c (.int 2)))))
    (.ret (.c (.bl false))) .skip)
    (.ret (.blt .all_ (.cons (.lc .seq (.cons (.var 0) .nil) (.name 1) (.c (.bl true)) (.call 6 (.cons (.var 1) (.nil))) [1]) (.nil)))))
/-- 86: check_zones (value) -/
def b_check_zones : Sx := (.ite (.not_ (.call 85 (.cons (.var 0) (.nil))))
    .stuck .skip)
/-- 87: is_place (zones, value) -/
def b_is_place : Sx := (.ret (.and_ (.call 0 (.cons (.var 1) (.nil))) (.chain .le .lt (.c (.int 0)) (.var 1) (.blt .len (.cons (.var 0) (.nil))))))
/-- 88: _is_index (known, value) -/
def b_is_index : Sx := (.ret (.and_ (.call 0 (.cons (.var 1) (.nil))) (.chain .le .lt (.c (.int 0)) (.var 1) (.blt .len (.cons (.var 0) (.nil))))))
/-- 89: is_time (known, value) -/
def b_is_time : Sx := (.ret (.and_ (.call 88 (.cons (.var 0) (.cons (.var 1) (.nil)))) (.cmp .ne (.ix (.var 0) (.var 1)) (.c (.str "span")))))
/-- 90: fits_step_role (zones, known, role, value) -/
def b_fits_role : Sx := (.seq (.ite (.cmp .eq (.var 2) (.c (.str "place")))
    (.ret (.call 87 (.cons (.var 0) (.cons (.var 3) (.nil))))) .skip)
    (.seq (.ite (.cmp .eq (.var 2) (.c (.str "fold")))
    (.ret (.call 65 (.cons (.var 3) (.cons (.c (.tup [.str "early", .str "late", .str "refuse"])) (.nil))))) .skip)
    (.seq (.ite (.cmp .eq (.var 2) (.c (.str "gap")))
    (.ret (.call 65 (.cons (.var 3) (.cons (.c (.tup [.str "ahead", .str "behind", .str "refuse"])) (.nil))))) .skip)
    (.seq (.ite (.cmp .eq (.var 2) (.c (.str "minutes")))
    (.ret (.and_ (.call 0 (.cons (.var 3) (.nil))) (.chain .le .le (.neg (.c (.int 100000))) (.var 3) (.c (.int 100000))))) .skip)
    (.seq (.ite (.cmp .eq (.var 2) (.c (.str "time")))
    (.ret (.call 89 (.cons (.var 1) (.cons (.var 3) (.nil))))) .skip)
    (.ret (.and_ (.call 88 (.cons (.var 1) (.cons (.var 3) (.nil)))) (.cmp .eq (.ix (.var 1) (.var 3)) (.var 2)))))))))
/-- 91: _is_step (zones, known, value, roles, role, item) -/
def b_is_step : Sx := (.seq (.asg (.name 3) (.cget [("read", .tup [.str "moment", .str "place"]), ("find", .tup [.str "reading", .str "place", .str "fold", .str "gap"]), ("offset", .tup [.str "moment", .str "place"]), ("edition", .tup [.str "moment", .str "place"]), ("plus", .tup [.str "moment", .str "span"]), ("less", .tup [.str "reading", .str "span"]), ("add", .tup [.str "time", .str "minutes"])] (.call 84 (.cons (.var 2) (.nil)))))
    (.seq (.ite (.or_ (.cmp .is_ (.var 3) (.c .non)) (.cmp .ne (.blt .len (.cons (.var 2) (.nil))) (.bin .add (.c (.int 1)) (.blt .len (.cons (.var 3) (.nil))))))
    (.ret (.c (.bl false))) .skip)
    (.ret (.blt .all_ (.cons (.lc .zip (.cons (.var 3) (.cons (.sl true false (.var 2) (.c (.int 1)) .nop) (.nil))) (.tup (.cons (.name 4) (.cons (.name 5) .nil))) (.c (.bl true)) (.call 90 (.cons (.var 0) (.cons (.var 1) (.cons (.var 4) (.cons (.var 5) (.nil)))))) [4, 5]) (.nil))))))
/-- 92: _made_kind (known, step) -/
def b_made_kind : Sx := (.seq (.ite (.cmp .eq (.ix (.var 1) (.c (.int 0))) (.c (.str "add")))
    (.ret (.ix (.var 0) (.ix (.var 1) (.c (.int 1))))) .skip)
    (.ret (.cix [("read", .str "reading"), ("find", .str "moment"), ("offset", .str "span"), ("edition", .str "moment"), ("plus", .str "reading"), ("less", .str "moment")] (.ix (.var 1) (.c (.int 0))))))
/-- 93: fits_as_program (zones, value, known, step) -/
def b_fits_as_program : Sx := (.seq (.ite (.or_ (.not_ (.blt .isi (.cons (.var 1) (.cons (.c (.ty "tuple")) (.nil))))) (.cmp .gt (.blt .len (.cons (.var 1) (.nil))) (.c (.int 8))))
    (.ret (.c (.bl false))) .skip)
    (.seq (.asg (.name 2) (.lst (.cons (.c (.str "moment")) (.nil))))
    (.seq (.for_ .seq (.cons (.var 1) .nil) (.name 3)
    (.seq (.ite (.not_ (.call 91 (.cons (.var 0) (.cons (.var 2) (.cons (.var 3) (.nil))))))
    (.ret (.c (.bl false))) .skip)
    (.drop (.meth .append (.var 2) (.cons (.call 92 (.cons (.var 2) (.cons (.var 3) (.nil)))) (.nil))))))
    (.ret (.cmp .le (.cnts (.lc .seq (.cons (.var 1) .nil) (.name 3) (.c (.bl true)) (.ix (.var 3) (.c (.int 0))) [3]) (.c (.str "edition"))) (.c (.int 1)))))))
/-- 95: check_program (zones, value) -/
def b_check_program : Sx := (.ite (.not_ (.call 93 (.cons (.var 0) (.cons (.var 1) (.nil)))))
    .stuck .skip)
/-- 96: kinds_of_values (program, known, step) -/
def b_kinds_of_values : Sx := (.seq (.asg (.name 1) (.lst (.cons (.c (.str "moment")) (.nil))))
    (.seq (.for_ .seq (.cons (.var 0) .nil) (.name 2)
    (.drop (.meth .append (.var 1) (.cons (.call 92 (.cons (.var 1) (.cons (.var 2) (.nil)))) (.nil)))))
    (.ret (.var 1))))
/-- 110: fits_wish_role (known, role, value) -/
def b_fits_wish_role : Sx := (.seq (.ite (.cmp .eq (.var 1) (.c (.str "most")))
    (.ret (.and_ (.call 0 (.cons (.var 2) (.nil))) (.chain .le .le (.c (.int 0)) (.var 2) (.c (.int 1000000))))) .skip)
    (.ret (.call 89 (.cons (.var 0) (.cons (.var 2) (.nil))))))
/-- 111: fits_as_wish (program, value, roles, known, role, item) -/
def b_fits_as_wish : Sx := (.seq (.asg (.name 2) (.cget [("found", .tup []), ("same", .tup [.str "time", .str "time"]), ("order", .tup [.str "time", .str "time"]), ("near", .tup [.str "time", .str "time", .str "most"])] (.call 84 (.cons (.var 1) (.nil)))))
    (.seq (.ite (.or_ (.cmp .is_ (.var 2) (.c .non)) (.cmp .ne (.blt .len (.cons (.var 1) (.nil))) (.bin .add (.c (.int 1)) (.blt .len (.cons (.var 2) (.nil))))))
    (.ret (.c (.bl false))) .skip)
    (.seq (.asg (.name 3) (.call 96 (.cons (.var 0) (.nil))))
    (.ret (.blt .all_ (.cons (.lc .zip (.cons (.var 2) (.cons (.sl true false (.var 1) (.c (.int 1)) .nop) (.nil))) (.tup (.cons (.name 4) (.cons (.name 5) .nil))) (.c (.bl true)) (.call 110 (.cons (.var 3) (.cons (.var 4) (.cons (.var 5) (.nil))))) [4, 5]) (.nil)))))))
/-- 112: check_wish (program, value) -/
def b_check_wish : Sx := (.ite (.not_ (.call 111 (.cons (.var 0) (.cons (.var 1) (.nil)))))
    .stuck .skip)
/-- 113: _text_of (row, item) -/
def b_text_of : Sx := (.ret (.joinS " " (.lc .seq (.cons (.var 0) .nil) (.name 1) (.c (.bl true)) (.blt .str_ (.cons (.var 1) (.nil))) [1])))
/-- 114: write_program (zones, program, step) -/
def b_write_program : Sx := (.seq (.drop (.call 86 (.cons (.var 0) (.nil))))
    (.seq (.drop (.call 95 (.cons (.var 0) (.cons (.var 1) (.nil)))))
    (.seq (.ite (.not_ (.var 1))
    (.ret (.c (.str "-"))) .skip)
    (.ret (.joinS " then " (.lc .seq (.cons (.var 1) .nil) (.name 2) (.c (.bl true)) (.call 113 (.cons (.var 2) (.nil))) [2]))))))
/-- 115: write_wish (zones, program, wish) -/
def b_write_wish : Sx := (.seq (.drop (.call 86 (.cons (.var 0) (.nil))))
    (.seq (.drop (.call 95 (.cons (.var 0) (.cons (.var 1) (.nil)))))
    (.seq (.drop (.call 112 (.cons (.var 1) (.cons (.var 2) (.nil)))))
    (.ret (.call 113 (.cons (.var 2) (.nil)))))))
/-- 116: _law_make_pot (_law_cell, _law_more) -/
def b_make_pot : Sx := (.seq (.asg (.name 1) (.ite (.cmp .ge (.var 0) (.bin .pow (.c (.int 10)) (.c (.int 18)))) (.bin .sub (.var 0) (.bin .pow (.c (.int 10)) (.c (.int 18)))) (.c (.int 0))))
    (.ret (.lst (.cons (.var 1) (.cons (.bin .mod (.blt .int_ (.cons (.var 0) (.nil))) (.c (.int 2305843009213693951))) (.cons (.c (.int 0)) (.nil)))))))
/-- 117: _law_pick (_law_pot, _law_many, _law_digit, _law_turn, _law_mixed) -/
def b_pick_2 : Sx := (.seq (.ite (.cmp .gt (.ix (.var 0) (.c (.int 0))) (.c (.int 0)))
    (.seq (.asg (.name 2) (.bin .mod (.blt .int_ (.cons (.ix (.var 0) (.c (.int 0))) (.nil))) (.var 1)))
    (.seq (.setix (.var 0) (.c (.int 0)) (.bin .fdiv (.ix (.var 0) (.c (.int 0))) (.var 1)))
    (.ret (.var 2)))) .skip)
    (.seq (.setix (.var 0) (.c (.int 2)) (.bin .add (.ix (.var 0) (.c (.int 2))) (.c (.int 1))))
    (.seq (.asg (.name 3) (.ix (.var 0) (.c (.int 2))))
    (.seq (.asg (.name 4) (.bin .add (.bin .mul (.bin .add (.ix (.var 0) (.c (.int 1))) (.c (.int 11))) (.bin .add (.bin .add (.bin .mul (.bin .mul (.c (.int 19)) (.var 3)) (.var 3)) (.bin .mul (.c (.int 6364136)) (.var 3))) (.c (.int 5)))) (.bin .mul (.c (.int 40503)) (.var 3))))
    (.seq (.asg (.name 4) (.bin .fdiv (.bin .mod (.blt .int_ (.cons (.bin .add (.bin .mul (.var 4) (.var 4)) (.bin .mul (.c (.int 1442695)) (.var 4))) (.nil))) (.c (.int 2305843009213693951))) (.c (.int 2053))))
    (.ret (.bin .mod (.bin .fdiv (.bin .mod (.blt .int_ (.cons (.bin .add (.bin .add (.bin .mul (.var 4) (.var 4)) (.bin .mul (.c (.int 7919)) (.var 4))) (.var 3)) (.nil))) (.c (.int 1000000000039))) (.c (.int 32))) (.var 1))))))))
/-- 118: _law_cells (_law_script, _law_many) -/
def b_cells : Sx := (.ret (.bin .add (.lst (.cons (.c (.int 1600000000000000000000000000000000731)) (.nil))) (.sl false true (.var 0) .nop (.var 1))))
/-- 119: _law_draw_spot (_law_pot, _law_sorts, _law_wanted, _law_spots, _law_k) -/
def b_draw_spot : Sx := (.seq (.asg (.name 3) (.lc .range1 (.cons (.blt .len (.cons (.var 1) (.nil))) (.nil)) (.name 4) (.cmp .in_ (.ix (.var 1) (.var 4)) (.var 2)) (.var 4) [4]))
    (.ret (.ix (.lst (.cons (.ix (.var 3) (.neg (.c (.int 1)))) (.cons (.ix (.var 3) (.call 117 (.cons (.var 0) (.cons (.blt .len (.cons (.var 3) (.nil))) (.nil))))) (.nil)))) (.call 117 (.cons (.var 0) (.cons (.c (.int 2)) (.nil)))))))
/-- 120: _law_sort_behind (_law_sorts, _law_step, _law_kind) -/
def b_sort_behind : Sx := (.seq (.asg (.name 2) (.dct (.cons (.c (.str "read")) (.cons (.c (.str "reading")) (.cons (.c (.str "find")) (.cons (.c (.str "moment")) (.cons (.c (.str "offset")) (.cons (.c (.str "span")) (.cons (.c (.str "edition")) (.cons (.c (.str "moment")) (.cons (.c (.str "plus")) (.cons (.c (.str "reading")) .nil))))))))))))
    (.seq (.ite (.cmp .eq (.ix (.var 1) (.c (.int 0))) (.c (.str "add")))
    (.ret (.ix (.var 0) (.ix (.var 1) (.c (.int 1))))) .skip)
    (.ret (.getd (.var 2) (.ix (.var 1) (.c (.int 0))) (.c (.str "moment"))))))
/-- 121: _law_kinds_in (_law_tale, _law_sorts, _law_step) -/
def b_kinds_in : Sx := (.seq (.asg (.name 1) (.lst (.cons (.c (.str "moment")) (.nil))))
    (.seq (.for_ .seq (.cons (.var 0) .nil) (.name 2)
    (.drop (.meth .append (.var 1) (.cons (.call 120 (.cons (.var 1) (.cons (.var 2) (.nil)))) (.nil)))))
    (.ret (.var 1))))
/-- 122: _law_rule (_law_pot, _law_fold_word) -/
def b_rule : Sx := (.seq (.asg (.name 1) (.ix (.lst (.cons (.c (.str "early")) (.cons (.c (.str "late")) (.cons (.c (.str "early")) (.cons (.c (.str "late")) (.cons (.c (.str "refuse")) (.nil))))))) (.call 117 (.cons (.var 0) (.cons (.c (.int 5)) (.nil))))))
    (.ret (.tup (.cons (.var 1) (.cons (.ix (.lst (.cons (.c (.str "ahead")) (.cons (.c (.str "behind")) (.cons (.c (.str "ahead")) (.cons (.c (.str "behind")) (.cons (.c (.str "refuse")) (.nil))))))) (.call 117 (.cons (.var 0) (.cons (.c (.int 5)) (.nil))))) (.nil))))))
/-- 123: _law_words_open (_law_sorts, _law_tale, _law_left, _law_editions, _law_menu, _law_step) -/
def b_words_open : Sx := (.seq (.asg (.name 4) (.lst (.cons (.c (.str "add")) (.nil))))
    (.seq (.ite (.cmp .gt (.var 2) (.c (.int 0)))
    (.seq (.asg (.name 4) (.bin .add (.var 4) (.lst (.cons (.c (.str "read")) (.cons (.c (.str "read")) (.cons (.c (.str "offset")) (.nil)))))))
    (.seq (.ite (.cmp .in_ (.c (.str "reading")) (.var 0))
    (.asg (.name 4) (.bin .add (.var 4) (.lst (.cons (.c (.str "find")) (.cons (.c (.str "find")) (.cons (.c (.str "find")) (.nil))))))) .skip)
    (.ite (.and_ (.var 3) (.cmpd .eq (.lc .seq (.cons (.var 1) .nil) (.name 5) (.cmp .eq (.ix (.var 5) (.c (.int 0))) (.c (.str "edition"))) (.var 5) [5]) (.lst (.nil))))
    (.asg (.name 4) (.bin .add (.var 4) (.lst (.cons (.c (.str "edition")) (.nil))))) .skip))) .skip)
    (.seq (.ite (.cmp .in_ (.c (.str "span")) (.var 0))
    (.seq (.asg (.name 4) (.bin .add (.var 4) (.lst (.cons (.c (.str "plus")) (.nil)))))
    (.ite (.cmp .in_ (.c (.str "reading")) (.var 0))
    (.asg (.name 4) (.bin .add (.var 4) (.lst (.cons (.c (.str "less")) (.cons (.c (.str "less")) (.nil)))))) .skip)) .skip)
    (.ret (.var 4)))))
/-- 124: _law_draw_step (_law_pot, _law_many, _law_sorts, _law_menu, _law_minutes_, _law_word, _law_wanted, _law_at) -/
def b_draw_step : Sx := (.seq (.asg (.name 5) (.ix (.var 3) (.call 117 (.cons (.var 0) (.cons (.blt .len (.cons (.var 3) (.nil))) (.nil))))))
    (.seq (.asg (.name 6) (.dct (.cons (.c (.str "find")) (.cons (.lst (.cons (.c (.str "reading")) (.nil))) (.cons (.c (.str "less")) (.cons (.lst (.cons (.c (.str "reading")) (.nil))) (.cons (.c (.str "add")) (.cons (.lst (.cons (.c (.str "moment")) (.cons (.c (.str "reading")) (.nil)))) .nil))))))))
    (.seq (.asg (.name 7) (.call 119 (.cons (.var 0) (.cons (.var 2) (.cons (.getd (.var 6) (.var 5) (.lst (.cons (.c (.str "moment")) (.nil)))) (.nil))))))
    (.seq (.ite (.cmp .eq (.var 5) (.c (.str "add")))
    (.ret (.tup (.cons (.var 5) (.cons (.var 7) (.cons (.ix (.var 4) (.call 117 (.cons (.var 0) (.cons (.blt .len (.cons (.var 4) (.nil))) (.nil))))) (.nil)))))) .skip)
    (.seq (.ite (.cmp .in_ (.var 5) (.lst (.cons (.c (.str "plus")) (.cons (.c (.str "less")) (.nil)))))
    (.ret (.tup (.cons (.var 5) (.cons (.var 7) (.cons (.call 119 (.cons (.var 0) (.cons (.var 2) (.cons (.lst (.cons (.c (.str "span")) (.nil))) (.nil))))) (.nil)))))) .skip)
    (.seq (.ite (.cmp .eq (.var 5) (.c (.str "find")))
    (.ret (.bin .add (.tup (.cons (.var 5) (.cons (.var 7) (.cons (.call 117 (.cons (.var 0) (.cons (.var 1) (.nil)))) (.nil))))) (.call 122 (.cons (.var 0) (.nil))))) .skip)
    (.ret (.tup (.cons (.var 5) (.cons (.var 7) (.cons (.call 117 (.cons (.var 0) (.cons (.var 1) (.nil)))) (.nil))))))))))))
/-- 125: _law_draw_tale (_law_pot, _law_many, _law_size, _law_left, _law_editions, _law_minutes_, _law_begun, _law_tale, _law_sorts, _law_k, _law_step) -/
def b_draw_tale : Sx := (.seq (.asg (.name 7) (.blt .list_ (.cons (.var 6) (.nil))))
    (.seq (.asg (.name 8) (.call 121 (.cons (.var 6) (.nil))))
    (.seq (.for_ .range1 (.cons (.bin .sub (.var 2) (.blt .len (.cons (.var 6) (.nil)))) (.nil)) (.name 9)
    (.seq (.asg (.name 10) (.call 124 (.cons (.var 0) (.cons (.var 1) (.cons (.var 8) (.cons (.call 123 (.cons (.var 8) (.cons (.var 7) (.cons (.var 3) (.cons (.var 4) (.nil)))))) (.cons (.var 5) (.nil))))))))
    (.seq (.asg (.name 3) (.bin .sub (.var 3) (.blt .int_ (.cons (.cmp .in_ (.ix (.var 10) (.c (.int 0))) (.lst (.cons (.c (.str "read")) (.cons (.c (.str "find")) (.cons (.c (.str "offset")) (.cons (.c (.str "edition")) (.nil))))))) (.nil)))))
    (.seq (.drop (.meth .append (.var 8) (.cons (.call 120 (.cons (.var 8) (.cons (.var 10) (.nil)))) (.nil))))
    (.drop (.meth .append (.var 7) (.cons (.var 10) (.nil))))))))
    (.ret (.blt .tuple_ (.cons (.var 7) (.nil)))))))
/-- 126: _law_hours_in (_law_tale, _law_sorts, _law_k) -/
def b_hours_in : Sx := (.seq (.asg (.name 1) (.call 121 (.cons (.var 0) (.nil))))
    (.ret (.lc .range1 (.cons (.blt .len (.cons (.var 1) (.nil))) (.nil)) (.name 2) (.cmp .ne (.ix (.var 1) (.var 2)) (.c (.str "span"))) (.var 2) [2])))
/-- 127: _law_draw_shifts (_law_pot, _law_way, _law_some, _law_near, _law_low, _law_high, _law_middle) -/
def b_draw_shifts : Sx := (.seq (.asg (.name 1) (.call 117 (.cons (.var 0) (.cons (.c (.int 8)) (.nil)))))
    (.seq (.asg (.name 2) (.lst (.cons (.tup (.cons (.c (.int 0)) (.cons (.c (.int 60)) (.nil)))) (.cons (.tup (.cons (.neg (.c (.int 900))) (.cons (.c (.int 900)) (.nil)))) (.cons (.tup (.cons (.neg (.c (.int 900))) (.cons (.neg (.c (.int 899))) (.nil)))) (.cons (.tup (.cons (.c (.int 0)) (.nil))) (.nil)))))))
    (.seq (.asg (.name 2) (.bin .add (.var 2) (.lst (.cons (.tup (.cons (.neg (.c (.int 660))) (.cons (.neg (.c (.int 600))) (.cons (.c (.int 840)) (.nil))))) (.cons (.tup (.cons (.neg (.c (.int 1))) (.cons (.c (.int 0)) (.cons (.c (.int 1)) (.nil))))) (.cons (.tup (.cons (.c (.int 899)) (.cons (.c (.int 900)) (.nil)))) (.cons (.tup (.cons (.c (.int 0)) (.cons (.c (.int 1)) (.cons (.c (.int 900)) (.nil))))) (.nil))))))))
    (.seq (.ite (.cmp .lt (.var 1) (.c (.int 2)))
    (.ret (.ix (.var 2) (.call 117 (.cons (.var 0) (.cons (.c (.int 8)) (.nil)))))) .skip)
    (.seq (.asg (.name 3) (.ix (.lst (.cons (.c (.int 1)) (.cons (.c (.int 2)) (.cons (.c (.int 60)) (.cons (.c (.int 30)) (.cons (.c (.int 7)) (.cons (.c (.int 1440)) (.cons (.c (.int 1800)) (.nil))))))))) (.call 117 (.cons (.var 0) (.cons (.c (.int 7)) (.nil))))))
    (.seq (.asg (.name 4) (.bin .sub (.call 117 (.cons (.var 0) (.cons (.c (.int 1801)) (.nil)))) (.c (.int 900))))
    (.seq (.asg (.name 5) (.blt .min_ (.cons (.c (.int 900)) (.cons (.bin .add (.bin .add (.var 4) (.c (.int 1))) (.call 117 (.cons (.var 0) (.cons (.var 3) (.nil))))) (.nil)))))
    (.seq (.asg (.name 6) (.bin .add (.bin .add (.var 4) (.c (.int 1))) (.call 117 (.cons (.var 0) (.cons (.blt .max_ (.cons (.c (.int 1)) (.cons (.bin .sub (.bin .sub (.var 5) (.var 4)) (.c (.int 1))) (.nil)))) (.nil))))))
    (.seq (.ite (.and_ (.cmp .eq (.var 1) (.c (.int 7))) (.chain .lt .lt (.var 4) (.var 6) (.var 5)))
    (.ret (.tup (.cons (.var 4) (.cons (.var 6) (.cons (.var 5) (.nil)))))) .skip)
    (.ret (.ite (.and_ (.cmp .lt (.var 4) (.var 5)) (.cmp .gt (.var 1) (.c (.int 2)))) (.tup (.cons (.var 4) (.cons (.var 5) (.nil)))) (.tup (.cons (.var 4) (.nil))))))))))))))
/-- 128: _law_draw_apart (_law_pot, _law_shifts, _law_least, _law_some) -/
def b_draw_apart : Sx := (.seq (.asg (.name 2) (.bin .add (.bin .sub (.ix (.var 1) (.neg (.c (.int 1)))) (.ix (.var 1) (.c (.int 0)))) (.c (.int 1))))
    (.seq (.asg (.name 3) (.lst (.cons (.var 2) (.cons (.var 2) (.cons (.bin .add (.var 2) (.call 117 (.cons (.var 0) (.cons (.c (.int 4)) (.nil))))) (.cons (.bin .add (.var 2) (.call 117 (.cons (.var 0) (.cons (.c (.int 300)) (.nil))))) (.cons (.bin .mul (.c (.int 2)) (.var 2)) (.cons (.c (.int 1440)) (.cons (.c (.int 1000000)) (.nil))))))))))
    (.seq (.asg (.name 3) (.bin .add (.var 3) (.lst (.cons (.bin .add (.c (.int 1)) (.call 117 (.cons (.var 0) (.cons (.c (.int 1000000)) (.nil))))) (.cons (.bin .add (.c (.int 100000)) (.call 117 (.cons (.var 0) (.cons (.c (.int 60)) (.nil))))) (.nil))))))
    (.ret (.blt .max_ (.cons (.var 2) (.cons (.ix (.var 3) (.call 117 (.cons (.var 0) (.cons (.c (.int 9)) (.nil))))) (.nil))))))))
/-- 129: _law_draw_fields (_law_pot, _law_many, _law_most_shifts, _law_fields, _law_k, _law_shifts, _law_dial) -/
def b_draw_fields : Sx := (.seq (.asg (.name 3) (.lst (.nil)))
    (.seq (.for_ .range1 (.cons (.var 1) (.nil)) (.name 4)
    (.seq (.asg (.name 5) (.sl false true (.call 127 (.cons (.var 0) (.nil))) .nop (.var 2)))
    (.seq (.ite (.and_ (.cmp .gt (.var 4) (.c (.int 0))) (.cmp .eq (.call 117 (.cons (.var 0) (.cons (.c (.int 3)) (.nil)))) (.c (.int 0))))
    (.asg (.name 5) (.ix (.ix (.var 3) (.c (.int 0))) (.c (.int 0)))) .skip)
    (.seq (.asg (.name 6) (.tup (.cons (.var 5) (.cons (.call 128 (.cons (.var 0) (.cons (.var 5) (.nil)))) (.nil)))))
    (.drop (.meth .append (.var 3) (.cons (.ite (.and_ (.cmp .gt (.var 4) (.c (.int 0))) (.cmp .eq (.call 117 (.cons (.var 0) (.cons (.c (.int 8)) (.nil)))) (.c (.int 0)))) (.ix (.var 3) (.c (.int 0))) (.var 6)) (.nil))))))))
    (.ret (.blt .tuple_ (.cons (.var 3) (.nil))))))
/-- 130: _law_minutes (_law_pot, _law_fields, _law_dial, _law_wide, _law_some, _law_drawn, _law_k, _law_number) -/
def b_minutes_2 : Sx := (.seq (.asg (.name 2) (.ix (.var 1) (.call 117 (.cons (.var 0) (.cons (.blt .len (.cons (.var 1) (.nil))) (.nil))))))
    (.seq (.asg (.name 3) (.bin .sub (.ix (.ix (.var 2) (.c (.int 0))) (.neg (.c (.int 1)))) (.ix (.ix (.var 2) (.c (.int 0))) (.c (.int 0)))))
    (.seq (.asg (.name 4) (.lst (.cons (.var 3) (.cons (.bin .sub (.var 3) (.c (.int 1))) (.cons (.bin .add (.var 3) (.c (.int 1))) (.cons (.ix (.var 2) (.c (.int 1))) (.cons (.bin .sub (.ix (.var 2) (.c (.int 1))) (.c (.int 1))) (.cons (.bin .add (.ix (.var 2) (.c (.int 1))) (.c (.int 1))) (.cons (.bin .sub (.ix (.var 2) (.c (.int 1))) (.var 3)) (.cons (.bin .mul (.c (.int 2)) (.ix (.var 2) (.c (.int 1)))) (.nil)))))))))))
    (.seq (.asg (.name 4) (.bin .add (.var 4) (.lst (.cons (.c (.int 1)) (.cons (.c (.int 0)) (.cons (.c (.int 1440)) (.cons (.c (.int 60)) (.cons (.c (.int 100000)) (.cons (.call 117 (.cons (.var 0) (.cons (.c (.int 100001)) (.nil)))) (.cons (.call 117 (.cons (.var 0) (.cons (.c (.int 2000)) (.nil)))) (.cons (.bin .sub (.bin .sub (.ix (.var 2) (.c (.int 1))) (.var 3)) (.c (.int 1))) (.nil))))))))))))
    (.seq (.asg (.name 5) (.lc .range1 (.cons (.c (.int 8)) (.nil)) (.name 6) (.c (.bl true)) (.bin .mul (.ix (.var 4) (.call 117 (.cons (.var 0) (.cons (.c (.int 16)) (.nil))))) (.ix (.lst (.cons (.c (.int 1)) (.cons (.neg (.c (.int 1))) (.nil)))) (.call 117 (.cons (.var 0) (.cons (.c (.int 2)) (.nil)))))) [6]))
    (.ret (.lc .seq (.cons (.var 5) .nil) (.name 7) (.c (.bl true)) (.blt .max_ (.cons (.neg (.c (.int 100000))) (.cons (.blt .min_ (.cons (.c (.int 100000)) (.cons (.var 7) (.nil)))) (.nil)))) [7])))))))
/-- 131: _law_draw_want (_law_pot, _law_hours, _law_word, _law_want, _law_some) -/
def b_draw_want : Sx := (.seq (.asg (.name 2) (.ix (.lst (.cons (.c (.str "found")) (.cons (.c (.str "same")) (.cons (.c (.str "order")) (.cons (.c (.str "near")) (.nil)))))) (.call 117 (.cons (.var 0) (.cons (.c (.int 4)) (.nil))))))
    (.seq (.ite (.cmp .eq (.var 2) (.c (.str "found")))
    (.ret (.tup (.cons (.var 2) (.nil)))) .skip)
    (.seq (.asg (.name 3) (.tup (.cons (.var 2) (.cons (.ix (.var 1) (.call 117 (.cons (.var 0) (.cons (.blt .len (.cons (.var 1) (.nil))) (.nil))))) (.cons (.ix (.var 1) (.call 117 (.cons (.var 0) (.cons (.blt .len (.cons (.var 1) (.nil))) (.nil))))) (.nil))))))
    (.seq (.ite (.cmp .ne (.var 2) (.c (.str "near")))
    (.ret (.var 3)) .skip)
    (.seq (.asg (.name 4) (.lst (.cons (.c (.int 0)) (.cons (.c (.int 1)) (.cons (.c (.int 1000000)) (.cons (.c (.int 60)) (.cons (.call 117 (.cons (.var 0) (.cons (.c (.int 2000)) (.nil)))) (.cons (.call 117 (.cons (.var 0) (.cons (.c (.int 1000001)) (.nil)))) (.cons (.c (.int 1801)) (.nil))))))))))
    (.ret (.bin .add (.var 3) (.tup (.cons (.ix (.var 4) (.call 117 (.cons (.var 0) (.cons (.c (.int 7)) (.nil))))) (.nil))))))))))
/-- 132: _law_text (_law_tale, _law_parts, _law_step, _law_part) -/
def b_text : Sx := (.seq (.ite (.cmpd .eq (.var 0) (.tup (.nil)))
    (.ret (.c (.str "-"))) .skip)
    (.seq (.asg (.name 1) (.lst (.nil)))
    (.seq (.for_ .seq (.cons (.var 0) .nil) (.name 2)
    (.drop (.meth .append (.var 1) (.cons (.joinS " " (.lc .seq (.cons (.var 2) .nil) (.name 3) (.c (.bl true)) (.blt .str_ (.cons (.var 3) (.nil))) [3])) (.nil)))))
    (.ret (.joinS " then " (.var 1))))))
/-- 133: _law_long_tale (_law_pot, _law_fields, _law_left, _law_size, _law_amounts) -/
def b_long_tale : Sx := (.seq (.asg (.name 3) (.ix (.lst (.cons (.call 117 (.cons (.var 0) (.cons (.c (.int 9)) (.nil)))) (.cons (.c (.int 8)) (.cons (.call 117 (.cons (.var 0) (.cons (.c (.int 4)) (.nil)))) (.cons (.c (.int 8)) (.nil)))))) (.call 117 (.cons (.var 0) (.cons (.c (.int 4)) (.nil))))))
    (.seq (.asg (.name 4) (.bin .add (.call 130 (.cons (.var 0) (.cons (.var 1) (.nil)))) (.lst (.cons (.c (.int 100000)) (.cons (.neg (.c (.int 100000))) (.nil))))))
    (.ret (.call 125 (.cons (.var 0) (.cons (.blt .len (.cons (.var 1) (.nil))) (.cons (.var 3) (.cons (.var 2) (.cons (.c (.bl true)) (.cons (.var 4) (.cons (.tup (.nil)) (.nil))))))))))))
/-- 136: _check_end (row, place) -/
def b_check_end : Sx := (.ite (.cmp .lt (.var 1) (.blt .len (.cons (.var 0) (.nil))))
    .stuck .skip)
/-- 137: _word_at (row, place) -/
def b_word_at : Sx := (.seq (.ite (.cmp .ge (.var 1) (.blt .len (.cons (.var 0) (.nil))))
    .stuck .skip)
    (.ret (.ix (.var 0) (.var 1))))
/-- 138: _can_begin (known, program, word, step, role) -/
def b_can_begin : Sx := (.seq (.ite (.cin true [("read", .tup [.str "moment", .str "place"]), ("find", .tup [.str "reading", .str "place", .str "fold", .str "gap"]), ("offset", .tup [.str "moment", .str "place"]), ("edition", .tup [.str "moment", .str "place"]), ("plus", .tup [.str "moment", .str "span"]), ("less", .tup [.str "reading", .str "span"]), ("add", .tup [.str "time", .str "minutes"])] (.var 2))
    (.ret (.c (.bl false))) .skip)
    (.seq (.ite (.and_ (.cmp .eq (.var 2) (.c (.str "edition"))) (.cmp .in_ (.var 2) (.lc .seq (.cons (.var 1) .nil) (.name 3) (.c (.bl true)) (.ix (.var 3) (.c (.int 0))) [3])))
    (.ret (.c (.bl false))) .skip)
    (.ret (.blt .all_ (.cons (.lc .seq (.cons (.cix [("read", .tup [.str "moment", .str "place"]), ("find", .tup [.str "reading", .str "place", .str "fold", .str "gap"]), ("offset", .tup [.str "moment", .str "place"]), ("edition", .tup [.str "moment", .str "place"]), ("plus", .tup [.str "moment", .str "span"]), ("less", .tup [.str "reading", .str "span"]), ("add", .tup [.str "time", .str "minutes"])] (.var 2)) .nil) (.name 4) (.cmp .in_ (.var 4) (.c (.tup [.str "moment", .str "reading", .str "span"]))) (.cmp .in_ (.var 4) (.var 0)) [4]) (.nil))))))
/-- 139: number_from (word, digits, mark) -/
def b_number_from : Sx := (.seq (.asg (.name 1) (.ite (.stw (.var 0) "-") (.sl true false (.var 0) (.c (.int 1)) .nop) (.var 0)))
    (.seq (.ite (.or_ (.not_ (.chain .le .le (.c (.int 1)) (.blt .slen (.cons (.var 1) (.nil))) (.c (.int 12)))) (.not_ (.blt .all_ (.cons (.lc .chars (.cons (.var 1) .nil) (.name 2) (.c (.bl true)) (.sgn (.var 2) (.c (.str "0123456789"))) [2]) (.nil)))))
    (.ret (.c .non)) .skip)
    (.seq (.ite (.and_ (.stw (.var 1) "0") (.cmp .ne (.var 0) (.c (.str "0"))))
    (.ret (.c .non)) .skip)
    (.ret (.blt .sint (.cons (.var 0) (.nil)))))))
/-- 140: _item_from (role, word) -/
def b_item_from : Sx := (.seq (.ite (.cmp .in_ (.var 0) (.tup (.cons (.c (.str "fold")) (.cons (.c (.str "gap")) (.nil)))))
    (.ret (.var 1)) .skip)
    (.ret (.call 139 (.cons (.var 1) (.nil)))))
/-- 141: _step_from (zones, program, row, place, known, word, step, role, further, item) -/
def b_step_from : Sx := (.seq (.asg (.name 4) (.call 96 (.cons (.var 1) (.nil))))
    (.seq (.asg (.name 5) (.call 137 (.cons (.var 2) (.cons (.var 3) (.nil)))))
    (.seq (.ite (.not_ (.call 138 (.cons (.var 4) (.cons (.var 1) (.cons (.var 5) (.nil))))))
    .stuck .skip)
    (.seq (.asg (.name 6) (.tup (.cons (.var 5) (.nil))))
    (.seq (.for_ .seq (.cons (.cix [("read", .tup [.str "moment", .str "place"]), ("find", .tup [.str "reading", .str "place", .str "fold", .str "gap"]), ("offset", .tup [.str "moment", .str "place"]), ("edition", .tup [.str "moment", .str "place"]), ("plus", .tup [.str "moment", .str "span"]), ("less", .tup [.str "reading", .str "span"]), ("add", .tup [.str "time", .str "minutes"])] (.var 5)) .nil) (.name 7)
    (.seq (.asg (.name 8) (.bin .add (.var 3) (.blt .len (.cons (.var 6) (.nil)))))
    (.seq (.asg (.name 9) (.call 140 (.cons (.var 7) (.cons (.call 137 (.cons (.var 2) (.cons (.var 8) (.nil)))) (.nil)))))
    (.seq (.ite (.not_ (.call 90 (.cons (.var 0) (.cons (.var 4) (.cons (.var 7) (.cons (.var 9) (.nil)))))))
    .stuck .skip)
    (.asg (.name 6) (.bin .add (.var 6) (.tup (.cons (.var 9) (.nil)))))))))
    (.ret (.var 6)))))))
/-- 142: read_program (zones, words, row, program, place, step) -/
def b_read_program : Sx := (.seq (.drop (.call 86 (.cons (.var 0) (.nil))))
    (.seq (.asg (.name 2) (.split (.var 1) " "))
    (.seq (.ite (.cmp .eq (.ix (.var 2) (.c (.int 0))) (.c (.str "-")))
    (.seq (.drop (.call 136 (.cons (.var 2) (.cons (.c (.int 1)) (.nil)))))
    (.ret (.tup (.nil)))) .skip)
    (.seq (.asg (.name 3) (.tup (.cons (.call 141 (.cons (.var 0) (.cons (.tup (.nil)) (.cons (.var 2) (.cons (.c (.int 0)) (.nil)))))) (.nil))))
    (.seq (.asg (.name 4) (.blt .len (.cons (.ix (.var 3) (.c (.int 0))) (.nil))))
    (.seq (.while_ (.cmp .lt (.var 4) (.blt .len (.cons (.var 2) (.nil))))
    (.seq (.ite (.or_ (.cmp .ne (.ix (.var 2) (.var 4)) (.c (.str "then"))) (.cmp .eq (.blt .len (.cons (.var 3) (.nil))) (.c (.int 8))))
    .stuck .skip)
    (.seq (.asg (.name 5) (.call 141 (.cons (.var 0) (.cons (.var 3) (.cons (.var 2) (.cons (.bin .add (.var 4) (.c (.int 1))) (.nil)))))))
    (.seq (.asg (.name 3) (.bin .add (.var 3) (.tup (.cons (.var 5) (.nil)))))
    (.aug 4 .add (.bin .add (.c (.int 1)) (.blt .len (.cons (.var 5) (.nil)))))))))
    (.ret (.var 3))))))))
/-- 143: read_wish (zones, program, words, row, known, wish, role, item) -/
def b_read_wish : Sx := (.seq (.drop (.call 86 (.cons (.var 0) (.nil))))
    (.seq (.drop (.call 95 (.cons (.var 0) (.cons (.var 1) (.nil)))))
    (.seq (.asg (.name 3) (.split (.var 2) " "))
    (.seq (.asg (.name 4) (.call 96 (.cons (.var 1) (.nil))))
    (.seq (.ite (.cin true [("found", .tup []), ("same", .tup [.str "time", .str "time"]), ("order", .tup [.str "time", .str "time"]), ("near", .tup [.str "time", .str "time", .str "most"])] (.ix (.var 3) (.c (.int 0))))
    .stuck .skip)
    (.seq (.asg (.name 5) (.tup (.cons (.ix (.var 3) (.c (.int 0))) (.nil))))
    (.seq (.for_ .seq (.cons (.cix [("found", .tup []), ("same", .tup [.str "time", .str "time"]), ("order", .tup [.str "time", .str "time"]), ("near", .tup [.str "time", .str "time", .str "most"])] (.ix (.var 3) (.c (.int 0)))) .nil) (.name 6)
    (.seq (.asg (.name 7) (.call 139 (.cons (.call 137 (.cons (.var 3) (.cons (.blt .len (.cons (.var 5) (.nil))) (.nil)))) (.nil))))
    (.seq (.ite (.not_ (.call 110 (.cons (.var 4) (.cons (.var 6) (.cons (.var 7) (.nil))))))
    .stuck .skip)
    (.asg (.name 5) (.bin .add (.var 5) (.tup (.cons (.var 7) (.nil))))))))
    (.seq (.drop (.call 136 (.cons (.var 3) (.cons (.blt .len (.cons (.var 5) (.nil))) (.nil)))))
    (.ret (.var 5))))))))))
/-- 144: _law_right (_law_pot, _law_fields, _law_tale, _law_k, _law_short, _law_turn, _law_want, _law_text_here, _law_part) -/
def b_right_2 : Sx := (.seq (.asg (.name 1) (.call 129 (.cons (.var 0) (.cons (.bin .add (.c (.int 1)) (.call 117 (.cons (.var 0) (.cons (.c (.int 2)) (.nil))))) (.cons (.c (.int 3)) (.nil))))))
    (.seq (.asg (.name 2) (.call 133 (.cons (.var 0) (.cons (.var 1) (.cons (.c (.int 8)) (.nil))))))
    (.seq (.for_ .range1 (.cons (.bin .add (.blt .len (.cons (.var 2) (.nil))) (.c (.int 1))) (.nil)) (.name 3)
    (.seq (.asg (.name 4) (.sl false true (.var 2) .nop (.var 3)))
    (.seq (.ite (.cmp .ne (.rpr (.call 142 (.cons (.var 1) (.cons (.call 114 (.cons (.var 1) (.cons (.var 4) (.nil)))) (.nil))))) (.rpr (.var 4)))
    (.ret (.c (.bl false))) .skip)
    (.ite (.cmp .ne (.rpr (.callK 142 .nil (.cons (.call 132 (.cons (.var 4) (.nil))) (.cons (.var 1) .nil)) [1, 0])) (.rpr (.var 4)))
    (.ret (.c (.bl false))) .skip))))
    (.seq (.for_ .range1 (.cons (.c (.int 8)) (.nil)) (.name 5)
    (.seq (.asg (.name 6) (.call 131 (.cons (.var 0) (.cons (.call 126 (.cons (.var 2) (.nil))) (.nil)))))
    (.seq (.ite (.cmp .ne (.rpr (.call 143 (.cons (.var 1) (.cons (.var 2) (.cons (.call 115 (.cons (.var 1) (.cons (.var 2) (.cons (.var 6) (.nil))))) (.nil)))))) (.rpr (.var 6)))
    (.ret (.c (.bl false))) .skip)
    (.seq (.asg (.name 7) (.joinS " " (.lc .seq (.cons (.var 6) .nil) (.name 8) (.c (.bl true)) (.blt .str_ (.cons (.var 8) (.nil))) [8])))
    (.ite (.cmp .ne (.rpr (.callK 143 .nil (.cons (.var 7) (.cons (.var 2) (.cons (.var 1) .nil))) [2, 1, 0])) (.rpr (.var 6)))
    (.ret (.c (.bl false))) .skip)))))
    (.ret (.c (.bl true)))))))
/-- 145: law (_law_script, _law_cell) -/
def b_law_k63 : Sx := (.seq (.for_ .seq (.cons (.call 118 (.cons (.var 0) (.cons (.c (.int 6)) (.nil)))) .nil) (.name 1)
    (.ite (.not_ (.call 144 (.cons (.call 116 (.cons (.var 1) (.nil))) (.nil))))
    (.ret (.c (.bl false))) .skip))
    (.ret (.c (.bl true))))
def T : Nat → Option Fd
  | 0 => some ⟨1, 1, b_is_number⟩
  | 1 => some ⟨1, 1, b_is_pair⟩
  | 3 => some ⟨1, 3, b_is_ascending⟩
  | 4 => some ⟨1, 1, b_is_near⟩
  | 5 => some ⟨1, 2, b_are_offsets⟩
  | 6 => some ⟨1, 3, b_is_zone⟩
  | 65 => some ⟨2, 2, b_is_rule⟩
  | 84 => some ⟨1, 1, b_first_word⟩
  | 85 => some ⟨1, 2, b_is_zones⟩
  | 86 => some ⟨1, 1, b_check_zones⟩
  | 87 => some ⟨2, 2, b_is_place⟩
  | 88 => some ⟨2, 2, b_is_index⟩
  | 89 => some ⟨2, 2, b_is_time⟩
  | 90 => some ⟨4, 4, b_fits_role⟩
  | 91 => some ⟨3, 6, b_is_step⟩
  | 92 => some ⟨2, 2, b_made_kind⟩
  | 93 => some ⟨2, 4, b_fits_as_program⟩
  | 95 => some ⟨2, 2, b_check_program⟩
  | 96 => some ⟨1, 3, b_kinds_of_values⟩
  | 110 => some ⟨3, 3, b_fits_wish_role⟩
  | 111 => some ⟨2, 6, b_fits_as_wish⟩
  | 112 => some ⟨2, 2, b_check_wish⟩
  | 113 => some ⟨1, 2, b_text_of⟩
  | 114 => some ⟨2, 3, b_write_program⟩
  | 115 => some ⟨3, 3, b_write_wish⟩
  | 116 => some ⟨1, 2, b_make_pot⟩
  | 117 => some ⟨2, 5, b_pick_2⟩
  | 118 => some ⟨2, 2, b_cells⟩
  | 119 => some ⟨3, 5, b_draw_spot⟩
  | 120 => some ⟨2, 3, b_sort_behind⟩
  | 121 => some ⟨1, 3, b_kinds_in⟩
  | 122 => some ⟨1, 2, b_rule⟩
  | 123 => some ⟨4, 6, b_words_open⟩
  | 124 => some ⟨5, 8, b_draw_step⟩
  | 125 => some ⟨7, 11, b_draw_tale⟩
  | 126 => some ⟨1, 3, b_hours_in⟩
  | 127 => some ⟨1, 7, b_draw_shifts⟩
  | 128 => some ⟨2, 4, b_draw_apart⟩
  | 129 => some ⟨3, 7, b_draw_fields⟩
  | 130 => some ⟨2, 8, b_minutes_2⟩
  | 131 => some ⟨2, 5, b_draw_want⟩
  | 132 => some ⟨1, 4, b_text⟩
  | 133 => some ⟨3, 5, b_long_tale⟩
  | 136 => some ⟨2, 2, b_check_end⟩
  | 137 => some ⟨2, 2, b_word_at⟩
  | 138 => some ⟨3, 5, b_can_begin⟩
  | 139 => some ⟨1, 3, b_number_from⟩
  | 140 => some ⟨2, 2, b_item_from⟩
  | 141 => some ⟨4, 10, b_step_from⟩
  | 142 => some ⟨2, 6, b_read_program⟩
  | 143 => some ⟨3, 8, b_read_wish⟩
  | 144 => some ⟨1, 9, b_right_2⟩
  | 145 => some ⟨1, 2, b_law_k63⟩
  | _ => none
theorem T_is_number : T 0 = some ⟨1, 1, b_is_number⟩ := rfl
theorem T_is_pair : T 1 = some ⟨1, 1, b_is_pair⟩ := rfl
theorem T_is_ascending : T 3 = some ⟨1, 3, b_is_ascending⟩ := rfl
theorem T_is_near : T 4 = some ⟨1, 1, b_is_near⟩ := rfl
theorem T_are_offsets : T 5 = some ⟨1, 2, b_are_offsets⟩ := rfl
theorem T_is_zone : T 6 = some ⟨1, 3, b_is_zone⟩ := rfl
theorem T_is_rule : T 65 = some ⟨2, 2, b_is_rule⟩ := rfl
theorem T_first_word : T 84 = some ⟨1, 1, b_first_word⟩ := rfl
theorem T_is_zones : T 85 = some ⟨1, 2, b_is_zones⟩ := rfl
theorem T_check_zones : T 86 = some ⟨1, 1, b_check_zones⟩ := rfl
theorem T_is_place : T 87 = some ⟨2, 2, b_is_place⟩ := rfl
theorem T_is_index : T 88 = some ⟨2, 2, b_is_index⟩ := rfl
theorem T_is_time : T 89 = some ⟨2, 2, b_is_time⟩ := rfl
theorem T_fits_role : T 90 = some ⟨4, 4, b_fits_role⟩ := rfl
theorem T_is_step : T 91 = some ⟨3, 6, b_is_step⟩ := rfl
theorem T_made_kind : T 92 = some ⟨2, 2, b_made_kind⟩ := rfl
theorem T_fits_as_program : T 93 = some ⟨2, 4, b_fits_as_program⟩ := rfl
theorem T_check_program : T 95 = some ⟨2, 2, b_check_program⟩ := rfl
theorem T_kinds_of_values : T 96 = some ⟨1, 3, b_kinds_of_values⟩ := rfl
theorem T_fits_wish_role : T 110 = some ⟨3, 3, b_fits_wish_role⟩ := rfl
theorem T_fits_as_wish : T 111 = some ⟨2, 6, b_fits_as_wish⟩ := rfl
theorem T_check_wish : T 112 = some ⟨2, 2, b_check_wish⟩ := rfl
theorem T_text_of : T 113 = some ⟨1, 2, b_text_of⟩ := rfl
theorem T_write_program : T 114 = some ⟨2, 3, b_write_program⟩ := rfl
theorem T_write_wish : T 115 = some ⟨3, 3, b_write_wish⟩ := rfl
theorem T_make_pot : T 116 = some ⟨1, 2, b_make_pot⟩ := rfl
theorem T_pick_2 : T 117 = some ⟨2, 5, b_pick_2⟩ := rfl
theorem T_cells : T 118 = some ⟨2, 2, b_cells⟩ := rfl
theorem T_draw_spot : T 119 = some ⟨3, 5, b_draw_spot⟩ := rfl
theorem T_sort_behind : T 120 = some ⟨2, 3, b_sort_behind⟩ := rfl
theorem T_kinds_in : T 121 = some ⟨1, 3, b_kinds_in⟩ := rfl
theorem T_rule : T 122 = some ⟨1, 2, b_rule⟩ := rfl
theorem T_words_open : T 123 = some ⟨4, 6, b_words_open⟩ := rfl
theorem T_draw_step : T 124 = some ⟨5, 8, b_draw_step⟩ := rfl
theorem T_draw_tale : T 125 = some ⟨7, 11, b_draw_tale⟩ := rfl
theorem T_hours_in : T 126 = some ⟨1, 3, b_hours_in⟩ := rfl
theorem T_draw_shifts : T 127 = some ⟨1, 7, b_draw_shifts⟩ := rfl
theorem T_draw_apart : T 128 = some ⟨2, 4, b_draw_apart⟩ := rfl
theorem T_draw_fields : T 129 = some ⟨3, 7, b_draw_fields⟩ := rfl
theorem T_minutes_2 : T 130 = some ⟨2, 8, b_minutes_2⟩ := rfl
theorem T_draw_want : T 131 = some ⟨2, 5, b_draw_want⟩ := rfl
theorem T_text : T 132 = some ⟨1, 4, b_text⟩ := rfl
theorem T_long_tale : T 133 = some ⟨3, 5, b_long_tale⟩ := rfl
theorem T_check_end : T 136 = some ⟨2, 2, b_check_end⟩ := rfl
theorem T_word_at : T 137 = some ⟨2, 2, b_word_at⟩ := rfl
theorem T_can_begin : T 138 = some ⟨3, 5, b_can_begin⟩ := rfl
theorem T_number_from : T 139 = some ⟨1, 3, b_number_from⟩ := rfl
theorem T_item_from : T 140 = some ⟨2, 2, b_item_from⟩ := rfl
theorem T_step_from : T 141 = some ⟨4, 10, b_step_from⟩ := rfl
theorem T_read_program : T 142 = some ⟨2, 6, b_read_program⟩ := rfl
theorem T_read_wish : T 143 = some ⟨3, 8, b_read_wish⟩ := rfl
theorem T_right_2 : T 144 = some ⟨1, 9, b_right_2⟩ := rfl
theorem T_law_k63 : T 145 = some ⟨1, 2, b_law_k63⟩ := rfl
end Lw

namespace Lw
open PySem L2 Ix
def topS (i : Nat) : Stmt := PySem.Challenge.pw_hoursmeant_k63_whole_programs_read_back.main.body.getD i (.Pass ⟨0, 0, 0, 0⟩)
/-! 0: is_number -/
abbrev s_0 : Stmt := topS 7
abbrev P_0 : List Str := ["value"]
abbrev N_0 : List Str := ["value"]
/-! 1: is_pair -/
abbrev s_1 : Stmt := topS 8
abbrev P_1 : List Str := ["value"]
abbrev N_1 : List Str := ["value"]
/-! 84: first_word -/
abbrev s_84 : Stmt := topS 9
abbrev P_84 : List Str := ["value"]
abbrev N_84 : List Str := ["value"]
/-! 6: is_zone -/
abbrev s_6 : Stmt := topS 17
abbrev P_6 : List Str := ["value"]
abbrev N_6 : List Str := ["value", "offsets", "spacing"]
/-! 85: is_zones -/
abbrev s_85 : Stmt := topS 18
abbrev P_85 : List Str := ["value"]
abbrev N_85 : List Str := ["value", "item"]
/-! 86: check_zones -/
abbrev s_86 : Stmt := topS 19
abbrev P_86 : List Str := ["value"]
abbrev N_86 : List Str := ["value"]
/-! 87: is_place -/
abbrev s_87 : Stmt := topS 20
abbrev P_87 : List Str := ["zones", "value"]
abbrev N_87 : List Str := ["zones", "value"]
/-! 65: is_rule -/
abbrev s_65 : Stmt := topS 21
abbrev P_65 : List Str := ["value", "rules"]
abbrev N_65 : List Str := ["value", "rules"]
/-! 3: is_ascending -/
abbrev s_3 : Stmt := topS 22
abbrev P_3 : List Str := ["numbers"]
abbrev N_3 : List Str := ["numbers", "one", "other"]
/-! 5: _are_offsets -/
abbrev s_5 : Stmt := topS 23
abbrev P_5 : List Str := ["value"]
abbrev N_5 : List Str := ["value", "item"]
/-! 4: _is_near -/
abbrev s_4 : Stmt := topS 24
abbrev P_4 : List Str := ["value"]
abbrev N_4 : List Str := ["value"]
/-! 95: check_program -/
abbrev s_95 : Stmt := topS 31
abbrev P_95 : List Str := ["zones", "value"]
abbrev N_95 : List Str := ["zones", "value"]
/-! 93: fits_as_program -/
abbrev s_93 : Stmt := topS 32
abbrev P_93 : List Str := ["zones", "value"]
abbrev N_93 : List Str := ["zones", "value", "known", "step"]
/-! 96: kinds_of_values -/
abbrev s_96 : Stmt := topS 33
abbrev P_96 : List Str := ["program"]
abbrev N_96 : List Str := ["program", "known", "step"]
/-! 90: fits_step_role -/
abbrev s_90 : Stmt := topS 34
abbrev P_90 : List Str := ["zones", "known", "role", "value"]
abbrev N_90 : List Str := ["zones", "known", "role", "value"]
/-! 89: is_time -/
abbrev s_89 : Stmt := topS 35
abbrev P_89 : List Str := ["known", "value"]
abbrev N_89 : List Str := ["known", "value"]
/-! 91: _is_step -/
abbrev s_91 : Stmt := topS 36
abbrev P_91 : List Str := ["zones", "known", "value"]
abbrev N_91 : List Str := ["zones", "known", "value", "roles", "role", "item"]
/-! 88: _is_index -/
abbrev s_88 : Stmt := topS 37
abbrev P_88 : List Str := ["known", "value"]
abbrev N_88 : List Str := ["known", "value"]
/-! 92: _made_kind -/
abbrev s_92 : Stmt := topS 38
abbrev P_92 : List Str := ["known", "step"]
abbrev N_92 : List Str := ["known", "step"]
/-! 112: check_wish -/
abbrev s_112 : Stmt := topS 42
abbrev P_112 : List Str := ["program", "value"]
abbrev N_112 : List Str := ["program", "value"]
/-! 111: fits_as_wish -/
abbrev s_111 : Stmt := topS 43
abbrev P_111 : List Str := ["program", "value"]
abbrev N_111 : List Str := ["program", "value", "roles", "known", "role", "item"]
/-! 110: fits_wish_role -/
abbrev s_110 : Stmt := topS 44
abbrev P_110 : List Str := ["known", "role", "value"]
abbrev N_110 : List Str := ["known", "role", "value"]
/-! 114: write_program -/
abbrev s_114 : Stmt := topS 49
abbrev P_114 : List Str := ["zones", "program"]
abbrev N_114 : List Str := ["zones", "program", "step"]
/-! 142: read_program -/
abbrev s_142 : Stmt := topS 50
abbrev P_142 : List Str := ["zones", "words"]
abbrev N_142 : List Str := ["zones", "words", "row", "program", "place", "step"]
/-! 115: write_wish -/
abbrev s_115 : Stmt := topS 51
abbrev P_115 : List Str := ["zones", "program", "wish"]
abbrev N_115 : List Str := ["zones", "program", "wish"]
/-! 143: read_wish -/
abbrev s_143 : Stmt := topS 52
abbrev P_143 : List Str := ["zones", "program", "words"]
abbrev N_143 : List Str := ["zones", "program", "words", "row", "known", "wish", "role", "item"]
/-! 139: number_from -/
abbrev s_139 : Stmt := topS 53
abbrev P_139 : List Str := ["word"]
abbrev N_139 : List Str := ["word", "digits", "mark"]
/-! 113: _text_of -/
abbrev s_113 : Stmt := topS 54
abbrev P_113 : List Str := ["row"]
abbrev N_113 : List Str := ["row", "item"]
/-! 141: _step_from -/
abbrev s_141 : Stmt := topS 55
abbrev P_141 : List Str := ["zones", "program", "row", "place"]
abbrev N_141 : List Str := ["zones", "program", "row", "place", "known", "word", "step", "role", "further", "item"]
/-! 138: _can_begin -/
abbrev s_138 : Stmt := topS 56
abbrev P_138 : List Str := ["known", "program", "word"]
abbrev N_138 : List Str := ["known", "program", "word", "step", "role"]
/-! 140: _item_from -/
abbrev s_140 : Stmt := topS 57
abbrev P_140 : List Str := ["role", "word"]
abbrev N_140 : List Str := ["role", "word"]
/-! 137: _word_at -/
abbrev s_137 : Stmt := topS 58
abbrev P_137 : List Str := ["row", "place"]
abbrev N_137 : List Str := ["row", "place"]
/-! 136: _check_end -/
abbrev s_136 : Stmt := topS 59
abbrev P_136 : List Str := ["row", "place"]
abbrev N_136 : List Str := ["row", "place"]
/-! 116: _law_make_pot -/
abbrev s_116 : Stmt := topS 61
abbrev P_116 : List Str := ["_law_cell"]
abbrev N_116 : List Str := ["_law_cell", "_law_more"]
/-! 117: _law_pick -/
abbrev s_117 : Stmt := topS 62
abbrev P_117 : List Str := ["_law_pot", "_law_many"]
abbrev N_117 : List Str := ["_law_pot", "_law_many", "_law_digit", "_law_turn", "_law_mixed"]
/-! 118: _law_cells -/
abbrev s_118 : Stmt := topS 63
abbrev P_118 : List Str := ["_law_script", "_law_many"]
abbrev N_118 : List Str := ["_law_script", "_law_many"]
/-! 119: _law_draw_spot -/
abbrev s_119 : Stmt := topS 64
abbrev P_119 : List Str := ["_law_pot", "_law_sorts", "_law_wanted"]
abbrev N_119 : List Str := ["_law_pot", "_law_sorts", "_law_wanted", "_law_spots", "_law_k"]
/-! 120: _law_sort_behind -/
abbrev s_120 : Stmt := topS 65
abbrev P_120 : List Str := ["_law_sorts", "_law_step"]
abbrev N_120 : List Str := ["_law_sorts", "_law_step", "_law_kind"]
/-! 121: _law_kinds_in -/
abbrev s_121 : Stmt := topS 66
abbrev P_121 : List Str := ["_law_tale"]
abbrev N_121 : List Str := ["_law_tale", "_law_sorts", "_law_step"]
/-! 122: _law_rule -/
abbrev s_122 : Stmt := topS 67
abbrev P_122 : List Str := ["_law_pot"]
abbrev N_122 : List Str := ["_law_pot", "_law_fold_word"]
/-! 123: _law_words_open -/
abbrev s_123 : Stmt := topS 68
abbrev P_123 : List Str := ["_law_sorts", "_law_tale", "_law_left", "_law_editions"]
abbrev N_123 : List Str := ["_law_sorts", "_law_tale", "_law_left", "_law_editions", "_law_menu", "_law_step"]
/-! 124: _law_draw_step -/
abbrev s_124 : Stmt := topS 69
abbrev P_124 : List Str := ["_law_pot", "_law_many", "_law_sorts", "_law_menu", "_law_minutes_"]
abbrev N_124 : List Str := ["_law_pot", "_law_many", "_law_sorts", "_law_menu", "_law_minutes_", "_law_word", "_law_wanted", "_law_at"]
/-! 125: _law_draw_tale -/
abbrev s_125 : Stmt := topS 70
abbrev P_125 : List Str := ["_law_pot", "_law_many", "_law_size", "_law_left", "_law_editions", "_law_minutes_", "_law_begun"]
abbrev N_125 : List Str := ["_law_pot", "_law_many", "_law_size", "_law_left", "_law_editions", "_law_minutes_", "_law_begun", "_law_tale", "_law_sorts", "_law_k", "_law_step"]
/-! 126: _law_hours_in -/
abbrev s_126 : Stmt := topS 71
abbrev P_126 : List Str := ["_law_tale"]
abbrev N_126 : List Str := ["_law_tale", "_law_sorts", "_law_k"]
/-! 127: _law_draw_shifts -/
abbrev s_127 : Stmt := topS 72
abbrev P_127 : List Str := ["_law_pot"]
abbrev N_127 : List Str := ["_law_pot", "_law_way", "_law_some", "_law_near", "_law_low", "_law_high", "_law_middle"]
/-! 128: _law_draw_apart -/
abbrev s_128 : Stmt := topS 73
abbrev P_128 : List Str := ["_law_pot", "_law_shifts"]
abbrev N_128 : List Str := ["_law_pot", "_law_shifts", "_law_least", "_law_some"]
/-! 129: _law_draw_fields -/
abbrev s_129 : Stmt := topS 74
abbrev P_129 : List Str := ["_law_pot", "_law_many", "_law_most_shifts"]
abbrev N_129 : List Str := ["_law_pot", "_law_many", "_law_most_shifts", "_law_fields", "_law_k", "_law_shifts", "_law_dial"]
/-! 130: _law_minutes -/
abbrev s_130 : Stmt := topS 75
abbrev P_130 : List Str := ["_law_pot", "_law_fields"]
abbrev N_130 : List Str := ["_law_pot", "_law_fields", "_law_dial", "_law_wide", "_law_some", "_law_drawn", "_law_k", "_law_number"]
/-! 131: _law_draw_want -/
abbrev s_131 : Stmt := topS 76
abbrev P_131 : List Str := ["_law_pot", "_law_hours"]
abbrev N_131 : List Str := ["_law_pot", "_law_hours", "_law_word", "_law_want", "_law_some"]
/-! 132: _law_text -/
abbrev s_132 : Stmt := topS 77
abbrev P_132 : List Str := ["_law_tale"]
abbrev N_132 : List Str := ["_law_tale", "_law_parts", "_law_step", "_law_part"]
/-! 133: _law_long_tale -/
abbrev s_133 : Stmt := topS 78
abbrev P_133 : List Str := ["_law_pot", "_law_fields", "_law_left"]
abbrev N_133 : List Str := ["_law_pot", "_law_fields", "_law_left", "_law_size", "_law_amounts"]
/-! 144: _law_right -/
abbrev s_144 : Stmt := topS 79
abbrev P_144 : List Str := ["_law_pot"]
abbrev N_144 : List Str := ["_law_pot", "_law_fields", "_law_tale", "_law_k", "_law_short", "_law_turn", "_law_want", "_law_text_here", "_law_part"]
/-! 145: law -/
abbrev s_145 : Stmt := topS 80
abbrev P_145 : List Str := ["_law_script"]
abbrev N_145 : List Str := ["_law_script", "_law_cell"]

theorem sc_0 : FnScope N_0 P_0 (defScope s_0) := ⟨rfl, rfl, rfl, by decide +kernel, rfl, by decide +kernel, by decide +kernel⟩
theorem sc_1 : FnScope N_1 P_1 (defScope s_1) := ⟨rfl, rfl, rfl, by decide +kernel, rfl, by decide +kernel, by decide +kernel⟩
theorem sc_84 : FnScope N_84 P_84 (defScope s_84) := ⟨rfl, rfl, rfl, by decide +kernel, rfl, by decide +kernel, by decide +kernel⟩
theorem sc_6 : FnScope N_6 P_6 (defScope s_6) := ⟨rfl, rfl, rfl, by decide +kernel, rfl, by decide +kernel, by decide +kernel⟩
theorem sc_85 : FnScope N_85 P_85 (defScope s_85) := ⟨rfl, rfl, rfl, by decide +kernel, rfl, by decide +kernel, by decide +kernel⟩
theorem sc_86 : FnScope N_86 P_86 (defScope s_86) := ⟨rfl, rfl, rfl, by decide +kernel, rfl, by decide +kernel, by decide +kernel⟩
theorem sc_87 : FnScope N_87 P_87 (defScope s_87) := ⟨rfl, rfl, rfl, by decide +kernel, rfl, by decide +kernel, by decide +kernel⟩
theorem sc_65 : FnScope N_65 P_65 (defScope s_65) := ⟨rfl, rfl, rfl, by decide +kernel, rfl, by decide +kernel, by decide +kernel⟩
theorem sc_3 : FnScope N_3 P_3 (defScope s_3) := ⟨rfl, rfl, rfl, by decide +kernel, rfl, by decide +kernel, by decide +kernel⟩
theorem sc_5 : FnScope N_5 P_5 (defScope s_5) := ⟨rfl, rfl, rfl, by decide +kernel, rfl, by decide +kernel, by decide +kernel⟩
theorem sc_4 : FnScope N_4 P_4 (defScope s_4) := ⟨rfl, rfl, rfl, by decide +kernel, rfl, by decide +kernel, by decide +kernel⟩
theorem sc_95 : FnScope N_95 P_95 (defScope s_95) := ⟨rfl, rfl, rfl, by decide +kernel, rfl, by decide +kernel, by decide +kernel⟩
theorem sc_93 : FnScope N_93 P_93 (defScope s_93) := ⟨rfl, rfl, rfl, by decide +kernel, rfl, by decide +kernel, by decide +kernel⟩
theorem sc_96 : FnScope N_96 P_96 (defScope s_96) := ⟨rfl, rfl, rfl, by decide +kernel, rfl, by decide +kernel, by decide +kernel⟩
theorem sc_90 : FnScope N_90 P_90 (defScope s_90) := ⟨rfl, rfl, rfl, by decide +kernel, rfl, by decide +kernel, by decide +kernel⟩
theorem sc_89 : FnScope N_89 P_89 (defScope s_89) := ⟨rfl, rfl, rfl, by decide +kernel, rfl, by decide +kernel, by decide +kernel⟩
theorem sc_91 : FnScope N_91 P_91 (defScope s_91) := ⟨rfl, rfl, rfl, by decide +kernel, rfl, by decide +kernel, by decide +kernel⟩
theorem sc_88 : FnScope N_88 P_88 (defScope s_88) := ⟨rfl, rfl, rfl, by decide +kernel, rfl, by decide +kernel, by decide +kernel⟩
theorem sc_92 : FnScope N_92 P_92 (defScope s_92) := ⟨rfl, rfl, rfl, by decide +kernel, rfl, by decide +kernel, by decide +kernel⟩
theorem sc_112 : FnScope N_112 P_112 (defScope s_112) := ⟨rfl, rfl, rfl, by decide +kernel, rfl, by decide +kernel, by decide +kernel⟩
theorem sc_111 : FnScope N_111 P_111 (defScope s_111) := ⟨rfl, rfl, rfl, by decide +kernel, rfl, by decide +kernel, by decide +kernel⟩
theorem sc_110 : FnScope N_110 P_110 (defScope s_110) := ⟨rfl, rfl, rfl, by decide +kernel, rfl, by decide +kernel, by decide +kernel⟩
theorem sc_114 : FnScope N_114 P_114 (defScope s_114) := ⟨rfl, rfl, rfl, by decide +kernel, rfl, by decide +kernel, by decide +kernel⟩
theorem sc_142 : FnScope N_142 P_142 (defScope s_142) := ⟨rfl, rfl, rfl, by decide +kernel, rfl, by decide +kernel, by decide +kernel⟩
theorem sc_115 : FnScope N_115 P_115 (defScope s_115) := ⟨rfl, rfl, rfl, by decide +kernel, rfl, by decide +kernel, by decide +kernel⟩
theorem sc_143 : FnScope N_143 P_143 (defScope s_143) := ⟨rfl, rfl, rfl, by decide +kernel, rfl, by decide +kernel, by decide +kernel⟩
theorem sc_139 : FnScope N_139 P_139 (defScope s_139) := ⟨rfl, rfl, rfl, by decide +kernel, rfl, by decide +kernel, by decide +kernel⟩
theorem sc_113 : FnScope N_113 P_113 (defScope s_113) := ⟨rfl, rfl, rfl, by decide +kernel, rfl, by decide +kernel, by decide +kernel⟩
theorem sc_141 : FnScope N_141 P_141 (defScope s_141) := ⟨rfl, rfl, rfl, by decide +kernel, rfl, by decide +kernel, by decide +kernel⟩
theorem sc_138 : FnScope N_138 P_138 (defScope s_138) := ⟨rfl, rfl, rfl, by decide +kernel, rfl, by decide +kernel, by decide +kernel⟩
theorem sc_140 : FnScope N_140 P_140 (defScope s_140) := ⟨rfl, rfl, rfl, by decide +kernel, rfl, by decide +kernel, by decide +kernel⟩
theorem sc_137 : FnScope N_137 P_137 (defScope s_137) := ⟨rfl, rfl, rfl, by decide +kernel, rfl, by decide +kernel, by decide +kernel⟩
theorem sc_136 : FnScope N_136 P_136 (defScope s_136) := ⟨rfl, rfl, rfl, by decide +kernel, rfl, by decide +kernel, by decide +kernel⟩
theorem sc_116 : FnScope N_116 P_116 (defScope s_116) := ⟨rfl, rfl, rfl, by decide +kernel, rfl, by decide +kernel, by decide +kernel⟩
theorem sc_117 : FnScope N_117 P_117 (defScope s_117) := ⟨rfl, rfl, rfl, by decide +kernel, rfl, by decide +kernel, by decide +kernel⟩
theorem sc_118 : FnScope N_118 P_118 (defScope s_118) := ⟨rfl, rfl, rfl, by decide +kernel, rfl, by decide +kernel, by decide +kernel⟩
theorem sc_119 : FnScope N_119 P_119 (defScope s_119) := ⟨rfl, rfl, rfl, by decide +kernel, rfl, by decide +kernel, by decide +kernel⟩
theorem sc_120 : FnScope N_120 P_120 (defScope s_120) := ⟨rfl, rfl, rfl, by decide +kernel, rfl, by decide +kernel, by decide +kernel⟩
theorem sc_121 : FnScope N_121 P_121 (defScope s_121) := ⟨rfl, rfl, rfl, by decide +kernel, rfl, by decide +kernel, by decide +kernel⟩
theorem sc_122 : FnScope N_122 P_122 (defScope s_122) := ⟨rfl, rfl, rfl, by decide +kernel, rfl, by decide +kernel, by decide +kernel⟩
theorem sc_123 : FnScope N_123 P_123 (defScope s_123) := ⟨rfl, rfl, rfl, by decide +kernel, rfl, by decide +kernel, by decide +kernel⟩
theorem sc_124 : FnScope N_124 P_124 (defScope s_124) := ⟨rfl, rfl, rfl, by decide +kernel, rfl, by decide +kernel, by decide +kernel⟩
theorem sc_125 : FnScope N_125 P_125 (defScope s_125) := ⟨rfl, rfl, rfl, by decide +kernel, rfl, by decide +kernel, by decide +kernel⟩
theorem sc_126 : FnScope N_126 P_126 (defScope s_126) := ⟨rfl, rfl, rfl, by decide +kernel, rfl, by decide +kernel, by decide +kernel⟩
theorem sc_127 : FnScope N_127 P_127 (defScope s_127) := ⟨rfl, rfl, rfl, by decide +kernel, rfl, by decide +kernel, by decide +kernel⟩
theorem sc_128 : FnScope N_128 P_128 (defScope s_128) := ⟨rfl, rfl, rfl, by decide +kernel, rfl, by decide +kernel, by decide +kernel⟩
theorem sc_129 : FnScope N_129 P_129 (defScope s_129) := ⟨rfl, rfl, rfl, by decide +kernel, rfl, by decide +kernel, by decide +kernel⟩
theorem sc_130 : FnScope N_130 P_130 (defScope s_130) := ⟨rfl, rfl, rfl, by decide +kernel, rfl, by decide +kernel, by decide +kernel⟩
theorem sc_131 : FnScope N_131 P_131 (defScope s_131) := ⟨rfl, rfl, rfl, by decide +kernel, rfl, by decide +kernel, by decide +kernel⟩
theorem sc_132 : FnScope N_132 P_132 (defScope s_132) := ⟨rfl, rfl, rfl, by decide +kernel, rfl, by decide +kernel, by decide +kernel⟩
theorem sc_133 : FnScope N_133 P_133 (defScope s_133) := ⟨rfl, rfl, rfl, by decide +kernel, rfl, by decide +kernel, by decide +kernel⟩
theorem sc_144 : FnScope N_144 P_144 (defScope s_144) := ⟨rfl, rfl, rfl, by decide +kernel, rfl, by decide +kernel, by decide +kernel⟩
theorem sc_145 : FnScope N_145 P_145 (defScope s_145) := ⟨rfl, rfl, rfl, by decide +kernel, rfl, by decide +kernel, by decide +kernel⟩
structure Gs (w : World) (K : PySem.W.Frag) (mg : Str → Option Value) : Prop where
  n_all : mg "all" = none
  n_bool : mg "bool" = none
  n_int : mg "int" = none
  n_isinstance : mg "isinstance" = none
  n_len : mg "len" = none
  n_list : mg "list" = none
  n_max : mg "max" = none
  n_min : mg "min" = none
  n_range : mg "range" = none
  n_repr : mg "repr" = none
  n_str : mg "str" = none
  n_tuple : mg "tuple" = none
  n_zip : mg "zip" = none
  c_MOST_SPACING : ∃ t : Tok, mg "MOST_SPACING" = some (.int 1000000 t)
  c_MOST_ZONES : ∃ t : Tok, mg "MOST_ZONES" = some (.int 2 t)
  c_MOST_OFFSETS : ∃ t : Tok, mg "MOST_OFFSETS" = some (.int 3 t)
  c_FARTHEST_OFFSET : ∃ t : Tok, mg "FARTHEST_OFFSET" = some (.int 900 t)
  c_MOST_STEPS : ∃ t : Tok, mg "MOST_STEPS" = some (.int 8 t)
  c_FARTHEST_MINUTES : ∃ t : Tok, mg "FARTHEST_MINUTES" = some (.int 100000 t)
  c_GAP_RULES : ∃ a : Addr, mg "GAP_RULES" = some (.ref a) ∧ ∀ α H, Rp K α H (.tup [.str "ahead", .str "behind", .str "refuse"]) (.ref a)
  c_FOLD_RULES : ∃ a : Addr, mg "FOLD_RULES" = some (.ref a) ∧ ∀ α H, Rp K α H (.tup [.str "early", .str "late", .str "refuse"]) (.ref a)
  c_STEP_ROLES : ∃ a : Addr, mg "STEP_ROLES" = some (.ref a) ∧ Kt K w a [("read", .tup [.str "moment", .str "place"]), ("find", .tup [.str "reading", .str "place", .str "fold", .str "gap"]), ("offset", .tup [.str "moment", .str "place"]), ("edition", .tup [.str "moment", .str "place"]), ("plus", .tup [.str "moment", .str "span"]), ("less", .tup [.str "reading", .str "span"]), ("add", .tup [.str "time", .str "minutes"])]
  c_MADE_KINDS : ∃ a : Addr, mg "MADE_KINDS" = some (.ref a) ∧ Kt K w a [("read", .str "reading"), ("find", .str "moment"), ("offset", .str "span"), ("edition", .str "moment"), ("plus", .str "reading"), ("less", .str "moment")]
  c_WISH_ROLES : ∃ a : Addr, mg "WISH_ROLES" = some (.ref a) ∧ Kt K w a [("found", .tup []), ("same", .tup [.str "time", .str "time"]), ("order", .tup [.str "time", .str "time"]), ("near", .tup [.str "time", .str "time", .str "most"])]
  c_FARTHEST_NEAR : ∃ t : Tok, mg "FARTHEST_NEAR" = some (.int 1000000 t)
  c_NO_STEPS : ∃ t : Tok, mg "NO_STEPS" = some (.str "-" t)
  c_MOST_DIGITS : ∃ t : Tok, mg "MOST_DIGITS" = some (.int 12 t)
  c_DIGITS : ∃ t : Tok, mg "DIGITS" = some (.str "0123456789" t)
  c_KINDS : ∃ a : Addr, mg "KINDS" = some (.ref a) ∧ ∀ α H, Rp K α H (.tup [.str "moment", .str "reading", .str "span"]) (.ref a)
structure Al (P : Program) (w : World) (K : PySem.W.Frag) (mg : Str → Option Value) (base : Heap) (n : Nat) : Prop where
  f0 : FnI P w K mg base (run T n) n 0 "is_number" P_0 s_0
  f1 : FnI P w K mg base (run T n) n 1 "is_pair" P_1 s_1
  f84 : FnI P w K mg base (run T n) n 84 "first_word" P_84 s_84
  f6 : FnI P w K mg base (run T n) n 6 "is_zone" P_6 s_6
  f85 : FnI P w K mg base (run T n) n 85 "is_zones" P_85 s_85
  f86 : FnI P w K mg base (run T n) n 86 "check_zones" P_86 s_86
  f87 : FnI P w K mg base (run T n) n 87 "is_place" P_87 s_87
  f65 : FnI P w K mg base (run T n) n 65 "is_rule" P_65 s_65
  f3 : FnI P w K mg base (run T n) n 3 "is_ascending" P_3 s_3
  f5 : FnI P w K mg base (run T n) n 5 "_are_offsets" P_5 s_5
  f4 : FnI P w K mg base (run T n) n 4 "_is_near" P_4 s_4
  f95 : FnI P w K mg base (run T n) n 95 "check_program" P_95 s_95
  f93 : FnI P w K mg base (run T n) n 93 "fits_as_program" P_93 s_93
  f96 : FnI P w K mg base (run T n) n 96 "kinds_of_values" P_96 s_96
  f90 : FnI P w K mg base (run T n) n 90 "fits_step_role" P_90 s_90
  f89 : FnI P w K mg base (run T n) n 89 "is_time" P_89 s_89
  f91 : FnI P w K mg base (run T n) n 91 "_is_step" P_91 s_91
  f88 : FnI P w K mg base (run T n) n 88 "_is_index" P_88 s_88
  f92 : FnI P w K mg base (run T n) n 92 "_made_kind" P_92 s_92
  f112 : FnI P w K mg base (run T n) n 112 "check_wish" P_112 s_112
  f111 : FnI P w K mg base (run T n) n 111 "fits_as_wish" P_111 s_111
  f110 : FnI P w K mg base (run T n) n 110 "fits_wish_role" P_110 s_110
  f114 : FnI P w K mg base (run T n) n 114 "write_program" P_114 s_114
  f142 : FnI P w K mg base (run T n) n 142 "read_program" P_142 s_142
  f115 : FnI P w K mg base (run T n) n 115 "write_wish" P_115 s_115
  f143 : FnI P w K mg base (run T n) n 143 "read_wish" P_143 s_143
  f139 : FnI P w K mg base (run T n) n 139 "number_from" P_139 s_139
  f113 : FnI P w K mg base (run T n) n 113 "_text_of" P_113 s_113
  f141 : FnI P w K mg base (run T n) n 141 "_step_from" P_141 s_141
  f138 : FnI P w K mg base (run T n) n 138 "_can_begin" P_138 s_138
  f140 : FnI P w K mg base (run T n) n 140 "_item_from" P_140 s_140
  f137 : FnI P w K mg base (run T n) n 137 "_word_at" P_137 s_137
  f136 : FnI P w K mg base (run T n) n 136 "_check_end" P_136 s_136
  f116 : FnI P w K mg base (run T n) n 116 "_law_make_pot" P_116 s_116
  f117 : FnI P w K mg base (run T n) n 117 "_law_pick" P_117 s_117
  f118 : FnI P w K mg base (run T n) n 118 "_law_cells" P_118 s_118
  f119 : FnI P w K mg base (run T n) n 119 "_law_draw_spot" P_119 s_119
  f120 : FnI P w K mg base (run T n) n 120 "_law_sort_behind" P_120 s_120
  f121 : FnI P w K mg base (run T n) n 121 "_law_kinds_in" P_121 s_121
  f122 : FnI P w K mg base (run T n) n 122 "_law_rule" P_122 s_122
  f123 : FnI P w K mg base (run T n) n 123 "_law_words_open" P_123 s_123
  f124 : FnI P w K mg base (run T n) n 124 "_law_draw_step" P_124 s_124
  f125 : FnI P w K mg base (run T n) n 125 "_law_draw_tale" P_125 s_125
  f126 : FnI P w K mg base (run T n) n 126 "_law_hours_in" P_126 s_126
  f127 : FnI P w K mg base (run T n) n 127 "_law_draw_shifts" P_127 s_127
  f128 : FnI P w K mg base (run T n) n 128 "_law_draw_apart" P_128 s_128
  f129 : FnI P w K mg base (run T n) n 129 "_law_draw_fields" P_129 s_129
  f130 : FnI P w K mg base (run T n) n 130 "_law_minutes" P_130 s_130
  f131 : FnI P w K mg base (run T n) n 131 "_law_draw_want" P_131 s_131
  f132 : FnI P w K mg base (run T n) n 132 "_law_text" P_132 s_132
  f133 : FnI P w K mg base (run T n) n 133 "_law_long_tale" P_133 s_133
  f144 : FnI P w K mg base (run T n) n 144 "_law_right" P_144 s_144
  f145 : FnI P w K mg base (run T n) n 145 "law" P_145 s_145
section
variable {P : Program} {w : World} {K : PySem.W.Frag} {mg : Str → Option Value} {base : Heap} {n : Nat}
/-! 0: is_number -/
theorem d_0 (A : Al P w K mg base n) (G : Gs w K mg) (fa : Addr) (cdv : Value) (Ar : Around) (outer : List PySem.Env) (s : Shared) (H : Hp) (E : XK) (hr : RoomG n (Ar.deeper (PyProof.Rows.envOfC "is_number" (defScope s_0) s.heap.objs.size fa cdv))) :
    PSs (cxOf CX0 P w K mg base N_0 "is_number" (defScope s_0) fa cdv Ar outer s H E).nox (defBody s_0) (trS K (run T n) b_is_number) :=
  (xs_one (xs_ret (xe_and (xe_blt .isi b_isi (by rfl) G.n_isinstance (by decide +kernel) (xa_cons (xe_var 0) (xa_cons (xe_ty (by rfl) G.n_int (by decide +kernel)) (xa_nil)))) (xe_one (xe_not (xe_blt .isi b_isi (by rfl) G.n_isinstance (by decide +kernel) (xa_cons (xe_var 0) (xa_cons (xe_ty (by rfl) G.n_bool (by decide +kernel)) (xa_nil)))))))))
/-! 1: is_pair -/
theorem d_1 (A : Al P w K mg base n) (G : Gs w K mg) (fa : Addr) (cdv : Value) (Ar : Around) (outer : List PySem.Env) (s : Shared) (H : Hp) (E : XK) (hr : RoomG n (Ar.deeper (PyProof.Rows.envOfC "is_pair" (defScope s_1) s.heap.objs.size fa cdv))) :
    PSs (cxOf CX0 P w K mg base N_1 "is_pair" (defScope s_1) fa cdv Ar outer s H E).nox (defBody s_1) (trS K (run T n) b_is_pair) :=
  (xs_one (xs_ret (xe_and (xe_blt .isi b_isi (by rfl) G.n_isinstance (by decide +kernel) (xa_cons (xe_var 0) (xa_cons (xe_ty (by rfl) G.n_tuple (by decide +kernel)) (xa_nil)))) (xe_one (xe_cmp .eq (xe_blt .len b_len (by rfl) G.n_len (by decide +kernel) (xa_cons (xe_var 0) (xa_nil))) (xe_int) (by first | rfl | with_unfolding_all rfl))))))
/-! 84: first_word -/
theorem d_84 (A : Al P w K mg base n) (G : Gs w K mg) (fa : Addr) (cdv : Value) (Ar : Around) (outer : List PySem.Env) (s : Shared) (H : Hp) (E : XK) (hr : RoomG n (Ar.deeper (PyProof.Rows.envOfC "first_word" (defScope s_84) s.heap.objs.size fa cdv))) :
    PSs (cxOf CX0 P w K mg base N_84 "first_word" (defScope s_84) fa cdv Ar outer s H E).nox (defBody s_84) (trS K (run T n) b_first_word) :=
  (xs_cons (xs_if ((xw_and (xt_truth (xe_blt .isi b_isi (by rfl) G.n_isinstance (by decide +kernel) (xa_cons (xe_var 0) (xa_cons (xe_ty (by rfl) G.n_tuple (by decide +kernel)) (xa_nil)))) (fun _ => rfl)) (xw_and (xt_cmp .gt (xe_blt .len b_len (by rfl) G.n_len (by decide +kernel) (xa_cons (xe_var 0) (xa_nil))) (xe_int) (by first | rfl | with_unfolding_all rfl)) (xw_and1 (xt_truth (xe_blt .isi b_isi (by rfl) G.n_isinstance (by decide +kernel) (xa_cons (xe_ix (xe_var 0) (xe_int) (fun _ _ => rfl)) (xa_cons (xe_ty (by rfl) G.n_str (by decide +kernel)) (xa_nil)))) (fun _ => rfl)))))).pt
    (xs_one (xs_ret (xe_ix (xe_var 0) (xe_int) (fun _ _ => rfl)))) xs_nil)
    (xs_one (xs_ret (xe_non))))
/-! 6: is_zone -/
theorem d_6 (A : Al P w K mg base n) (G : Gs w K mg) (fa : Addr) (cdv : Value) (Ar : Around) (outer : List PySem.Env) (s : Shared) (H : Hp) (E : XK) (hr : RoomG n (Ar.deeper (PyProof.Rows.envOfC "is_zone" (defScope s_6) s.heap.objs.size fa cdv))) :
    PSs (cxOf CX0 P w K mg base N_6 "is_zone" (defScope s_6) fa cdv Ar outer s H E).nox (defBody s_6) (trS K (run T n) b_is_zone) :=
  (xs_cons (xs_if (xt_not (xt_truth (xe_call A.f1 hr (by rfl) (xa_cons (xe_var 0) (xa_nil))) (fun _ => rfl)))
    (xs_one (xs_ret (xe_bl))) xs_nil)
    (xs_cons (xs_asg (xe_var 0) (xg_tup rfl (xgs_cons (xg_name 1 sc_6.nd) (xgs_cons (xg_name 2 sc_6.nd) xgs_nil))))
    (xs_cons (xs_if ((xw_or (xt_not (xt_truth (xe_call A.f5 hr (by rfl) (xa_cons (xe_var 1) (xa_nil))) (fun _ => rfl))) (xw_or1 (xt_not (xt_truth (xe_call A.f0 hr (by rfl) (xa_cons (xe_var 2) (xa_nil))) (fun _ => rfl)))))).pt
    (xs_one (xs_ret (xe_bl))) xs_nil)
    (xs_one (xs_ret (xe_chain .lt .le (xe_bin .sub (xe_ix (xe_var 1) (xe_neg (xe_int)) (fun _ _ => rfl)) (xe_ix (xe_var 1) (xe_int) (fun _ _ => rfl))) (xe_var 2) (xe_glob (v := .int 1000000) (u := .int 1000000 G.c_MOST_SPACING.choose) (by rfl) G.c_MOST_SPACING.choose_spec ⟨_, rfl⟩ (fun _ _ => .int _))))))))
/-! 85: is_zones -/
theorem d_85 (A : Al P w K mg base n) (G : Gs w K mg) (fa : Addr) (cdv : Value) (Ar : Around) (outer : List PySem.Env) (s : Shared) (H : Hp) (E : XK) (hr : RoomG n (Ar.deeper (PyProof.Rows.envOfC "is_zones" (defScope s_85) s.heap.objs.size fa cdv))) :
    PSs (cxOf CX0 P w K mg base N_85 "is_zones" (defScope s_85) fa cdv Ar outer s H E).nox (defBody s_85) (trS K (run T n) b_is_zones) :=
  (xs_cons (xs_if ((xw_or (xt_not (xt_truth (xe_blt .isi b_isi (by rfl) G.n_isinstance (by decide +kernel) (xa_cons (xe_var 0) (xa_cons (xe_ty (by rfl) G.n_tuple (by decide +kernel)) (xa_nil)))) (fun _ => rfl))) (xw_or1 (xt_not (xt_chain .le .le (xe_int) (xe_blt .len b_len (by rfl) G.n_len (by decide +kernel) (xa_cons (xe_var 0) (xa_nil))) (xe_glob (v := .int 2) (u := .int 2 G.c_MOST_ZONES.choose) (by rfl) G.c_MOST_ZONES.choose_spec ⟨_, rfl⟩ (fun _ _ => .int _))))))).pt
    (xs_one (xs_ret (xe_bl))) xs_nil)
    (xs_one (xs_ret (xe_blt .all_ (b_all rfl) (by rfl) G.n_all (by decide +kernel) (xa_cons (xe_lc (own := [("item", 1)]) rfl sc_85.nd (xi_seq (xe_var 0)) N_85 (defScope s_85) (by decide +kernel) (fun _ _ _ _ _ => (xg_name 1 sc_85.nd)) (fun _ _ _ _ _ => xts_nil) (fun _ _ _ _ _ => (xe_call A.f6 hr (by rfl) (xa_cons (xe_var 1) (xa_nil))))) (xa_nil))))))
/-! 86: check_zones -/
theorem d_86 (A : Al P w K mg base n) (G : Gs w K mg) (fa : Addr) (cdv : Value) (Ar : Around) (outer : List PySem.Env) (s : Shared) (H : Hp) (E : XK) (hr : RoomG n (Ar.deeper (PyProof.Rows.envOfC "check_zones" (defScope s_86) s.heap.objs.size fa cdv))) :
    PSs (cxOf CX0 P w K mg base N_86 "check_zones" (defScope s_86) fa cdv Ar outer s H E).nox (defBody s_86) (trS K (run T n) b_check_zones) :=
  (xs_one (xs_if (xt_not (xt_truth (xe_call A.f85 hr (by rfl) (xa_cons (xe_var 0) (xa_nil))) (fun _ => rfl)))
    (xs_one xs_stuck) xs_nil))
/-! 87: is_place -/
theorem d_87 (A : Al P w K mg base n) (G : Gs w K mg) (fa : Addr) (cdv : Value) (Ar : Around) (outer : List PySem.Env) (s : Shared) (H : Hp) (E : XK) (hr : RoomG n (Ar.deeper (PyProof.Rows.envOfC "is_place" (defScope s_87) s.heap.objs.size fa cdv))) :
    PSs (cxOf CX0 P w K mg base N_87 "is_place" (defScope s_87) fa cdv Ar outer s H E).nox (defBody s_87) (trS K (run T n) b_is_place) :=
  (xs_one (xs_ret (xe_and (xe_call A.f0 hr (by rfl) (xa_cons (xe_var 1) (xa_nil))) (xe_one (xe_chain .le .lt (xe_int) (xe_var 1) (xe_blt .len b_len (by rfl) G.n_len (by decide +kernel) (xa_cons (xe_var 0) (xa_nil))))))))
/-! 65: is_rule -/
theorem d_65 (A : Al P w K mg base n) (G : Gs w K mg) (fa : Addr) (cdv : Value) (Ar : Around) (outer : List PySem.Env) (s : Shared) (H : Hp) (E : XK) (hr : RoomG n (Ar.deeper (PyProof.Rows.envOfC "is_rule" (defScope s_65) s.heap.objs.size fa cdv))) :
    PSs (cxOf CX0 P w K mg base N_65 "is_rule" (defScope s_65) fa cdv Ar outer s H E).nox (defBody s_65) (trS K (run T n) b_is_rule) :=
  (xs_one (xs_ret (xe_and (xe_blt .isi b_isi (by rfl) G.n_isinstance (by decide +kernel) (xa_cons (xe_var 0) (xa_cons (xe_ty (by rfl) G.n_str (by decide +kernel)) (xa_nil)))) (xe_one (xe_cmp .in_ (xe_var 0) (xe_var 1) (by first | rfl | with_unfolding_all rfl))))))
/-! 3: is_ascending -/
theorem d_3 (A : Al P w K mg base n) (G : Gs w K mg) (fa : Addr) (cdv : Value) (Ar : Around) (outer : List PySem.Env) (s : Shared) (H : Hp) (E : XK) (hr : RoomG n (Ar.deeper (PyProof.Rows.envOfC "is_ascending" (defScope s_3) s.heap.objs.size fa cdv))) :
    PSs (cxOf CX0 P w K mg base N_3 "is_ascending" (defScope s_3) fa cdv Ar outer s H E).nox (defBody s_3) (trS K (run T n) b_is_ascending) :=
  (xs_one (xs_ret (xe_blt .all_ (b_all rfl) (by rfl) G.n_all (by decide +kernel) (xa_cons (xe_lc (own := [("one", 1), ("other", 2)]) rfl sc_3.nd (xi_zip (by rfl) G.n_zip (xa_cons (xe_var 0) (xa_cons (xe_sl (xe_var 0) (xo_some (xe_int)) xo_none) (xa_nil)))) N_3 (defScope s_3) (by decide +kernel) (fun _ _ _ _ _ => (xg_tup rfl (xgs_cons (xg_name 1 sc_3.nd) (xgs_cons (xg_name 2 sc_3.nd) xgs_nil)))) (fun _ _ _ _ _ => xts_nil) (fun _ _ _ _ _ => (xe_cmp .lt (xe_var 1) (xe_var 2) (by first | rfl | with_unfolding_all rfl)))) (xa_nil)))))
/-! 5: _are_offsets -/
theorem d_5 (A : Al P w K mg base n) (G : Gs w K mg) (fa : Addr) (cdv : Value) (Ar : Around) (outer : List PySem.Env) (s : Shared) (H : Hp) (E : XK) (hr : RoomG n (Ar.deeper (PyProof.Rows.envOfC "_are_offsets" (defScope s_5) s.heap.objs.size fa cdv))) :
    PSs (cxOf CX0 P w K mg base N_5 "_are_offsets" (defScope s_5) fa cdv Ar outer s H E).nox (defBody s_5) (trS K (run T n) b_are_offsets) :=
  (xs_cons (xs_if ((xw_or (xt_not (xt_truth (xe_blt .isi b_isi (by rfl) G.n_isinstance (by decide +kernel) (xa_cons (xe_var 0) (xa_cons (xe_ty (by rfl) G.n_tuple (by decide +kernel)) (xa_nil)))) (fun _ => rfl))) (xw_or1 (xt_not (xt_chain .le .le (xe_int) (xe_blt .len b_len (by rfl) G.n_len (by decide +kernel) (xa_cons (xe_var 0) (xa_nil))) (xe_glob (v := .int 3) (u := .int 3 G.c_MOST_OFFSETS.choose) (by rfl) G.c_MOST_OFFSETS.choose_spec ⟨_, rfl⟩ (fun _ _ => .int _))))))).pt
    (xs_one (xs_ret (xe_bl))) xs_nil)
    (xs_one (xs_ret (xe_and (xe_blt .all_ (b_all rfl) (by rfl) G.n_all (by decide +kernel) (xa_cons (xe_lc (own := [("item", 1)]) rfl sc_5.nd (xi_seq (xe_var 0)) N_5 (defScope s_5) (by decide +kernel) (fun _ _ _ _ _ => (xg_name 1 sc_5.nd)) (fun _ _ _ _ _ => xts_nil) (fun _ _ _ _ _ => (xe_call A.f4 hr (by rfl) (xa_cons (xe_var 1) (xa_nil))))) (xa_nil))) (xe_one (xe_call A.f3 hr (by rfl) (xa_cons (xe_var 0) (xa_nil))))))))
/-! 4: _is_near -/
theorem d_4 (A : Al P w K mg base n) (G : Gs w K mg) (fa : Addr) (cdv : Value) (Ar : Around) (outer : List PySem.Env) (s : Shared) (H : Hp) (E : XK) (hr : RoomG n (Ar.deeper (PyProof.Rows.envOfC "_is_near" (defScope s_4) s.heap.objs.size fa cdv))) :
    PSs (cxOf CX0 P w K mg base N_4 "_is_near" (defScope s_4) fa cdv Ar outer s H E).nox (defBody s_4) (trS K (run T n) b_is_near) :=
  (xs_one (xs_ret (xe_and (xe_call A.f0 hr (by rfl) (xa_cons (xe_var 0) (xa_nil))) (xe_one (xe_chain .le .le (xe_neg (xe_glob (v := .int 900) (u := .int 900 G.c_FARTHEST_OFFSET.choose) (by rfl) G.c_FARTHEST_OFFSET.choose_spec ⟨_, rfl⟩ (fun _ _ => .int _))) (xe_var 0) (xe_glob (v := .int 900) (u := .int 900 G.c_FARTHEST_OFFSET.choose) (by rfl) G.c_FARTHEST_OFFSET.choose_spec ⟨_, rfl⟩ (fun _ _ => .int _)))))))
/-! 95: check_program -/
theorem d_95 (A : Al P w K mg base n) (G : Gs w K mg) (fa : Addr) (cdv : Value) (Ar : Around) (outer : List PySem.Env) (s : Shared) (H : Hp) (E : XK) (hr : RoomG n (Ar.deeper (PyProof.Rows.envOfC "check_program" (defScope s_95) s.heap.objs.size fa cdv))) :
    PSs (cxOf CX0 P w K mg base N_95 "check_program" (defScope s_95) fa cdv Ar outer s H E).nox (defBody s_95) (trS K (run T n) b_check_program) :=
  (xs_one (xs_if (xt_not (xt_truth (xe_call A.f93 hr (by rfl) (xa_cons (xe_var 0) (xa_cons (xe_var 1) (xa_nil)))) (fun _ => rfl)))
    (xs_one xs_stuck) xs_nil))
/-! 93: fits_as_program -/
theorem d_93 (A : Al P w K mg base n) (G : Gs w K mg) (fa : Addr) (cdv : Value) (Ar : Around) (outer : List PySem.Env) (s : Shared) (H : Hp) (E : XK) (hr : RoomG n (Ar.deeper (PyProof.Rows.envOfC "fits_as_program" (defScope s_93) s.heap.objs.size fa cdv))) :
    PSs (cxOf CX0 P w K mg base N_93 "fits_as_program" (defScope s_93) fa cdv Ar outer s H E).nox (defBody s_93) (trS K (run T n) b_fits_as_program) :=
  (xs_cons (xs_if ((xw_or (xt_not (xt_truth (xe_blt .isi b_isi (by rfl) G.n_isinstance (by decide +kernel) (xa_cons (xe_var 1) (xa_cons (xe_ty (by rfl) G.n_tuple (by decide +kernel)) (xa_nil)))) (fun _ => rfl))) (xw_or1 (xt_cmp .gt (xe_blt .len b_len (by rfl) G.n_len (by decide +kernel) (xa_cons (xe_var 1) (xa_nil))) (xe_glob (v := .int 8) (u := .int 8 G.c_MOST_STEPS.choose) (by rfl) G.c_MOST_STEPS.choose_spec ⟨_, rfl⟩ (fun _ _ => .int _)) (by first | rfl | with_unfolding_all rfl))))).pt
    (xs_one (xs_ret (xe_bl))) xs_nil)
    (xs_cons (xs_set 2 sc_93.nd (xe_lst (xa_cons (xe_str) (xa_nil))))
    (xs_cons (xs_for PassesOwn.never rfl (xi_seq (xe_var 1)) (xg_name 3 sc_93.nd)
    (xs_cons (xs_if (xt_not (xt_truth (xe_call A.f91 hr (by rfl) (xa_cons (xe_var 0) (xa_cons (xe_var 2) (xa_cons (xe_var 3) (xa_nil))))) (fun _ => rfl)))
    (xs_one (xs_ret (xe_bl))) xs_nil)
    (xs_one (xs_drop (xe_append (xe_var 2) (xa_cons (xe_call A.f92 hr (by rfl) (xa_cons (xe_var 2) (xa_cons (xe_var 3) (xa_nil)))) (xa_nil)))))))
    (xs_one (xs_ret (xe_cmp .le (xe_cnts (xe_lc (own := [("step", 3)]) rfl sc_93.nd (xi_seq (xe_var 1)) N_93 (defScope s_93) (by decide +kernel) (fun _ _ _ _ _ => (xg_name 3 sc_93.nd)) (fun _ _ _ _ _ => xts_nil) (fun _ _ _ _ _ => (xe_ix (xe_var 3) (xe_int) (fun _ _ => rfl)))) (xe_str)) (xe_int) (by first | rfl | with_unfolding_all rfl)))))))
/-! 96: kinds_of_values -/
theorem d_96 (A : Al P w K mg base n) (G : Gs w K mg) (fa : Addr) (cdv : Value) (Ar : Around) (outer : List PySem.Env) (s : Shared) (H : Hp) (E : XK) (hr : RoomG n (Ar.deeper (PyProof.Rows.envOfC "kinds_of_values" (defScope s_96) s.heap.objs.size fa cdv))) :
    PSs (cxOf CX0 P w K mg base N_96 "kinds_of_values" (defScope s_96) fa cdv Ar outer s H E).nox (defBody s_96) (trS K (run T n) b_kinds_of_values) :=
  (xs_cons (xs_set 1 sc_96.nd (xe_lst (xa_cons (xe_str) (xa_nil))))
    (xs_cons (xs_for PassesOwn.never rfl (xi_seq (xe_var 0)) (xg_name 2 sc_96.nd)
    (xs_one (xs_drop (xe_append (xe_var 1) (xa_cons (xe_call A.f92 hr (by rfl) (xa_cons (xe_var 1) (xa_cons (xe_var 2) (xa_nil)))) (xa_nil))))))
    (xs_one (xs_ret (xe_var 1)))))
/-! 90: fits_step_role -/
theorem d_90 (A : Al P w K mg base n) (G : Gs w K mg) (fa : Addr) (cdv : Value) (Ar : Around) (outer : List PySem.Env) (s : Shared) (H : Hp) (E : XK) (hr : RoomG n (Ar.deeper (PyProof.Rows.envOfC "fits_step_role" (defScope s_90) s.heap.objs.size fa cdv))) :
    PSs (cxOf CX0 P w K mg base N_90 "fits_step_role" (defScope s_90) fa cdv Ar outer s H E).nox (defBody s_90) (trS K (run T n) b_fits_role) :=
  (xs_cons (xs_if (xt_cmp .eq (xe_var 2) (xe_str) (by first | rfl | with_unfolding_all rfl))
    (xs_one (xs_ret (xe_call A.f87 hr (by rfl) (xa_cons (xe_var 0) (xa_cons (xe_var 3) (xa_nil)))))) xs_nil)
    (xs_cons (xs_if (xt_cmp .eq (xe_var 2) (xe_str) (by first | rfl | with_unfolding_all rfl))
    (xs_one (xs_ret (xe_call A.f65 hr (by rfl) (xa_cons (xe_var 3) (xa_cons (xe_glob (v := .ref G.c_FOLD_RULES.choose) (by rfl) G.c_FOLD_RULES.choose_spec.1 rfl G.c_FOLD_RULES.choose_spec.2) (xa_nil)))))) xs_nil)
    (xs_cons (xs_if (xt_cmp .eq (xe_var 2) (xe_str) (by first | rfl | with_unfolding_all rfl))
    (xs_one (xs_ret (xe_call A.f65 hr (by rfl) (xa_cons (xe_var 3) (xa_cons (xe_glob (v := .ref G.c_GAP_RULES.choose) (by rfl) G.c_GAP_RULES.choose_spec.1 rfl G.c_GAP_RULES.choose_spec.2) (xa_nil)))))) xs_nil)
    (xs_cons (xs_if (xt_cmp .eq (xe_var 2) (xe_str) (by first | rfl | with_unfolding_all rfl))
    (xs_one (xs_ret (xe_and (xe_call A.f0 hr (by rfl) (xa_cons (xe_var 3) (xa_nil))) (xe_one (xe_chain .le .le (xe_neg (xe_glob (v := .int 100000) (u := .int 100000 G.c_FARTHEST_MINUTES.choose) (by rfl) G.c_FARTHEST_MINUTES.choose_spec ⟨_, rfl⟩ (fun _ _ => .int _))) (xe_var 3) (xe_glob (v := .int 100000) (u := .int 100000 G.c_FARTHEST_MINUTES.choose) (by rfl) G.c_FARTHEST_MINUTES.choose_spec ⟨_, rfl⟩ (fun _ _ => .int _))))))) xs_nil)
    (xs_cons (xs_if (xt_cmp .eq (xe_var 2) (xe_str) (by first | rfl | with_unfolding_all rfl))
    (xs_one (xs_ret (xe_call A.f89 hr (by rfl) (xa_cons (xe_var 1) (xa_cons (xe_var 3) (xa_nil)))))) xs_nil)
    (xs_one (xs_ret (xe_and (xe_call A.f88 hr (by rfl) (xa_cons (xe_var 1) (xa_cons (xe_var 3) (xa_nil)))) (xe_one (xe_cmp .eq (xe_ix (xe_var 1) (xe_var 3) (fun _ _ => rfl)) (xe_var 2) (by first | rfl | with_unfolding_all rfl)))))))))))
/-! 89: is_time -/
theorem d_89 (A : Al P w K mg base n) (G : Gs w K mg) (fa : Addr) (cdv : Value) (Ar : Around) (outer : List PySem.Env) (s : Shared) (H : Hp) (E : XK) (hr : RoomG n (Ar.deeper (PyProof.Rows.envOfC "is_time" (defScope s_89) s.heap.objs.size fa cdv))) :
    PSs (cxOf CX0 P w K mg base N_89 "is_time" (defScope s_89) fa cdv Ar outer s H E).nox (defBody s_89) (trS K (run T n) b_is_time) :=
  (xs_one (xs_ret (xe_and (xe_call A.f88 hr (by rfl) (xa_cons (xe_var 0) (xa_cons (xe_var 1) (xa_nil)))) (xe_one (xe_cmp .ne (xe_ix (xe_var 0) (xe_var 1) (fun _ _ => rfl)) (xe_str) (by first | rfl | with_unfolding_all rfl))))))
/-! 91: _is_step -/
theorem d_91 (A : Al P w K mg base n) (G : Gs w K mg) (fa : Addr) (cdv : Value) (Ar : Around) (outer : List PySem.Env) (s : Shared) (H : Hp) (E : XK) (hr : RoomG n (Ar.deeper (PyProof.Rows.envOfC "_is_step" (defScope s_91) s.heap.objs.size fa cdv))) :
    PSs (cxOf CX0 P w K mg base N_91 "_is_step" (defScope s_91) fa cdv Ar outer s H E).nox (defBody s_91) (trS K (run T n) b_is_step) :=
  (xs_cons (xs_set 3 sc_91.nd (xe_cget (by rfl) G.c_STEP_ROLES.choose_spec.1 G.c_STEP_ROLES.choose_spec.2.2.1 (xe_call A.f84 hr (by rfl) (xa_cons (xe_var 2) (xa_nil))) ⟨rfl, rfl, rfl, rfl⟩))
    (xs_cons (xs_if ((xw_or (xt_cmp .is_ (xe_var 3) (xe_non) (by first | rfl | with_unfolding_all rfl)) (xw_or1 (xt_cmp .ne (xe_blt .len b_len (by rfl) G.n_len (by decide +kernel) (xa_cons (xe_var 2) (xa_nil))) (xe_bin .add (xe_int) (xe_blt .len b_len (by rfl) G.n_len (by decide +kernel) (xa_cons (xe_var 3) (xa_nil)))) (by first | rfl | with_unfolding_all rfl))))).pt
    (xs_one (xs_ret (xe_bl))) xs_nil)
    (xs_one (xs_ret (xe_blt .all_ (b_all rfl) (by rfl) G.n_all (by decide +kernel) (xa_cons (xe_lc (own := [("role", 4), ("item", 5)]) rfl sc_91.nd (xi_zip (by rfl) G.n_zip (xa_cons (xe_var 3) (xa_cons (xe_sl (xe_var 2) (xo_some (xe_int)) xo_none) (xa_nil)))) N_91 (defScope s_91) (by decide +kernel) (fun _ _ _ _ _ => (xg_tup rfl (xgs_cons (xg_name 4 sc_91.nd) (xgs_cons (xg_name 5 sc_91.nd) xgs_nil)))) (fun _ _ _ _ _ => xts_nil) (fun _ _ _ _ _ => (xe_call A.f90 hr (by rfl) (xa_cons (xe_var 0) (xa_cons (xe_var 1) (xa_cons (xe_var 4) (xa_cons (xe_var 5) (xa_nil)))))))) (xa_nil)))))))
/-! 88: _is_index -/
theorem d_88 (A : Al P w K mg base n) (G : Gs w K mg) (fa : Addr) (cdv : Value) (Ar : Around) (outer : List PySem.Env) (s : Shared) (H : Hp) (E : XK) (hr : RoomG n (Ar.deeper (PyProof.Rows.envOfC "_is_index" (defScope s_88) s.heap.objs.size fa cdv))) :
    PSs (cxOf CX0 P w K mg base N_88 "_is_index" (defScope s_88) fa cdv Ar outer s H E).nox (defBody s_88) (trS K (run T n) b_is_index) :=
  (xs_one (xs_ret (xe_and (xe_call A.f0 hr (by rfl) (xa_cons (xe_var 1) (xa_nil))) (xe_one (xe_chain .le .lt (xe_int) (xe_var 1) (xe_blt .len b_len (by rfl) G.n_len (by decide +kernel) (xa_cons (xe_var 0) (xa_nil))))))))
/-! 92: _made_kind -/
theorem d_92 (A : Al P w K mg base n) (G : Gs w K mg) (fa : Addr) (cdv : Value) (Ar : Around) (outer : List PySem.Env) (s : Shared) (H : Hp) (E : XK) (hr : RoomG n (Ar.deeper (PyProof.Rows.envOfC "_made_kind" (defScope s_92) s.heap.objs.size fa cdv))) :
    PSs (cxOf CX0 P w K mg base N_92 "_made_kind" (defScope s_92) fa cdv Ar outer s H E).nox (defBody s_92) (trS K (run T n) b_made_kind) :=
  (xs_cons (xs_if (xt_cmp .eq (xe_ix (xe_var 1) (xe_int) (fun _ _ => rfl)) (xe_str) (by first | rfl | with_unfolding_all rfl))
    (xs_one (xs_ret (xe_ix (xe_var 0) (xe_ix (xe_var 1) (xe_int) (fun _ _ => rfl)) (fun _ _ => rfl)))) xs_nil)
    (xs_one (xs_ret (xe_cix (by rfl) G.c_MADE_KINDS.choose_spec.1 G.c_MADE_KINDS.choose_spec.2.1 (xe_ix (xe_var 1) (xe_int) (fun _ _ => rfl)) (fun _ _ => rfl)))))
/-! 112: check_wish -/
theorem d_112 (A : Al P w K mg base n) (G : Gs w K mg) (fa : Addr) (cdv : Value) (Ar : Around) (outer : List PySem.Env) (s : Shared) (H : Hp) (E : XK) (hr : RoomG n (Ar.deeper (PyProof.Rows.envOfC "check_wish" (defScope s_112) s.heap.objs.size fa cdv))) :
    PSs (cxOf CX0 P w K mg base N_112 "check_wish" (defScope s_112) fa cdv Ar outer s H E).nox (defBody s_112) (trS K (run T n) b_check_wish) :=
  (xs_one (xs_if (xt_not (xt_truth (xe_call A.f111 hr (by rfl) (xa_cons (xe_var 0) (xa_cons (xe_var 1) (xa_nil)))) (fun _ => rfl)))
    (xs_one xs_stuck) xs_nil))
/-! 111: fits_as_wish -/
theorem d_111 (A : Al P w K mg base n) (G : Gs w K mg) (fa : Addr) (cdv : Value) (Ar : Around) (outer : List PySem.Env) (s : Shared) (H : Hp) (E : XK) (hr : RoomG n (Ar.deeper (PyProof.Rows.envOfC "fits_as_wish" (defScope s_111) s.heap.objs.size fa cdv))) :
    PSs (cxOf CX0 P w K mg base N_111 "fits_as_wish" (defScope s_111) fa cdv Ar outer s H E).nox (defBody s_111) (trS K (run T n) b_fits_as_wish) :=
  (xs_cons (xs_set 2 sc_111.nd (xe_cget (by rfl) G.c_WISH_ROLES.choose_spec.1 G.c_WISH_ROLES.choose_spec.2.2.1 (xe_call A.f84 hr (by rfl) (xa_cons (xe_var 1) (xa_nil))) ⟨rfl, rfl, rfl, rfl⟩))
    (xs_cons (xs_if ((xw_or (xt_cmp .is_ (xe_var 2) (xe_non) (by first | rfl | with_unfolding_all rfl)) (xw_or1 (xt_cmp .ne (xe_blt .len b_len (by rfl) G.n_len (by decide +kernel) (xa_cons (xe_var 1) (xa_nil))) (xe_bin .add (xe_int) (xe_blt .len b_len (by rfl) G.n_len (by decide +kernel) (xa_cons (xe_var 2) (xa_nil)))) (by first | rfl | with_unfolding_all rfl))))).pt
    (xs_one (xs_ret (xe_bl))) xs_nil)
    (xs_cons (xs_set 3 sc_111.nd (xe_call A.f96 hr (by rfl) (xa_cons (xe_var 0) (xa_nil))))
    (xs_one (xs_ret (xe_blt .all_ (b_all rfl) (by rfl) G.n_all (by decide +kernel) (xa_cons (xe_lc (own := [("role", 4), ("item", 5)]) rfl sc_111.nd (xi_zip (by rfl) G.n_zip (xa_cons (xe_var 2) (xa_cons (xe_sl (xe_var 1) (xo_some (xe_int)) xo_none) (xa_nil)))) N_111 (defScope s_111) (by decide +kernel) (fun _ _ _ _ _ => (xg_tup rfl (xgs_cons (xg_name 4 sc_111.nd) (xgs_cons (xg_name 5 sc_111.nd) xgs_nil)))) (fun _ _ _ _ _ => xts_nil) (fun _ _ _ _ _ => (xe_call A.f110 hr (by rfl) (xa_cons (xe_var 3) (xa_cons (xe_var 4) (xa_cons (xe_var 5) (xa_nil))))))) (xa_nil))))))))
/-! 110: fits_wish_role -/
theorem d_110 (A : Al P w K mg base n) (G : Gs w K mg) (fa : Addr) (cdv : Value) (Ar : Around) (outer : List PySem.Env) (s : Shared) (H : Hp) (E : XK) (hr : RoomG n (Ar.deeper (PyProof.Rows.envOfC "fits_wish_role" (defScope s_110) s.heap.objs.size fa cdv))) :
    PSs (cxOf CX0 P w K mg base N_110 "fits_wish_role" (defScope s_110) fa cdv Ar outer s H E).nox (defBody s_110) (trS K (run T n) b_fits_wish_role) :=
  (xs_cons (xs_if (xt_cmp .eq (xe_var 1) (xe_str) (by first | rfl | with_unfolding_all rfl))
    (xs_one (xs_ret (xe_and (xe_call A.f0 hr (by rfl) (xa_cons (xe_var 2) (xa_nil))) (xe_one (xe_chain .le .le (xe_int) (xe_var 2) (xe_glob (v := .int 1000000) (u := .int 1000000 G.c_FARTHEST_NEAR.choose) (by rfl) G.c_FARTHEST_NEAR.choose_spec ⟨_, rfl⟩ (fun _ _ => .int _))))))) xs_nil)
    (xs_one (xs_ret (xe_call A.f89 hr (by rfl) (xa_cons (xe_var 0) (xa_cons (xe_var 2) (xa_nil)))))))
/-! 114: write_program -/
theorem d_114 (A : Al P w K mg base n) (G : Gs w K mg) (fa : Addr) (cdv : Value) (Ar : Around) (outer : List PySem.Env) (s : Shared) (H : Hp) (E : XK) (hr : RoomG n (Ar.deeper (PyProof.Rows.envOfC "write_program" (defScope s_114) s.heap.objs.size fa cdv))) :
    PSs (cxOf CX0 P w K mg base N_114 "write_program" (defScope s_114) fa cdv Ar outer s H E).nox (defBody s_114) (trS K (run T n) b_write_program) :=
  (xs_cons (xs_drop (xe_call A.f86 hr (by rfl) (xa_cons (xe_var 0) (xa_nil))))
    (xs_cons (xs_drop (xe_call A.f95 hr (by rfl) (xa_cons (xe_var 0) (xa_cons (xe_var 1) (xa_nil)))))
    (xs_cons (xs_if (xt_not (xt_truth (xe_var 1) (fun _ => rfl)))
    (xs_one (xs_ret (xe_glob (v := .str "-") (u := .str "-" G.c_NO_STEPS.choose) (by rfl) G.c_NO_STEPS.choose_spec ⟨_, rfl⟩ (fun _ _ => .str _)))) xs_nil)
    (xs_one (xs_ret (xe_joinS (xe_lc (own := [("step", 2)]) rfl sc_114.nd (xi_seq (xe_var 1)) N_114 (defScope s_114) (by decide +kernel) (fun _ _ _ _ _ => (xg_name 2 sc_114.nd)) (fun _ _ _ _ _ => xts_nil) (fun _ _ _ _ _ => (xe_call A.f113 hr (by rfl) (xa_cons (xe_var 2) (xa_nil)))))))))))
/-! 142: read_program -/
theorem d_142 (A : Al P w K mg base n) (G : Gs w K mg) (fa : Addr) (cdv : Value) (Ar : Around) (outer : List PySem.Env) (s : Shared) (H : Hp) (E : XK) (hr : RoomG n (Ar.deeper (PyProof.Rows.envOfC "read_program" (defScope s_142) s.heap.objs.size fa cdv))) :
    PSs (cxOf CX0 P w K mg base N_142 "read_program" (defScope s_142) fa cdv Ar outer s H E).nox (defBody s_142) (trS K (run T n) b_read_program) :=
  (xs_cons (xs_drop (xe_call A.f86 hr (by rfl) (xa_cons (xe_var 0) (xa_nil))))
    (xs_cons (xs_set 2 sc_142.nd (xe_split (xe_var 1)))
    (xs_cons (xs_if (xt_cmp .eq (xe_ix (xe_var 2) (xe_int) (fun _ _ => rfl)) (xe_glob (v := .str "-") (u := .str "-" G.c_NO_STEPS.choose) (by rfl) G.c_NO_STEPS.choose_spec ⟨_, rfl⟩ (fun _ _ => .str _)) (by first | rfl | with_unfolding_all rfl))
    (xs_cons (xs_drop (xe_call A.f136 hr (by rfl) (xa_cons (xe_var 2) (xa_cons (xe_int) (xa_nil)))))
    (xs_one (xs_ret (xe_tup (xa_nil))))) xs_nil)
    (xs_cons (xs_set 3 sc_142.nd (xe_tup (xa_cons (xe_call A.f141 hr (by rfl) (xa_cons (xe_var 0) (xa_cons (xe_tup (xa_nil)) (xa_cons (xe_var 2) (xa_cons (xe_int) (xa_nil)))))) (xa_nil))))
    (xs_cons (xs_set 4 sc_142.nd (xe_blt .len b_len (by rfl) G.n_len (by decide +kernel) (xa_cons (xe_ix (xe_var 3) (xe_int) (fun _ _ => rfl)) (xa_nil))))
    (xs_cons (xs_while PassesOwn.never (xt_cmp .lt (xe_var 4) (xe_blt .len b_len (by rfl) G.n_len (by decide +kernel) (xa_cons (xe_var 2) (xa_nil))) (by first | rfl | with_unfolding_all rfl))
    (xs_cons (xs_if ((xw_or (xt_cmp .ne (xe_ix (xe_var 2) (xe_var 4) (fun _ _ => rfl)) (xe_str) (by first | rfl | with_unfolding_all rfl)) (xw_or1 (xt_cmp .eq (xe_blt .len b_len (by rfl) G.n_len (by decide +kernel) (xa_cons (xe_var 3) (xa_nil))) (xe_glob (v := .int 8) (u := .int 8 G.c_MOST_STEPS.choose) (by rfl) G.c_MOST_STEPS.choose_spec ⟨_, rfl⟩ (fun _ _ => .int _)) (by first | rfl | with_unfolding_all rfl))))).pt
    (xs_one xs_stuck) xs_nil)
    (xs_cons (xs_set 5 sc_142.nd (xe_call A.f141 hr (by rfl) (xa_cons (xe_var 0) (xa_cons (xe_var 3) (xa_cons (xe_var 2) (xa_cons (xe_bin .add (xe_var 4) (xe_int)) (xa_nil)))))))
    (xs_cons (xs_set 3 sc_142.nd (xe_bin .add (xe_var 3) (xe_tup (xa_cons (xe_var 5) (xa_nil)))))
    (xs_one (xs_aug_add 4 sc_142.nd (xe_bin .add (xe_int) (xe_blt .len b_len (by rfl) G.n_len (by decide +kernel) (xa_cons (xe_var 5) (xa_nil))))))))))
    (xs_one (xs_ret (xe_var 3)))))))))
/-! 115: write_wish -/
theorem d_115 (A : Al P w K mg base n) (G : Gs w K mg) (fa : Addr) (cdv : Value) (Ar : Around) (outer : List PySem.Env) (s : Shared) (H : Hp) (E : XK) (hr : RoomG n (Ar.deeper (PyProof.Rows.envOfC "write_wish" (defScope s_115) s.heap.objs.size fa cdv))) :
    PSs (cxOf CX0 P w K mg base N_115 "write_wish" (defScope s_115) fa cdv Ar outer s H E).nox (defBody s_115) (trS K (run T n) b_write_wish) :=
  (xs_cons (xs_drop (xe_call A.f86 hr (by rfl) (xa_cons (xe_var 0) (xa_nil))))
    (xs_cons (xs_drop (xe_call A.f95 hr (by rfl) (xa_cons (xe_var 0) (xa_cons (xe_var 1) (xa_nil)))))
    (xs_cons (xs_drop (xe_call A.f112 hr (by rfl) (xa_cons (xe_var 1) (xa_cons (xe_var 2) (xa_nil)))))
    (xs_one (xs_ret (xe_call A.f113 hr (by rfl) (xa_cons (xe_var 2) (xa_nil))))))))
/-! 143: read_wish -/
theorem d_143 (A : Al P w K mg base n) (G : Gs w K mg) (fa : Addr) (cdv : Value) (Ar : Around) (outer : List PySem.Env) (s : Shared) (H : Hp) (E : XK) (hr : RoomG n (Ar.deeper (PyProof.Rows.envOfC "read_wish" (defScope s_143) s.heap.objs.size fa cdv))) :
    PSs (cxOf CX0 P w K mg base N_143 "read_wish" (defScope s_143) fa cdv Ar outer s H E).nox (defBody s_143) (trS K (run T n) b_read_wish) :=
  (xs_cons (xs_drop (xe_call A.f86 hr (by rfl) (xa_cons (xe_var 0) (xa_nil))))
    (xs_cons (xs_drop (xe_call A.f95 hr (by rfl) (xa_cons (xe_var 0) (xa_cons (xe_var 1) (xa_nil)))))
    (xs_cons (xs_set 3 sc_143.nd (xe_split (xe_var 2)))
    (xs_cons (xs_set 4 sc_143.nd (xe_call A.f96 hr (by rfl) (xa_cons (xe_var 1) (xa_nil))))
    (xs_cons (xs_if (xt_notcin (by rfl) G.c_WISH_ROLES.choose_spec.1 G.c_WISH_ROLES.choose_spec.2.2.2 (xe_ix (xe_var 3) (xe_int) (fun _ _ => rfl)))
    (xs_one xs_stuck) xs_nil)
    (xs_cons (xs_set 5 sc_143.nd (xe_tup (xa_cons (xe_ix (xe_var 3) (xe_int) (fun _ _ => rfl)) (xa_nil))))
    (xs_cons (xs_for PassesOwn.never rfl (xi_seq (xe_cix (by rfl) G.c_WISH_ROLES.choose_spec.1 G.c_WISH_ROLES.choose_spec.2.1 (xe_ix (xe_var 3) (xe_int) (fun _ _ => rfl)) (fun _ _ => rfl))) (xg_name 6 sc_143.nd)
    (xs_cons (xs_set 7 sc_143.nd (xe_call A.f139 hr (by rfl) (xa_cons (xe_call A.f137 hr (by rfl) (xa_cons (xe_var 3) (xa_cons (xe_blt .len b_len (by rfl) G.n_len (by decide +kernel) (xa_cons (xe_var 5) (xa_nil))) (xa_nil)))) (xa_nil))))
    (xs_cons (xs_if (xt_not (xt_truth (xe_call A.f110 hr (by rfl) (xa_cons (xe_var 4) (xa_cons (xe_var 6) (xa_cons (xe_var 7) (xa_nil))))) (fun _ => rfl)))
    (xs_one xs_stuck) xs_nil)
    (xs_one (xs_set 5 sc_143.nd (xe_bin .add (xe_var 5) (xe_tup (xa_cons (xe_var 7) (xa_nil)))))))))
    (xs_cons (xs_drop (xe_call A.f136 hr (by rfl) (xa_cons (xe_var 3) (xa_cons (xe_blt .len b_len (by rfl) G.n_len (by decide +kernel) (xa_cons (xe_var 5) (xa_nil))) (xa_nil)))))
    (xs_one (xs_ret (xe_var 5)))))))))))
/-! 139: number_from -/
theorem d_139 (A : Al P w K mg base n) (G : Gs w K mg) (fa : Addr) (cdv : Value) (Ar : Around) (outer : List PySem.Env) (s : Shared) (H : Hp) (E : XK) (hr : RoomG n (Ar.deeper (PyProof.Rows.envOfC "number_from" (defScope s_139) s.heap.objs.size fa cdv))) :
    PSs (cxOf CX0 P w K mg base N_139 "number_from" (defScope s_139) fa cdv Ar outer s H E).nox (defBody s_139) (trS K (run T n) b_number_from) :=
  (xs_cons (xs_set 1 sc_139.nd (xe_ite (xt_truth (xe_stw (xe_var 0)) (fun _ => rfl)) (xe_sl (xe_var 0) (xo_some (xe_int)) xo_none) (xe_var 0)))
    (xs_cons (xs_if ((xw_or (xt_not (xt_chain .le .le (xe_int) (xe_blt .slen b_slen (by rfl) G.n_len (by decide +kernel) (xa_cons (xe_var 1) (xa_nil))) (xe_glob (v := .int 12) (u := .int 12 G.c_MOST_DIGITS.choose) (by rfl) G.c_MOST_DIGITS.choose_spec ⟨_, rfl⟩ (fun _ _ => .int _)))) (xw_or1 (xt_not (xt_truth (xe_blt .all_ (b_all rfl) (by rfl) G.n_all (by decide +kernel) (xa_cons (xe_lc (own := [("mark", 2)]) rfl sc_139.nd (xi_chars (xe_var 1)) N_139 (defScope s_139) (by decide +kernel) (fun _ _ _ _ _ => (xg_name 2 sc_139.nd)) (fun _ _ _ _ _ => xts_nil) (fun _ _ _ _ _ => (xe_sgn (xe_var 2) (xe_glob (v := .str "0123456789") (u := .str "0123456789" G.c_DIGITS.choose) (by rfl) G.c_DIGITS.choose_spec ⟨_, rfl⟩ (fun _ _ => .str _))))) (xa_nil))) (fun _ => rfl)))))).pt
    (xs_one (xs_ret (xe_non))) xs_nil)
    (xs_cons (xs_if ((xw_and (xt_truth (xe_stw (xe_var 1)) (fun _ => rfl)) (xw_and1 (xt_cmp .ne (xe_var 0) (xe_str) (by first | rfl | with_unfolding_all rfl))))).pt
    (xs_one (xs_ret (xe_non))) xs_nil)
    (xs_one (xs_ret (xe_bty .sint b_sint (by rfl) G.n_int (by decide +kernel) (xa_cons (xe_var 0) (xa_nil))))))))
/-! 113: _text_of -/
theorem d_113 (A : Al P w K mg base n) (G : Gs w K mg) (fa : Addr) (cdv : Value) (Ar : Around) (outer : List PySem.Env) (s : Shared) (H : Hp) (E : XK) (hr : RoomG n (Ar.deeper (PyProof.Rows.envOfC "_text_of" (defScope s_113) s.heap.objs.size fa cdv))) :
    PSs (cxOf CX0 P w K mg base N_113 "_text_of" (defScope s_113) fa cdv Ar outer s H E).nox (defBody s_113) (trS K (run T n) b_text_of) :=
  (xs_one (xs_ret (xe_joinS (xe_lc (own := [("item", 1)]) rfl sc_113.nd (xi_seq (xe_var 0)) N_113 (defScope s_113) (by decide +kernel) (fun _ _ _ _ _ => (xg_name 1 sc_113.nd)) (fun _ _ _ _ _ => xts_nil) (fun _ _ _ _ _ => (xe_bty .str_ b_str (by rfl) G.n_str (by decide +kernel) (xa_cons (xe_var 1) (xa_nil))))))))
/-! 141: _step_from -/
theorem d_141 (A : Al P w K mg base n) (G : Gs w K mg) (fa : Addr) (cdv : Value) (Ar : Around) (outer : List PySem.Env) (s : Shared) (H : Hp) (E : XK) (hr : RoomG n (Ar.deeper (PyProof.Rows.envOfC "_step_from" (defScope s_141) s.heap.objs.size fa cdv))) :
    PSs (cxOf CX0 P w K mg base N_141 "_step_from" (defScope s_141) fa cdv Ar outer s H E).nox (defBody s_141) (trS K (run T n) b_step_from) :=
  (xs_cons (xs_set 4 sc_141.nd (xe_call A.f96 hr (by rfl) (xa_cons (xe_var 1) (xa_nil))))
    (xs_cons (xs_set 5 sc_141.nd (xe_call A.f137 hr (by rfl) (xa_cons (xe_var 2) (xa_cons (xe_var 3) (xa_nil)))))
    (xs_cons (xs_if (xt_not (xt_truth (xe_call A.f138 hr (by rfl) (xa_cons (xe_var 4) (xa_cons (xe_var 1) (xa_cons (xe_var 5) (xa_nil))))) (fun _ => rfl)))
    (xs_one xs_stuck) xs_nil)
    (xs_cons (xs_set 6 sc_141.nd (xe_tup (xa_cons (xe_var 5) (xa_nil))))
    (xs_cons (xs_for PassesOwn.never rfl (xi_seq (xe_cix (by rfl) G.c_STEP_ROLES.choose_spec.1 G.c_STEP_ROLES.choose_spec.2.1 (xe_var 5) (fun _ _ => rfl))) (xg_name 7 sc_141.nd)
    (xs_cons (xs_set 8 sc_141.nd (xe_bin .add (xe_var 3) (xe_blt .len b_len (by rfl) G.n_len (by decide +kernel) (xa_cons (xe_var 6) (xa_nil)))))
    (xs_cons (xs_set 9 sc_141.nd (xe_call A.f140 hr (by rfl) (xa_cons (xe_var 7) (xa_cons (xe_call A.f137 hr (by rfl) (xa_cons (xe_var 2) (xa_cons (xe_var 8) (xa_nil)))) (xa_nil)))))
    (xs_cons (xs_if (xt_not (xt_truth (xe_call A.f90 hr (by rfl) (xa_cons (xe_var 0) (xa_cons (xe_var 4) (xa_cons (xe_var 7) (xa_cons (xe_var 9) (xa_nil)))))) (fun _ => rfl)))
    (xs_one xs_stuck) xs_nil)
    (xs_one (xs_set 6 sc_141.nd (xe_bin .add (xe_var 6) (xe_tup (xa_cons (xe_var 9) (xa_nil))))))))))
    (xs_one (xs_ret (xe_var 6))))))))
/-! 138: _can_begin -/
theorem d_138 (A : Al P w K mg base n) (G : Gs w K mg) (fa : Addr) (cdv : Value) (Ar : Around) (outer : List PySem.Env) (s : Shared) (H : Hp) (E : XK) (hr : RoomG n (Ar.deeper (PyProof.Rows.envOfC "_can_begin" (defScope s_138) s.heap.objs.size fa cdv))) :
    PSs (cxOf CX0 P w K mg base N_138 "_can_begin" (defScope s_138) fa cdv Ar outer s H E).nox (defBody s_138) (trS K (run T n) b_can_begin) :=
  (xs_cons (xs_if (xt_notcin (by rfl) G.c_STEP_ROLES.choose_spec.1 G.c_STEP_ROLES.choose_spec.2.2.2 (xe_var 2))
    (xs_one (xs_ret (xe_bl))) xs_nil)
    (xs_cons (xs_if ((xw_and (xt_cmp .eq (xe_var 2) (xe_str) (by first | rfl | with_unfolding_all rfl)) (xw_and1 (xt_cmp .in_ (xe_var 2) (xe_lc (own := [("step", 3)]) rfl sc_138.nd (xi_seq (xe_var 1)) N_138 (defScope s_138) (by decide +kernel) (fun _ _ _ _ _ => (xg_name 3 sc_138.nd)) (fun _ _ _ _ _ => xts_nil) (fun _ _ _ _ _ => (xe_ix (xe_var 3) (xe_int) (fun _ _ => rfl)))) (by first | rfl | with_unfolding_all rfl))))).pt
    (xs_one (xs_ret (xe_bl))) xs_nil)
    (xs_one (xs_ret (xe_blt .all_ (b_all rfl) (by rfl) G.n_all (by decide +kernel) (xa_cons (xe_lc (own := [("role", 4)]) rfl sc_138.nd (xi_seq (xe_cix (by rfl) G.c_STEP_ROLES.choose_spec.1 G.c_STEP_ROLES.choose_spec.2.1 (xe_var 2) (fun _ _ => rfl))) N_138 (defScope s_138) (by decide +kernel) (fun _ _ _ _ _ => (xg_name 4 sc_138.nd)) (fun _ _ _ _ _ => (xts_one (xt_cmp .in_ (xe_var 4) (xe_glob (v := .ref G.c_KINDS.choose) (by rfl) G.c_KINDS.choose_spec.1 rfl G.c_KINDS.choose_spec.2) (by first | rfl | with_unfolding_all rfl)))) (fun _ _ _ _ _ => (xe_cmp .in_ (xe_var 4) (xe_var 0) (by first | rfl | with_unfolding_all rfl)))) (xa_nil)))))))
/-! 140: _item_from -/
theorem d_140 (A : Al P w K mg base n) (G : Gs w K mg) (fa : Addr) (cdv : Value) (Ar : Around) (outer : List PySem.Env) (s : Shared) (H : Hp) (E : XK) (hr : RoomG n (Ar.deeper (PyProof.Rows.envOfC "_item_from" (defScope s_140) s.heap.objs.size fa cdv))) :
    PSs (cxOf CX0 P w K mg base N_140 "_item_from" (defScope s_140) fa cdv Ar outer s H E).nox (defBody s_140) (trS K (run T n) b_item_from) :=
  (xs_cons (xs_if (xt_cmp .in_ (xe_var 0) (xe_tup (xa_cons (xe_str) (xa_cons (xe_str) (xa_nil)))) (by first | rfl | with_unfolding_all rfl))
    (xs_one (xs_ret (xe_var 1))) xs_nil)
    (xs_one (xs_ret (xe_call A.f139 hr (by rfl) (xa_cons (xe_var 1) (xa_nil))))))
/-! 137: _word_at -/
theorem d_137 (A : Al P w K mg base n) (G : Gs w K mg) (fa : Addr) (cdv : Value) (Ar : Around) (outer : List PySem.Env) (s : Shared) (H : Hp) (E : XK) (hr : RoomG n (Ar.deeper (PyProof.Rows.envOfC "_word_at" (defScope s_137) s.heap.objs.size fa cdv))) :
    PSs (cxOf CX0 P w K mg base N_137 "_word_at" (defScope s_137) fa cdv Ar outer s H E).nox (defBody s_137) (trS K (run T n) b_word_at) :=
  (xs_cons (xs_if (xt_cmp .ge (xe_var 1) (xe_blt .len b_len (by rfl) G.n_len (by decide +kernel) (xa_cons (xe_var 0) (xa_nil))) (by first | rfl | with_unfolding_all rfl))
    (xs_one xs_stuck) xs_nil)
    (xs_one (xs_ret (xe_ix (xe_var 0) (xe_var 1) (fun _ _ => rfl)))))
/-! 136: _check_end -/
theorem d_136 (A : Al P w K mg base n) (G : Gs w K mg) (fa : Addr) (cdv : Value) (Ar : Around) (outer : List PySem.Env) (s : Shared) (H : Hp) (E : XK) (hr : RoomG n (Ar.deeper (PyProof.Rows.envOfC "_check_end" (defScope s_136) s.heap.objs.size fa cdv))) :
    PSs (cxOf CX0 P w K mg base N_136 "_check_end" (defScope s_136) fa cdv Ar outer s H E).nox (defBody s_136) (trS K (run T n) b_check_end) :=
  (xs_one (xs_if (xt_cmp .lt (xe_var 1) (xe_blt .len b_len (by rfl) G.n_len (by decide +kernel) (xa_cons (xe_var 0) (xa_nil))) (by first | rfl | with_unfolding_all rfl))
    (xs_one xs_stuck) xs_nil))
/-! 116: _law_make_pot -/
theorem d_116 (A : Al P w K mg base n) (G : Gs w K mg) (fa : Addr) (cdv : Value) (Ar : Around) (outer : List PySem.Env) (s : Shared) (H : Hp) (E : XK) (hr : RoomG n (Ar.deeper (PyProof.Rows.envOfC "_law_make_pot" (defScope s_116) s.heap.objs.size fa cdv))) :
    PSs (cxOf CX0 P w K mg base N_116 "_law_make_pot" (defScope s_116) fa cdv Ar outer s H E).nox (defBody s_116) (trS K (run T n) b_make_pot) :=
  (xs_cons (xs_set 1 sc_116.nd (xe_ite (xt_cmp .ge (xe_var 0) (xe_bin .pow (xe_int) (xe_int)) (by first | rfl | with_unfolding_all rfl)) (xe_bin .sub (xe_var 0) (xe_bin .pow (xe_int) (xe_int))) (xe_int)))
    (xs_one (xs_ret (xe_lst (xa_cons (xe_var 1) (xa_cons (xe_bin .mod (xe_bty .int_ b_int (by rfl) G.n_int (by decide +kernel) (xa_cons (xe_var 0) (xa_nil))) (xe_int)) (xa_cons (xe_int) (xa_nil))))))))
/-! 117: _law_pick -/
theorem d_117 (A : Al P w K mg base n) (G : Gs w K mg) (fa : Addr) (cdv : Value) (Ar : Around) (outer : List PySem.Env) (s : Shared) (H : Hp) (E : XK) (hr : RoomG n (Ar.deeper (PyProof.Rows.envOfC "_law_pick" (defScope s_117) s.heap.objs.size fa cdv))) :
    PSs (cxOf CX0 P w K mg base N_117 "_law_pick" (defScope s_117) fa cdv Ar outer s H E).nox (defBody s_117) (trS K (run T n) b_pick_2) :=
  (xs_cons (xs_if (xt_cmp .gt (xe_ix (xe_var 0) (xe_int) (fun _ _ => rfl)) (xe_int) (by first | rfl | with_unfolding_all rfl))
    (xs_cons (xs_set 2 sc_117.nd (xe_bin .mod (xe_bty .int_ b_int (by rfl) G.n_int (by decide +kernel) (xa_cons (xe_ix (xe_var 0) (xe_int) (fun _ _ => rfl)) (xa_nil))) (xe_var 1)))
    (xs_cons (xs_setix (xe_bin .fdiv (xe_ix (xe_var 0) (xe_int) (fun _ _ => rfl)) (xe_var 1)) (xe_var 0) (xe_int))
    (xs_one (xs_ret (xe_var 2))))) xs_nil)
    (xs_cons (xs_setix (xe_bin .add (xe_ix (xe_var 0) (xe_int) (fun _ _ => rfl)) (xe_int)) (xe_var 0) (xe_int))
    (xs_cons (xs_set 3 sc_117.nd (xe_ix (xe_var 0) (xe_int) (fun _ _ => rfl)))
    (xs_cons (xs_set 4 sc_117.nd (xe_bin .add (xe_bin .mul (xe_bin .add (xe_ix (xe_var 0) (xe_int) (fun _ _ => rfl)) (xe_int)) (xe_bin .add (xe_bin .add (xe_bin .mul (xe_bin .mul (xe_int) (xe_var 3)) (xe_var 3)) (xe_bin .mul (xe_int) (xe_var 3))) (xe_int))) (xe_bin .mul (xe_int) (xe_var 3))))
    (xs_cons (xs_set 4 sc_117.nd (xe_bin .fdiv (xe_bin .mod (xe_bty .int_ b_int (by rfl) G.n_int (by decide +kernel) (xa_cons (xe_bin .add (xe_bin .mul (xe_var 4) (xe_var 4)) (xe_bin .mul (xe_int) (xe_var 4))) (xa_nil))) (xe_int)) (xe_int)))
    (xs_one (xs_ret (xe_bin .mod (xe_bin .fdiv (xe_bin .mod (xe_bty .int_ b_int (by rfl) G.n_int (by decide +kernel) (xa_cons (xe_bin .add (xe_bin .add (xe_bin .mul (xe_var 4) (xe_var 4)) (xe_bin .mul (xe_int) (xe_var 4))) (xe_var 3)) (xa_nil))) (xe_int)) (xe_int)) (xe_var 1)))))))))
/-! 118: _law_cells -/
theorem d_118 (A : Al P w K mg base n) (G : Gs w K mg) (fa : Addr) (cdv : Value) (Ar : Around) (outer : List PySem.Env) (s : Shared) (H : Hp) (E : XK) (hr : RoomG n (Ar.deeper (PyProof.Rows.envOfC "_law_cells" (defScope s_118) s.heap.objs.size fa cdv))) :
    PSs (cxOf CX0 P w K mg base N_118 "_law_cells" (defScope s_118) fa cdv Ar outer s H E).nox (defBody s_118) (trS K (run T n) b_cells) :=
  (xs_one (xs_ret (xe_bin .add (xe_lst (xa_cons (xe_int) (xa_nil))) (xe_sl (xe_var 0) xo_none (xo_some (xe_var 1))))))
/-! 119: _law_draw_spot -/
theorem d_119 (A : Al P w K mg base n) (G : Gs w K mg) (fa : Addr) (cdv : Value) (Ar : Around) (outer : List PySem.Env) (s : Shared) (H : Hp) (E : XK) (hr : RoomG n (Ar.deeper (PyProof.Rows.envOfC "_law_draw_spot" (defScope s_119) s.heap.objs.size fa cdv))) :
    PSs (cxOf CX0 P w K mg base N_119 "_law_draw_spot" (defScope s_119) fa cdv Ar outer s H E).nox (defBody s_119) (trS K (run T n) b_draw_spot) :=
  (xs_cons (xs_setlc (i := 3) (own := [("_law_k", 4)]) rfl sc_119.nd rfl rfl (sw_true rfl rfl rfl (by decide +kernel)) (xi_range1 (by rfl) G.n_range (xa_cons (xe_blt .len b_len (by rfl) G.n_len (by decide +kernel) (xa_cons (xe_var 1) (xa_nil))) (xa_nil))) N_119 (defScope s_119) (by decide +kernel) (fun _ _ _ _ _ => (xg_name 4 sc_119.nd)) (fun _ _ _ _ _ => (xts_one (xt_cmp .in_ (xe_ix (xe_var 1) (xe_var 4) (fun _ _ => rfl)) (xe_var 2) (by first | rfl | with_unfolding_all rfl)))) (fun _ _ _ _ _ => (xe_var 4)))
    (xs_one (xs_ret (xe_ix (xe_lst (xa_cons (xe_ix (xe_var 3) (xe_neg (xe_int)) (fun _ _ => rfl)) (xa_cons (xe_ix (xe_var 3) (xe_call A.f117 hr (by rfl) (xa_cons (xe_var 0) (xa_cons (xe_blt .len b_len (by rfl) G.n_len (by decide +kernel) (xa_cons (xe_var 3) (xa_nil))) (xa_nil)))) (fun _ _ => rfl)) (xa_nil)))) (xe_call A.f117 hr (by rfl) (xa_cons (xe_var 0) (xa_cons (xe_int) (xa_nil)))) (fun _ _ => rfl)))))
/-! 120: _law_sort_behind -/
theorem d_120 (A : Al P w K mg base n) (G : Gs w K mg) (fa : Addr) (cdv : Value) (Ar : Around) (outer : List PySem.Env) (s : Shared) (H : Hp) (E : XK) (hr : RoomG n (Ar.deeper (PyProof.Rows.envOfC "_law_sort_behind" (defScope s_120) s.heap.objs.size fa cdv))) :
    PSs (cxOf CX0 P w K mg base N_120 "_law_sort_behind" (defScope s_120) fa cdv Ar outer s H E).nox (defBody s_120) (trS K (run T n) b_sort_behind) :=
  (xs_cons (xs_set 2 sc_120.nd (xe_dct [(.c (.str "read"), .c (.str "reading")), (.c (.str "find"), .c (.str "moment")), (.c (.str "offset"), .c (.str "span")), (.c (.str "edition"), .c (.str "moment")), (.c (.str "plus"), .c (.str "reading"))] (pps_cons (xe_str) (xe_str) (pps_cons (xe_str) (xe_str) (pps_cons (xe_str) (xe_str) (pps_cons (xe_str) (xe_str) (pps_cons (xe_str) (xe_str) pps_nil))))) rfl rfl (List.cons_ne_nil _ _) (by decide)))
    (xs_cons (xs_if (xt_cmp .eq (xe_ix (xe_var 1) (xe_int) (fun _ _ => rfl)) (xe_str) (by first | rfl | with_unfolding_all rfl))
    (xs_one (xs_ret (xe_ix (xe_var 0) (xe_ix (xe_var 1) (xe_int) (fun _ _ => rfl)) (fun _ _ => rfl)))) xs_nil)
    (xs_one (xs_ret (xe_getd hr (xe_var 2) (xe_ix (xe_var 1) (xe_int) (fun _ _ => rfl)) (xe_str) ⟨rfl, rfl, rfl, rfl⟩)))))
/-! 121: _law_kinds_in -/
theorem d_121 (A : Al P w K mg base n) (G : Gs w K mg) (fa : Addr) (cdv : Value) (Ar : Around) (outer : List PySem.Env) (s : Shared) (H : Hp) (E : XK) (hr : RoomG n (Ar.deeper (PyProof.Rows.envOfC "_law_kinds_in" (defScope s_121) s.heap.objs.size fa cdv))) :
    PSs (cxOf CX0 P w K mg base N_121 "_law_kinds_in" (defScope s_121) fa cdv Ar outer s H E).nox (defBody s_121) (trS K (run T n) b_kinds_in) :=
  (xs_cons (xs_set 1 sc_121.nd (xe_lst (xa_cons (xe_str) (xa_nil))))
    (xs_cons (xs_for PassesOwn.never rfl (xi_seq (xe_var 0)) (xg_name 2 sc_121.nd)
    (xs_one (xs_drop (xe_append (xe_var 1) (xa_cons (xe_call A.f120 hr (by rfl) (xa_cons (xe_var 1) (xa_cons (xe_var 2) (xa_nil)))) (xa_nil))))))
    (xs_one (xs_ret (xe_var 1)))))
/-! 122: _law_rule -/
theorem d_122 (A : Al P w K mg base n) (G : Gs w K mg) (fa : Addr) (cdv : Value) (Ar : Around) (outer : List PySem.Env) (s : Shared) (H : Hp) (E : XK) (hr : RoomG n (Ar.deeper (PyProof.Rows.envOfC "_law_rule" (defScope s_122) s.heap.objs.size fa cdv))) :
    PSs (cxOf CX0 P w K mg base N_122 "_law_rule" (defScope s_122) fa cdv Ar outer s H E).nox (defBody s_122) (trS K (run T n) b_rule) :=
  (xs_cons (xs_set 1 sc_122.nd (xe_ix (xe_lst (xa_cons (xe_str) (xa_cons (xe_str) (xa_cons (xe_str) (xa_cons (xe_str) (xa_cons (xe_str) (xa_nil))))))) (xe_call A.f117 hr (by rfl) (xa_cons (xe_var 0) (xa_cons (xe_int) (xa_nil)))) (fun _ _ => rfl)))
    (xs_one (xs_ret (xe_tup (xa_cons (xe_var 1) (xa_cons (xe_ix (xe_lst (xa_cons (xe_str) (xa_cons (xe_str) (xa_cons (xe_str) (xa_cons (xe_str) (xa_cons (xe_str) (xa_nil))))))) (xe_call A.f117 hr (by rfl) (xa_cons (xe_var 0) (xa_cons (xe_int) (xa_nil)))) (fun _ _ => rfl)) (xa_nil)))))))
/-! 123: _law_words_open -/
theorem d_123 (A : Al P w K mg base n) (G : Gs w K mg) (fa : Addr) (cdv : Value) (Ar : Around) (outer : List PySem.Env) (s : Shared) (H : Hp) (E : XK) (hr : RoomG n (Ar.deeper (PyProof.Rows.envOfC "_law_words_open" (defScope s_123) s.heap.objs.size fa cdv))) :
    PSs (cxOf CX0 P w K mg base N_123 "_law_words_open" (defScope s_123) fa cdv Ar outer s H E).nox (defBody s_123) (trS K (run T n) b_words_open) :=
  (xs_cons (xs_set 4 sc_123.nd (xe_lst (xa_cons (xe_str) (xa_nil))))
    (xs_cons (xs_if (xt_cmp .gt (xe_var 2) (xe_int) (by first | rfl | with_unfolding_all rfl))
    (xs_cons (xs_set 4 sc_123.nd (xe_bin .add (xe_var 4) (xe_lst (xa_cons (xe_str) (xa_cons (xe_str) (xa_cons (xe_str) (xa_nil)))))))
    (xs_cons (xs_if (xt_cmp .in_ (xe_str) (xe_var 0) (by first | rfl | with_unfolding_all rfl))
    (xs_one (xs_set 4 sc_123.nd (xe_bin .add (xe_var 4) (xe_lst (xa_cons (xe_str) (xa_cons (xe_str) (xa_cons (xe_str) (xa_nil)))))))) xs_nil)
    (xs_one (xs_if ((xw_and (xt_truth (xe_var 3) (fun _ => rfl)) (xw_and1 (xt_cmpd .eq hr (xe_lc (own := [("_law_step", 5)]) rfl sc_123.nd (xi_seq (xe_var 1)) N_123 (defScope s_123) (by decide +kernel) (fun _ _ _ _ _ => (xg_name 5 sc_123.nd)) (fun _ _ _ _ _ => (xts_one (xt_cmp .eq (xe_ix (xe_var 5) (xe_int) (fun _ _ => rfl)) (xe_str) (by first | rfl | with_unfolding_all rfl)))) (fun _ _ _ _ _ => (xe_var 5))) (xe_lst (xa_nil)) (by first | rfl | with_unfolding_all rfl))))).pt
    (xs_one (xs_set 4 sc_123.nd (xe_bin .add (xe_var 4) (xe_lst (xa_cons (xe_str) (xa_nil)))))) xs_nil)))) xs_nil)
    (xs_cons (xs_if (xt_cmp .in_ (xe_str) (xe_var 0) (by first | rfl | with_unfolding_all rfl))
    (xs_cons (xs_set 4 sc_123.nd (xe_bin .add (xe_var 4) (xe_lst (xa_cons (xe_str) (xa_nil)))))
    (xs_one (xs_if (xt_cmp .in_ (xe_str) (xe_var 0) (by first | rfl | with_unfolding_all rfl))
    (xs_one (xs_set 4 sc_123.nd (xe_bin .add (xe_var 4) (xe_lst (xa_cons (xe_str) (xa_cons (xe_str) (xa_nil))))))) xs_nil))) xs_nil)
    (xs_one (xs_ret (xe_var 4))))))
/-! 124: _law_draw_step -/
theorem d_124 (A : Al P w K mg base n) (G : Gs w K mg) (fa : Addr) (cdv : Value) (Ar : Around) (outer : List PySem.Env) (s : Shared) (H : Hp) (E : XK) (hr : RoomG n (Ar.deeper (PyProof.Rows.envOfC "_law_draw_step" (defScope s_124) s.heap.objs.size fa cdv))) :
    PSs (cxOf CX0 P w K mg base N_124 "_law_draw_step" (defScope s_124) fa cdv Ar outer s H E).nox (defBody s_124) (trS K (run T n) b_draw_step) :=
  (xs_cons (xs_set 5 sc_124.nd (xe_ix (xe_var 3) (xe_call A.f117 hr (by rfl) (xa_cons (xe_var 0) (xa_cons (xe_blt .len b_len (by rfl) G.n_len (by decide +kernel) (xa_cons (xe_var 3) (xa_nil))) (xa_nil)))) (fun _ _ => rfl)))
    (xs_cons (xs_set 6 sc_124.nd (xe_dct [(.c (.str "find"), .lst (.cons (.c (.str "reading")) (.nil))), (.c (.str "less"), .lst (.cons (.c (.str "reading")) (.nil))), (.c (.str "add"), .lst (.cons (.c (.str "moment")) (.cons (.c (.str "reading")) (.nil))))] (pps_cons (xe_str) (xe_lst (xa_cons (xe_str) (xa_nil))) (pps_cons (xe_str) (xe_lst (xa_cons (xe_str) (xa_nil))) (pps_cons (xe_str) (xe_lst (xa_cons (xe_str) (xa_cons (xe_str) (xa_nil)))) pps_nil))) rfl rfl (List.cons_ne_nil _ _) (by decide)))
    (xs_cons (xs_set 7 sc_124.nd (xe_call A.f119 hr (by rfl) (xa_cons (xe_var 0) (xa_cons (xe_var 2) (xa_cons (xe_getd hr (xe_var 6) (xe_var 5) (xe_lst (xa_cons (xe_str) (xa_nil))) ⟨rfl, rfl, rfl, rfl⟩) (xa_nil))))))
    (xs_cons (xs_if (xt_cmp .eq (xe_var 5) (xe_str) (by first | rfl | with_unfolding_all rfl))
    (xs_one (xs_ret (xe_tup (xa_cons (xe_var 5) (xa_cons (xe_var 7) (xa_cons (xe_ix (xe_var 4) (xe_call A.f117 hr (by rfl) (xa_cons (xe_var 0) (xa_cons (xe_blt .len b_len (by rfl) G.n_len (by decide +kernel) (xa_cons (xe_var 4) (xa_nil))) (xa_nil)))) (fun _ _ => rfl)) (xa_nil))))))) xs_nil)
    (xs_cons (xs_if (xt_cmp .in_ (xe_var 5) (xe_lst (xa_cons (xe_str) (xa_cons (xe_str) (xa_nil)))) (by first | rfl | with_unfolding_all rfl))
    (xs_one (xs_ret (xe_tup (xa_cons (xe_var 5) (xa_cons (xe_var 7) (xa_cons (xe_call A.f119 hr (by rfl) (xa_cons (xe_var 0) (xa_cons (xe_var 2) (xa_cons (xe_lst (xa_cons (xe_str) (xa_nil))) (xa_nil))))) (xa_nil))))))) xs_nil)
    (xs_cons (xs_if (xt_cmp .eq (xe_var 5) (xe_str) (by first | rfl | with_unfolding_all rfl))
    (xs_one (xs_ret (xe_bin .add (xe_tup (xa_cons (xe_var 5) (xa_cons (xe_var 7) (xa_cons (xe_call A.f117 hr (by rfl) (xa_cons (xe_var 0) (xa_cons (xe_var 1) (xa_nil)))) (xa_nil))))) (xe_call A.f122 hr (by rfl) (xa_cons (xe_var 0) (xa_nil)))))) xs_nil)
    (xs_one (xs_ret (xe_tup (xa_cons (xe_var 5) (xa_cons (xe_var 7) (xa_cons (xe_call A.f117 hr (by rfl) (xa_cons (xe_var 0) (xa_cons (xe_var 1) (xa_nil)))) (xa_nil)))))))))))))
/-! 125: _law_draw_tale -/
theorem d_125 (A : Al P w K mg base n) (G : Gs w K mg) (fa : Addr) (cdv : Value) (Ar : Around) (outer : List PySem.Env) (s : Shared) (H : Hp) (E : XK) (hr : RoomG n (Ar.deeper (PyProof.Rows.envOfC "_law_draw_tale" (defScope s_125) s.heap.objs.size fa cdv))) :
    PSs (cxOf CX0 P w K mg base N_125 "_law_draw_tale" (defScope s_125) fa cdv Ar outer s H E).nox (defBody s_125) (trS K (run T n) b_draw_tale) :=
  (xs_cons (xs_set 7 sc_125.nd (xe_bty .list_ b_list (by rfl) G.n_list (by decide +kernel) (xa_cons (xe_var 6) (xa_nil))))
    (xs_cons (xs_set 8 sc_125.nd (xe_call A.f121 hr (by rfl) (xa_cons (xe_var 6) (xa_nil))))
    (xs_cons (xs_for PassesOwn.never rfl (xi_range1 (by rfl) G.n_range (xa_cons (xe_bin .sub (xe_var 2) (xe_blt .len b_len (by rfl) G.n_len (by decide +kernel) (xa_cons (xe_var 6) (xa_nil)))) (xa_nil))) (xg_name 9 sc_125.nd)
    (xs_cons (xs_set 10 sc_125.nd (xe_call A.f124 hr (by rfl) (xa_cons (xe_var 0) (xa_cons (xe_var 1) (xa_cons (xe_var 8) (xa_cons (xe_call A.f123 hr (by rfl) (xa_cons (xe_var 8) (xa_cons (xe_var 7) (xa_cons (xe_var 3) (xa_cons (xe_var 4) (xa_nil)))))) (xa_cons (xe_var 5) (xa_nil))))))))
    (xs_cons (xs_set 3 sc_125.nd (xe_bin .sub (xe_var 3) (xe_bty .int_ b_int (by rfl) G.n_int (by decide +kernel) (xa_cons (xe_cmp .in_ (xe_ix (xe_var 10) (xe_int) (fun _ _ => rfl)) (xe_lst (xa_cons (xe_str) (xa_cons (xe_str) (xa_cons (xe_str) (xa_cons (xe_str) (xa_nil)))))) (by first | rfl | with_unfolding_all rfl)) (xa_nil)))))
    (xs_cons (xs_drop (xe_append (xe_var 8) (xa_cons (xe_call A.f120 hr (by rfl) (xa_cons (xe_var 8) (xa_cons (xe_var 10) (xa_nil)))) (xa_nil))))
    (xs_one (xs_drop (xe_append (xe_var 7) (xa_cons (xe_var 10) (xa_nil)))))))))
    (xs_one (xs_ret (xe_bty .tuple_ b_tuple (by rfl) G.n_tuple (by decide +kernel) (xa_cons (xe_var 7) (xa_nil))))))))
/-! 126: _law_hours_in -/
theorem d_126 (A : Al P w K mg base n) (G : Gs w K mg) (fa : Addr) (cdv : Value) (Ar : Around) (outer : List PySem.Env) (s : Shared) (H : Hp) (E : XK) (hr : RoomG n (Ar.deeper (PyProof.Rows.envOfC "_law_hours_in" (defScope s_126) s.heap.objs.size fa cdv))) :
    PSs (cxOf CX0 P w K mg base N_126 "_law_hours_in" (defScope s_126) fa cdv Ar outer s H E).nox (defBody s_126) (trS K (run T n) b_hours_in) :=
  (xs_cons (xs_set 1 sc_126.nd (xe_call A.f121 hr (by rfl) (xa_cons (xe_var 0) (xa_nil))))
    (xs_one (xs_ret (xe_lc (own := [("_law_k", 2)]) rfl sc_126.nd (xi_range1 (by rfl) G.n_range (xa_cons (xe_blt .len b_len (by rfl) G.n_len (by decide +kernel) (xa_cons (xe_var 1) (xa_nil))) (xa_nil))) N_126 (defScope s_126) (by decide +kernel) (fun _ _ _ _ _ => (xg_name 2 sc_126.nd)) (fun _ _ _ _ _ => (xts_one (xt_cmp .ne (xe_ix (xe_var 1) (xe_var 2) (fun _ _ => rfl)) (xe_str) (by first | rfl | with_unfolding_all rfl)))) (fun _ _ _ _ _ => (xe_var 2))))))
/-! 127: _law_draw_shifts -/
theorem d_127 (A : Al P w K mg base n) (G : Gs w K mg) (fa : Addr) (cdv : Value) (Ar : Around) (outer : List PySem.Env) (s : Shared) (H : Hp) (E : XK) (hr : RoomG n (Ar.deeper (PyProof.Rows.envOfC "_law_draw_shifts" (defScope s_127) s.heap.objs.size fa cdv))) :
    PSs (cxOf CX0 P w K mg base N_127 "_law_draw_shifts" (defScope s_127) fa cdv Ar outer s H E).nox (defBody s_127) (trS K (run T n) b_draw_shifts) :=
  (xs_cons (xs_set 1 sc_127.nd (xe_call A.f117 hr (by rfl) (xa_cons (xe_var 0) (xa_cons (xe_int) (xa_nil)))))
    (xs_cons (xs_set 2 sc_127.nd (xe_lst (xa_cons (xe_tup (xa_cons (xe_int) (xa_cons (xe_int) (xa_nil)))) (xa_cons (xe_tup (xa_cons (xe_neg (xe_int)) (xa_cons (xe_int) (xa_nil)))) (xa_cons (xe_tup (xa_cons (xe_neg (xe_int)) (xa_cons (xe_neg (xe_int)) (xa_nil)))) (xa_cons (xe_tup (xa_cons (xe_int) (xa_nil))) (xa_nil)))))))
    (xs_cons (xs_set 2 sc_127.nd (xe_bin .add (xe_var 2) (xe_lst (xa_cons (xe_tup (xa_cons (xe_neg (xe_int)) (xa_cons (xe_neg (xe_int)) (xa_cons (xe_int) (xa_nil))))) (xa_cons (xe_tup (xa_cons (xe_neg (xe_int)) (xa_cons (xe_int) (xa_cons (xe_int) (xa_nil))))) (xa_cons (xe_tup (xa_cons (xe_int) (xa_cons (xe_int) (xa_nil)))) (xa_cons (xe_tup (xa_cons (xe_int) (xa_cons (xe_int) (xa_cons (xe_int) (xa_nil))))) (xa_nil))))))))
    (xs_cons (xs_if (xt_cmp .lt (xe_var 1) (xe_int) (by first | rfl | with_unfolding_all rfl))
    (xs_one (xs_ret (xe_ix (xe_var 2) (xe_call A.f117 hr (by rfl) (xa_cons (xe_var 0) (xa_cons (xe_int) (xa_nil)))) (fun _ _ => rfl)))) xs_nil)
    (xs_cons (xs_set 3 sc_127.nd (xe_ix (xe_lst (xa_cons (xe_int) (xa_cons (xe_int) (xa_cons (xe_int) (xa_cons (xe_int) (xa_cons (xe_int) (xa_cons (xe_int) (xa_cons (xe_int) (xa_nil))))))))) (xe_call A.f117 hr (by rfl) (xa_cons (xe_var 0) (xa_cons (xe_int) (xa_nil)))) (fun _ _ => rfl)))
    (xs_cons (xs_set 4 sc_127.nd (xe_bin .sub (xe_call A.f117 hr (by rfl) (xa_cons (xe_var 0) (xa_cons (xe_int) (xa_nil)))) (xe_int)))
    (xs_cons (xs_set 5 sc_127.nd (xe_blt .min_ (b_min rfl) (by rfl) G.n_min (by decide +kernel) (xa_cons (xe_int) (xa_cons (xe_bin .add (xe_bin .add (xe_var 4) (xe_int)) (xe_call A.f117 hr (by rfl) (xa_cons (xe_var 0) (xa_cons (xe_var 3) (xa_nil))))) (xa_nil)))))
    (xs_cons (xs_set 6 sc_127.nd (xe_bin .add (xe_bin .add (xe_var 4) (xe_int)) (xe_call A.f117 hr (by rfl) (xa_cons (xe_var 0) (xa_cons (xe_blt .max_ (b_max rfl) (by rfl) G.n_max (by decide +kernel) (xa_cons (xe_int) (xa_cons (xe_bin .sub (xe_bin .sub (xe_var 5) (xe_var 4)) (xe_int)) (xa_nil)))) (xa_nil))))))
    (xs_cons (xs_if ((xw_and (xt_cmp .eq (xe_var 1) (xe_int) (by first | rfl | with_unfolding_all rfl)) (xw_and1 (xt_chain .lt .lt (xe_var 4) (xe_var 6) (xe_var 5))))).pt
    (xs_one (xs_ret (xe_tup (xa_cons (xe_var 4) (xa_cons (xe_var 6) (xa_cons (xe_var 5) (xa_nil))))))) xs_nil)
    (xs_one (xs_ret (xe_ite ((xw_and (xt_cmp .lt (xe_var 4) (xe_var 5) (by first | rfl | with_unfolding_all rfl)) (xw_and1 (xt_cmp .gt (xe_var 1) (xe_int) (by first | rfl | with_unfolding_all rfl))))).pt (xe_tup (xa_cons (xe_var 4) (xa_cons (xe_var 5) (xa_nil)))) (xe_tup (xa_cons (xe_var 4) (xa_nil)))))))))))))))
/-! 128: _law_draw_apart -/
theorem d_128 (A : Al P w K mg base n) (G : Gs w K mg) (fa : Addr) (cdv : Value) (Ar : Around) (outer : List PySem.Env) (s : Shared) (H : Hp) (E : XK) (hr : RoomG n (Ar.deeper (PyProof.Rows.envOfC "_law_draw_apart" (defScope s_128) s.heap.objs.size fa cdv))) :
    PSs (cxOf CX0 P w K mg base N_128 "_law_draw_apart" (defScope s_128) fa cdv Ar outer s H E).nox (defBody s_128) (trS K (run T n) b_draw_apart) :=
  (xs_cons (xs_set 2 sc_128.nd (xe_bin .add (xe_bin .sub (xe_ix (xe_var 1) (xe_neg (xe_int)) (fun _ _ => rfl)) (xe_ix (xe_var 1) (xe_int) (fun _ _ => rfl))) (xe_int)))
    (xs_cons (xs_set 3 sc_128.nd (xe_lst (xa_cons (xe_var 2) (xa_cons (xe_var 2) (xa_cons (xe_bin .add (xe_var 2) (xe_call A.f117 hr (by rfl) (xa_cons (xe_var 0) (xa_cons (xe_int) (xa_nil))))) (xa_cons (xe_bin .add (xe_var 2) (xe_call A.f117 hr (by rfl) (xa_cons (xe_var 0) (xa_cons (xe_int) (xa_nil))))) (xa_cons (xe_bin .mul (xe_int) (xe_var 2)) (xa_cons (xe_int) (xa_cons (xe_int) (xa_nil))))))))))
    (xs_cons (xs_set 3 sc_128.nd (xe_bin .add (xe_var 3) (xe_lst (xa_cons (xe_bin .add (xe_int) (xe_call A.f117 hr (by rfl) (xa_cons (xe_var 0) (xa_cons (xe_int) (xa_nil))))) (xa_cons (xe_bin .add (xe_int) (xe_call A.f117 hr (by rfl) (xa_cons (xe_var 0) (xa_cons (xe_int) (xa_nil))))) (xa_nil))))))
    (xs_one (xs_ret (xe_blt .max_ (b_max rfl) (by rfl) G.n_max (by decide +kernel) (xa_cons (xe_var 2) (xa_cons (xe_ix (xe_var 3) (xe_call A.f117 hr (by rfl) (xa_cons (xe_var 0) (xa_cons (xe_int) (xa_nil)))) (fun _ _ => rfl)) (xa_nil)))))))))
/-! 129: _law_draw_fields -/
theorem d_129 (A : Al P w K mg base n) (G : Gs w K mg) (fa : Addr) (cdv : Value) (Ar : Around) (outer : List PySem.Env) (s : Shared) (H : Hp) (E : XK) (hr : RoomG n (Ar.deeper (PyProof.Rows.envOfC "_law_draw_fields" (defScope s_129) s.heap.objs.size fa cdv))) :
    PSs (cxOf CX0 P w K mg base N_129 "_law_draw_fields" (defScope s_129) fa cdv Ar outer s H E).nox (defBody s_129) (trS K (run T n) b_draw_fields) :=
  (xs_cons (xs_set 3 sc_129.nd (xe_lst (xa_nil)))
    (xs_cons (xs_for PassesOwn.never rfl (xi_range1 (by rfl) G.n_range (xa_cons (xe_var 1) (xa_nil))) (xg_name 4 sc_129.nd)
    (xs_cons (xs_set 5 sc_129.nd (xe_sl (xe_call A.f127 hr (by rfl) (xa_cons (xe_var 0) (xa_nil))) xo_none (xo_some (xe_var 2))))
    (xs_cons (xs_if ((xw_and (xt_cmp .gt (xe_var 4) (xe_int) (by first | rfl | with_unfolding_all rfl)) (xw_and1 (xt_cmp .eq (xe_call A.f117 hr (by rfl) (xa_cons (xe_var 0) (xa_cons (xe_int) (xa_nil)))) (xe_int) (by first | rfl | with_unfolding_all rfl))))).pt
    (xs_one (xs_set 5 sc_129.nd (xe_ix (xe_ix (xe_var 3) (xe_int) (fun _ _ => rfl)) (xe_int) (fun _ _ => rfl)))) xs_nil)
    (xs_cons (xs_set 6 sc_129.nd (xe_tup (xa_cons (xe_var 5) (xa_cons (xe_call A.f128 hr (by rfl) (xa_cons (xe_var 0) (xa_cons (xe_var 5) (xa_nil)))) (xa_nil)))))
    (xs_one (xs_drop (xe_append (xe_var 3) (xa_cons (xe_ite ((xw_and (xt_cmp .gt (xe_var 4) (xe_int) (by first | rfl | with_unfolding_all rfl)) (xw_and1 (xt_cmp .eq (xe_call A.f117 hr (by rfl) (xa_cons (xe_var 0) (xa_cons (xe_int) (xa_nil)))) (xe_int) (by first | rfl | with_unfolding_all rfl))))).pt (xe_ix (xe_var 3) (xe_int) (fun _ _ => rfl)) (xe_var 6)) (xa_nil)))))))))
    (xs_one (xs_ret (xe_bty .tuple_ b_tuple (by rfl) G.n_tuple (by decide +kernel) (xa_cons (xe_var 3) (xa_nil)))))))
/-! 130: _law_minutes -/
theorem d_130 (A : Al P w K mg base n) (G : Gs w K mg) (fa : Addr) (cdv : Value) (Ar : Around) (outer : List PySem.Env) (s : Shared) (H : Hp) (E : XK) (hr : RoomG n (Ar.deeper (PyProof.Rows.envOfC "_law_minutes" (defScope s_130) s.heap.objs.size fa cdv))) :
    PSs (cxOf CX0 P w K mg base N_130 "_law_minutes" (defScope s_130) fa cdv Ar outer s H E).nox (defBody s_130) (trS K (run T n) b_minutes_2) :=
  (xs_cons (xs_set 2 sc_130.nd (xe_ix (xe_var 1) (xe_call A.f117 hr (by rfl) (xa_cons (xe_var 0) (xa_cons (xe_blt .len b_len (by rfl) G.n_len (by decide +kernel) (xa_cons (xe_var 1) (xa_nil))) (xa_nil)))) (fun _ _ => rfl)))
    (xs_cons (xs_set 3 sc_130.nd (xe_bin .sub (xe_ix (xe_ix (xe_var 2) (xe_int) (fun _ _ => rfl)) (xe_neg (xe_int)) (fun _ _ => rfl)) (xe_ix (xe_ix (xe_var 2) (xe_int) (fun _ _ => rfl)) (xe_int) (fun _ _ => rfl))))
    (xs_cons (xs_set 4 sc_130.nd (xe_lst (xa_cons (xe_var 3) (xa_cons (xe_bin .sub (xe_var 3) (xe_int)) (xa_cons (xe_bin .add (xe_var 3) (xe_int)) (xa_cons (xe_ix (xe_var 2) (xe_int) (fun _ _ => rfl)) (xa_cons (xe_bin .sub (xe_ix (xe_var 2) (xe_int) (fun _ _ => rfl)) (xe_int)) (xa_cons (xe_bin .add (xe_ix (xe_var 2) (xe_int) (fun _ _ => rfl)) (xe_int)) (xa_cons (xe_bin .sub (xe_ix (xe_var 2) (xe_int) (fun _ _ => rfl)) (xe_var 3)) (xa_cons (xe_bin .mul (xe_int) (xe_ix (xe_var 2) (xe_int) (fun _ _ => rfl))) (xa_nil)))))))))))
    (xs_cons (xs_set 4 sc_130.nd (xe_bin .add (xe_var 4) (xe_lst (xa_cons (xe_int) (xa_cons (xe_int) (xa_cons (xe_int) (xa_cons (xe_int) (xa_cons (xe_int) (xa_cons (xe_call A.f117 hr (by rfl) (xa_cons (xe_var 0) (xa_cons (xe_int) (xa_nil)))) (xa_cons (xe_call A.f117 hr (by rfl) (xa_cons (xe_var 0) (xa_cons (xe_int) (xa_nil)))) (xa_cons (xe_bin .sub (xe_bin .sub (xe_ix (xe_var 2) (xe_int) (fun _ _ => rfl)) (xe_var 3)) (xe_int)) (xa_nil))))))))))))
    (xs_cons (xs_setlc (i := 5) (own := [("_law_k", 6)]) rfl sc_130.nd rfl rfl (sw_true rfl rfl rfl (by decide +kernel)) (xi_range1 (by rfl) G.n_range (xa_cons (xe_int) (xa_nil))) N_130 (defScope s_130) (by decide +kernel) (fun _ _ _ _ _ => (xg_name 6 sc_130.nd)) (fun _ _ _ _ _ => xts_nil) (fun _ _ _ _ _ => (xe_bin .mul (xe_ix (xe_var 4) (xe_call A.f117 hr (by rfl) (xa_cons (xe_var 0) (xa_cons (xe_int) (xa_nil)))) (fun _ _ => rfl)) (xe_ix (xe_lst (xa_cons (xe_int) (xa_cons (xe_neg (xe_int)) (xa_nil)))) (xe_call A.f117 hr (by rfl) (xa_cons (xe_var 0) (xa_cons (xe_int) (xa_nil)))) (fun _ _ => rfl)))))
    (xs_one (xs_ret (xe_lc (own := [("_law_number", 7)]) rfl sc_130.nd (xi_seq (xe_var 5)) N_130 (defScope s_130) (by decide +kernel) (fun _ _ _ _ _ => (xg_name 7 sc_130.nd)) (fun _ _ _ _ _ => xts_nil) (fun _ _ _ _ _ => (xe_blt .max_ (b_max rfl) (by rfl) G.n_max (by decide +kernel) (xa_cons (xe_neg (xe_int)) (xa_cons (xe_blt .min_ (b_min rfl) (by rfl) G.n_min (by decide +kernel) (xa_cons (xe_int) (xa_cons (xe_var 7) (xa_nil)))) (xa_nil)))))))))))))
/-! 131: _law_draw_want -/
theorem d_131 (A : Al P w K mg base n) (G : Gs w K mg) (fa : Addr) (cdv : Value) (Ar : Around) (outer : List PySem.Env) (s : Shared) (H : Hp) (E : XK) (hr : RoomG n (Ar.deeper (PyProof.Rows.envOfC "_law_draw_want" (defScope s_131) s.heap.objs.size fa cdv))) :
    PSs (cxOf CX0 P w K mg base N_131 "_law_draw_want" (defScope s_131) fa cdv Ar outer s H E).nox (defBody s_131) (trS K (run T n) b_draw_want) :=
  (xs_cons (xs_set 2 sc_131.nd (xe_ix (xe_lst (xa_cons (xe_str) (xa_cons (xe_str) (xa_cons (xe_str) (xa_cons (xe_str) (xa_nil)))))) (xe_call A.f117 hr (by rfl) (xa_cons (xe_var 0) (xa_cons (xe_int) (xa_nil)))) (fun _ _ => rfl)))
    (xs_cons (xs_if (xt_cmp .eq (xe_var 2) (xe_str) (by first | rfl | with_unfolding_all rfl))
    (xs_one (xs_ret (xe_tup (xa_cons (xe_var 2) (xa_nil))))) xs_nil)
    (xs_cons (xs_set 3 sc_131.nd (xe_tup (xa_cons (xe_var 2) (xa_cons (xe_ix (xe_var 1) (xe_call A.f117 hr (by rfl) (xa_cons (xe_var 0) (xa_cons (xe_blt .len b_len (by rfl) G.n_len (by decide +kernel) (xa_cons (xe_var 1) (xa_nil))) (xa_nil)))) (fun _ _ => rfl)) (xa_cons (xe_ix (xe_var 1) (xe_call A.f117 hr (by rfl) (xa_cons (xe_var 0) (xa_cons (xe_blt .len b_len (by rfl) G.n_len (by decide +kernel) (xa_cons (xe_var 1) (xa_nil))) (xa_nil)))) (fun _ _ => rfl)) (xa_nil))))))
    (xs_cons (xs_if (xt_cmp .ne (xe_var 2) (xe_str) (by first | rfl | with_unfolding_all rfl))
    (xs_one (xs_ret (xe_var 3))) xs_nil)
    (xs_cons (xs_set 4 sc_131.nd (xe_lst (xa_cons (xe_int) (xa_cons (xe_int) (xa_cons (xe_int) (xa_cons (xe_int) (xa_cons (xe_call A.f117 hr (by rfl) (xa_cons (xe_var 0) (xa_cons (xe_int) (xa_nil)))) (xa_cons (xe_call A.f117 hr (by rfl) (xa_cons (xe_var 0) (xa_cons (xe_int) (xa_nil)))) (xa_cons (xe_int) (xa_nil))))))))))
    (xs_one (xs_ret (xe_bin .add (xe_var 3) (xe_tup (xa_cons (xe_ix (xe_var 4) (xe_call A.f117 hr (by rfl) (xa_cons (xe_var 0) (xa_cons (xe_int) (xa_nil)))) (fun _ _ => rfl)) (xa_nil)))))))))))
/-! 132: _law_text -/
theorem d_132 (A : Al P w K mg base n) (G : Gs w K mg) (fa : Addr) (cdv : Value) (Ar : Around) (outer : List PySem.Env) (s : Shared) (H : Hp) (E : XK) (hr : RoomG n (Ar.deeper (PyProof.Rows.envOfC "_law_text" (defScope s_132) s.heap.objs.size fa cdv))) :
    PSs (cxOf CX0 P w K mg base N_132 "_law_text" (defScope s_132) fa cdv Ar outer s H E).nox (defBody s_132) (trS K (run T n) b_text) :=
  (xs_cons (xs_if (xt_cmpd .eq hr (xe_var 0) (xe_tup (xa_nil)) (by first | rfl | with_unfolding_all rfl))
    (xs_one (xs_ret (xe_str))) xs_nil)
    (xs_cons (xs_set 1 sc_132.nd (xe_lst (xa_nil)))
    (xs_cons (xs_for PassesOwn.never rfl (xi_seq (xe_var 0)) (xg_name 2 sc_132.nd)
    (xs_one (xs_drop (xe_append (xe_var 1) (xa_cons (xe_joinS (xe_lc (own := [("_law_part", 3)]) rfl sc_132.nd (xi_seq (xe_var 2)) N_132 (defScope s_132) (by decide +kernel) (fun _ _ _ _ _ => (xg_name 3 sc_132.nd)) (fun _ _ _ _ _ => xts_nil) (fun _ _ _ _ _ => (xe_bty .str_ b_str (by rfl) G.n_str (by decide +kernel) (xa_cons (xe_var 3) (xa_nil)))))) (xa_nil))))))
    (xs_one (xs_ret (xe_joinS (xe_var 1)))))))
/-! 133: _law_long_tale -/
theorem d_133 (A : Al P w K mg base n) (G : Gs w K mg) (fa : Addr) (cdv : Value) (Ar : Around) (outer : List PySem.Env) (s : Shared) (H : Hp) (E : XK) (hr : RoomG n (Ar.deeper (PyProof.Rows.envOfC "_law_long_tale" (defScope s_133) s.heap.objs.size fa cdv))) :
    PSs (cxOf CX0 P w K mg base N_133 "_law_long_tale" (defScope s_133) fa cdv Ar outer s H E).nox (defBody s_133) (trS K (run T n) b_long_tale) :=
  (xs_cons (xs_set 3 sc_133.nd (xe_ix (xe_lst (xa_cons (xe_call A.f117 hr (by rfl) (xa_cons (xe_var 0) (xa_cons (xe_int) (xa_nil)))) (xa_cons (xe_int) (xa_cons (xe_call A.f117 hr (by rfl) (xa_cons (xe_var 0) (xa_cons (xe_int) (xa_nil)))) (xa_cons (xe_int) (xa_nil)))))) (xe_call A.f117 hr (by rfl) (xa_cons (xe_var 0) (xa_cons (xe_int) (xa_nil)))) (fun _ _ => rfl)))
    (xs_cons (xs_set 4 sc_133.nd (xe_bin .add (xe_call A.f130 hr (by rfl) (xa_cons (xe_var 0) (xa_cons (xe_var 1) (xa_nil)))) (xe_lst (xa_cons (xe_int) (xa_cons (xe_neg (xe_int)) (xa_nil))))))
    (xs_one (xs_ret (xe_call A.f125 hr (by rfl) (xa_cons (xe_var 0) (xa_cons (xe_blt .len b_len (by rfl) G.n_len (by decide +kernel) (xa_cons (xe_var 1) (xa_nil))) (xa_cons (xe_var 3) (xa_cons (xe_var 2) (xa_cons (xe_bl) (xa_cons (xe_var 4) (xa_cons (xe_tup (xa_nil)) (xa_nil)))))))))))))
/-! 144: _law_right -/
theorem d_144 (A : Al P w K mg base n) (G : Gs w K mg) (fa : Addr) (cdv : Value) (Ar : Around) (outer : List PySem.Env) (s : Shared) (H : Hp) (E : XK) (hr : RoomG n (Ar.deeper (PyProof.Rows.envOfC "_law_right" (defScope s_144) s.heap.objs.size fa cdv))) :
    PSs (cxOf CX0 P w K mg base N_144 "_law_right" (defScope s_144) fa cdv Ar outer s H E).nox (defBody s_144) (trS K (run T n) b_right_2) :=
  (xs_cons (xs_set 1 sc_144.nd (xe_call A.f129 hr (by rfl) (xa_cons (xe_var 0) (xa_cons (xe_bin .add (xe_int) (xe_call A.f117 hr (by rfl) (xa_cons (xe_var 0) (xa_cons (xe_int) (xa_nil))))) (xa_cons (xe_int) (xa_nil))))))
    (xs_cons (xs_set 2 sc_144.nd (xe_call A.f133 hr (by rfl) (xa_cons (xe_var 0) (xa_cons (xe_var 1) (xa_cons (xe_int) (xa_nil))))))
    (xs_cons (xs_for PassesOwn.never rfl (xi_range1 (by rfl) G.n_range (xa_cons (xe_bin .add (xe_blt .len b_len (by rfl) G.n_len (by decide +kernel) (xa_cons (xe_var 2) (xa_nil))) (xe_int)) (xa_nil))) (xg_name 3 sc_144.nd)
    (xs_cons (xs_set 4 sc_144.nd (xe_sl (xe_var 2) xo_none (xo_some (xe_var 3))))
    (xs_cons (xs_if (xt_cmp .ne (xe_rpr hr (by rfl) G.n_repr (by decide +kernel) (xe_call A.f142 hr (by rfl) (xa_cons (xe_var 1) (xa_cons (xe_call A.f114 hr (by rfl) (xa_cons (xe_var 1) (xa_cons (xe_var 4) (xa_nil)))) (xa_nil))))) (xe_rpr hr (by rfl) G.n_repr (by decide +kernel) (xe_var 4)) (by first | rfl | with_unfolding_all rfl))
    (xs_one (xs_ret (xe_bl))) xs_nil)
    (xs_one (xs_if (xt_cmp .ne (xe_rpr hr (by rfl) G.n_repr (by decide +kernel) (xe_callK0 A.f142 ["words", "zones"] [1, 0] (fun _ _ _ _ _ _ ws h => match ws, h with | [_, _], _ => rfl) rfl hr (by rfl) (xk_cons (xe_call A.f132 hr (by rfl) (xa_cons (xe_var 4) (xa_nil))) (xk_cons (xe_var 1) xk_nil)))) (xe_rpr hr (by rfl) G.n_repr (by decide +kernel) (xe_var 4)) (by first | rfl | with_unfolding_all rfl))
    (xs_one (xs_ret (xe_bl))) xs_nil)))))
    (xs_cons (xs_for PassesOwn.never rfl (xi_range1 (by rfl) G.n_range (xa_cons (xe_int) (xa_nil))) (xg_name 5 sc_144.nd)
    (xs_cons (xs_set 6 sc_144.nd (xe_call A.f131 hr (by rfl) (xa_cons (xe_var 0) (xa_cons (xe_call A.f126 hr (by rfl) (xa_cons (xe_var 2) (xa_nil))) (xa_nil)))))
    (xs_cons (xs_if (xt_cmp .ne (xe_rpr hr (by rfl) G.n_repr (by decide +kernel) (xe_call A.f143 hr (by rfl) (xa_cons (xe_var 1) (xa_cons (xe_var 2) (xa_cons (xe_call A.f115 hr (by rfl) (xa_cons (xe_var 1) (xa_cons (xe_var 2) (xa_cons (xe_var 6) (xa_nil))))) (xa_nil)))))) (xe_rpr hr (by rfl) G.n_repr (by decide +kernel) (xe_var 6)) (by first | rfl | with_unfolding_all rfl))
    (xs_one (xs_ret (xe_bl))) xs_nil)
    (xs_cons (xs_set 7 sc_144.nd (xe_joinS (xe_lc (own := [("_law_part", 8)]) rfl sc_144.nd (xi_seq (xe_var 6)) N_144 (defScope s_144) (by decide +kernel) (fun _ _ _ _ _ => (xg_name 8 sc_144.nd)) (fun _ _ _ _ _ => xts_nil) (fun _ _ _ _ _ => (xe_bty .str_ b_str (by rfl) G.n_str (by decide +kernel) (xa_cons (xe_var 8) (xa_nil)))))))
    (xs_one (xs_if (xt_cmp .ne (xe_rpr hr (by rfl) G.n_repr (by decide +kernel) (xe_callK0 A.f143 ["words", "program", "zones"] [2, 1, 0] (fun _ _ _ _ _ _ ws h => match ws, h with | [_, _, _], _ => rfl) rfl hr (by rfl) (xk_cons (xe_var 7) (xk_cons (xe_var 2) (xk_cons (xe_var 1) xk_nil))))) (xe_rpr hr (by rfl) G.n_repr (by decide +kernel) (xe_var 6)) (by first | rfl | with_unfolding_all rfl))
    (xs_one (xs_ret (xe_bl))) xs_nil))))))
    (xs_one (xs_ret (xe_bl)))))))
/-! 145: law -/
theorem d_145 (A : Al P w K mg base n) (G : Gs w K mg) (fa : Addr) (cdv : Value) (Ar : Around) (outer : List PySem.Env) (s : Shared) (H : Hp) (E : XK) (hr : RoomG n (Ar.deeper (PyProof.Rows.envOfC "law" (defScope s_145) s.heap.objs.size fa cdv))) :
    PSs (cxOf CX0 P w K mg base N_145 "law" (defScope s_145) fa cdv Ar outer s H E).nox (defBody s_145) (trS K (run T n) b_law_k63) :=
  (xs_cons (xs_for PassesOwn.never rfl (xi_seq (xe_call A.f118 hr (by rfl) (xa_cons (xe_var 0) (xa_cons (xe_int) (xa_nil))))) (xg_name 1 sc_145.nd)
    (xs_one (xs_if (xt_not (xt_truth (xe_call A.f144 hr (by rfl) (xa_cons (xe_call A.f116 hr (by rfl) (xa_cons (xe_var 1) (xa_nil))) (xa_nil))) (fun _ => rfl)))
    (xs_one (xs_ret (xe_bl))) xs_nil)))
    (xs_one (xs_ret (xe_bl))))
end

end Lw
namespace Lw
open PySem L2 Ix
/-! ### zones -/
def zoneD (os : List Int) (sp : Int) : D := .tup [.tup (os.map .int), .int sp]
structure Zone (os : List Int) (sp : Int) : Prop where
  len1 : 1 ≤ os.length
  len3 : os.length ≤ 3
  asc : os.Pairwise (· < ·)
  lo : ∀ x ∈ os, -900 ≤ x
  hi : ∀ x ∈ os, x ≤ 900
  gap : ∀ x ∈ os, ∀ y ∈ os, y - x < sp
  top : sp ≤ 1000000
theorem ends {os : List Int} (h1 : 1 ≤ os.length) (h3 : os.length ≤ 3) (ha : os.Pairwise (· < ·)) :
    ∃ a b, a ∈ os ∧ b ∈ os ∧ atI (os.map D.int) 0 = some (.int a) ∧ atI (os.map D.int) (-1) = some (.int b) ∧ ∀ x ∈ os, a ≤ x ∧ x ≤ b := by
  match os, h1, h3, ha with
  | [x], _, _, _ => exact ⟨x, x, by simp, by simp, rfl, rfl, by simp⟩
  | [x, y], _, _, ha =>
    simp at ha
    exact ⟨x, y, by simp, by simp, rfl, rfl, by simp; omega⟩
  | [x, y, z], _, _, ha =>
    simp at ha
    exact ⟨x, z, by simp, by simp, rfl, rfl, by simp; omega⟩
end Lw

namespace Lw
open PySem L2 Ix
/-! ### tables -/
def Adj {β : Type} (R : β → β → Prop) (l : List β) : Prop := ∀ (i : Nat) (x y : β), l[i]? = some x → l[i + 1]? = some y → R x y
theorem Adj.nil {β : Type} {R : β → β → Prop} : Adj R ([] : List β) := fun i x y h => by simp at h
theorem Adj.one {β : Type} {R : β → β → Prop} {a : β} : Adj R [a] := fun i x y _ h => by simp at h
structure Chart (os : List Int) (sp off : Int) (js : List (Int × Int)) : Prop where
  first : off ∈ os
  mem : ∀ j ∈ js, j.2 ∈ os
  far : Adj (fun x y => x + sp ≤ y) (js.map (·.1))
  alt : Adj (fun x y => x ≠ y) (off :: js.map (·.2))
end Lw

namespace Lw
open PySem L2 Ix
/-! ### the program's tests of what is a zone, a table -/
theorem is_number_ok {n : Nat} {S : Hd} {i : Int} : Pu (run T (n + 1) 0 [.int i] S) (.bl true) S := by
  refine Pu.run T_is_number rfl ?_
  show M (ex (run T n) b_is_number [some (.int i)] S) _
  unfold b_is_number
  simp? only []
  exact ⟨trivial, Lq.refl _⟩
theorem is_pair_ok {n : Nat} {S : Hd} {a b : D} : Pu (run T (n + 1) 1 [.tup [a, b]] S) (.bl true) S := by
  refine Pu.run T_is_pair rfl ?_
  show M (ex (run T n) b_is_pair [some (.tup [a, b])] S) _
  unfold b_is_pair
  simp? only [q_len q_seqT]
  exact ⟨rfl, Lq.refl _⟩
theorem is_near_ok {n : Nat} {S : Hd} {i : Int} (h1 : -900 ≤ i) (h2 : i ≤ 900) : Pu (run T (n + 2) 4 [.int i] S) (.bl true) S := by
  refine Pu.run T_is_near rfl ?_
  show M (ex (run T (n + 1)) b_is_near [some (.int i)] S) _
  unfold b_is_near
  simp? only []
  refine is_number_ok.use fun S1 l1 => ?_
  simp? only [h1, h2, decide_true]
  exact ⟨trivial, l1⟩
theorem is_ascending_ok {n : Nat} {S : Hd} {os : List Int} (ha : os.Pairwise (· < ·)) (hz : os.length ≤ 1000) : Pu (run T (n + 1) 3 [.tup (os.map .int)] S) (.bl true) S := by
  refine Pu.run T_is_ascending rfl ?_
  show M (ex (run T n) b_is_ascending [some (.tup (os.map .int)), none, none] S) _
  unfold b_is_ascending
  simp only [ex, M_map]
  refine M_allT (S1 := S) (ds := [.tup (os.map .int), .tup ((os.map D.int).drop 1)]) (its := List.zipWith (fun a b => D.tup [a, b]) (os.map .int) ((os.map .int).drop 1)) (by decide)
    (by simp? only [cut_1]) (Lq.refl _) rfl (by have h : (1000 : Nat) < most := (by decide); simp; omega) (fun i d S2 hi l => ?_) (fun _ _ => rfl) fun S2 l => ?_
  · obtain ⟨x, y, e1, e2, rfl⟩ := zip_get hi
    refine ⟨_, rfl, ?_⟩
    simp? only [wipeD]
    refine ⟨?_, Lq.refl _⟩
    rw [List.pairwise_iff_getElem] at ha
    obtain ⟨q1, e1⟩ := List.getElem?_eq_some_iff.mp e1
    obtain ⟨q2, e2⟩ := List.getElem?_eq_some_iff.mp e2
    have := ha i (i + 1) q1 q2 (by omega)
    rw [e1, e2] at this
    simp [this]
  · simp? only []
    exact ⟨trivial, l⟩
theorem are_offsets_ok {n : Nat} {S : Hd} {os : List Int} {sp : Int} (hz : Zone os sp) : Pu (run T (n + 3) 5 [.tup (os.map .int)] S) (.bl true) S := by
  have o1 := hz.len1
  have o3 := hz.len3
  refine Pu.run T_are_offsets rfl ?_
  show M (ex (run T (n + 2)) b_are_offsets [some (.tup (os.map .int)), none] S) _
  unfold b_are_offsets
  refine seq_M (fun env S1 => env = [some (.tup (os.map .int)), none] ∧ S = S1) ?_ ?_
  · simp? only [q_len q_seqT, List.length_map, show decide ((1 : Int) ≤ (os.length : Int)) = true by simp; omega, show decide ((os.length : Int) ≤ 3) = true by simp; omega]
    exact ⟨trivial, trivial, trivial⟩
  rintro _ _ ⟨rfl, rfl⟩
  simp only [ex, M_map]
  refine M_and (M_allT (S1 := S) (ds := [.tup (os.map .int)]) (its := os.map .int) (by decide) (by simp? only []) (Lq.refl _) rfl (by have h : (1000 : Nat) < most := (by decide); simp; omega) (fun i d S2 hi l => ?_) (fun _ _ => rfl) fun S2 l => ⟨rfl, ?_⟩)
  · rw [List.getElem?_map] at hi
    cases hx : os[i]? with
    | none => rw [hx] at hi; cases hi
    | some x =>
      rw [hx] at hi
      simp only [Option.map_some, Option.some.injEq] at hi
      subst hi
      refine ⟨_, rfl, ?_⟩
      simp? only [wipeD]
      exact is_near_ok (hz.lo x (List.mem_of_getElem? hx)) (hz.hi x (List.mem_of_getElem? hx))
  · simp? only []
    refine (is_ascending_ok hz.asc (by omega)).use fun S3 l3 => ?_
    simp? only []
    exact ⟨trivial, l.trans l3⟩
theorem is_zone_ok {n : Nat} {S : Hd} {os : List Int} {sp : Int} (hz : Zone os sp) : Pu (run T (n + 4) 6 [zoneD os sp] S) (.bl true) S := by
  have o1 := hz.len1
  have o3 := hz.len3
  refine Pu.run T_is_zone rfl ?_
  show M (ex (run T (n + 3)) b_is_zone [some (zoneD os sp), none, none] S) _
  unfold b_is_zone zoneD
  refine seq_M (fun env S1 => env = [some (.tup [.tup (os.map .int), .int sp]), none, none] ∧ Lq S S1) ?_ ?_
  · refine ite_M ?_
    simp? only []
    refine is_pair_ok.use fun S1 l1 => ?_
    simp? only []
    exact ⟨trivial, trivial, l1⟩
  rintro _ S1 ⟨rfl, l1⟩
  refine seq_M (fun env S2 => env = [some (.tup [.tup (os.map .int), .int sp]), some (.tup (os.map .int)), some (.int sp)] ∧ S1 = S2) ?_ ?_
  · simp? only []
    exact ⟨trivial, trivial, trivial⟩
  rintro _ _ ⟨rfl, rfl⟩
  refine seq_M (fun env S2 => env = [some (.tup [.tup (os.map .int), .int sp]), some (.tup (os.map .int)), some (.int sp)] ∧ Lq S S2) ?_ ?_
  · refine ite_M ?_
    simp? only []
    refine (are_offsets_ok hz).use fun S2 l2 => ?_
    simp? only []
    refine is_number_ok.use fun S3 l3 => ?_
    simp? only []
    exact ⟨trivial, trivial, l1.trans (l2.trans l3)⟩
  rintro _ S2 ⟨rfl, l2⟩
  obtain ⟨a, b, ha, hb, e0, e1, hab⟩ := ends o1 o3 hz.asc
  have g := hz.gap a ha b hb
  have t := hz.top
  simp? only [e0, e1, show decide (b - a < sp) = true by simpa using g, show decide (sp ≤ 1000000) = true by simpa using t]
  exact ⟨trivial, l2⟩
end Lw

namespace Lw
open PySem L2 Ix
theorem most_big : (1000 : Nat) < most := by decide
theorem Chart.ns {os : List Int} {sp off : Int} {js : List (Int × Int)} : True := trivial
end Lw

namespace Lw
open PySem L2 Ix
/-! ### hours_of, and whether two values are the same -/
/-- two values are the same to a depth -/
def Sa : Nat → Hd → D → D → Prop
  | 0, _, _, _ => False
  | n + 1, S, .tup xs, .tup ys => xs.length = ys.length ∧ xs.length ≤ 1000 ∧ ∀ (i : Nat) (x y : D), xs[i]? = some x → ys[i]? = some y → Sa n S x y
  | n + 1, S, .ref a, .ref b => ∃ xs ys, S[a]? = some (.lst xs) ∧ S[b]? = some (.lst ys) ∧ xs.length = ys.length ∧ xs.length ≤ 1000 ∧ ∀ (i : Nat) (x y : D), xs[i]? = some x → ys[i]? = some y → Sa n S x y
  | _ + 1, _, .int i, .int j => i = j
  | _ + 1, _, .bl i, .bl j => i = j
  | _ + 1, _, .str i, .str j => i = j
  | _ + 1, _, .non, .non => True
  | _ + 1, _, _, _ => False
theorem Sa.mono {S S' : Hd} (l : Lq S S') : ∀ {n : Nat} {x y : D}, Sa n S x y → Sa n S' x y
  | 0, _, _, h => h.elim
  | n + 1, x, y, h => by
    cases x <;> cases y <;> simp only [Sa] at h ⊢ <;> try exact h
    · obtain ⟨xs, ys, a, b, c, d, e⟩ := h
      exact ⟨xs, ys, l _ _ a, l _ _ b, c, d, fun i x y a b => Sa.mono l (e i x y a b)⟩
    · exact ⟨h.1, h.2.1, fun i x y a b => Sa.mono l (h.2.2 i x y a b)⟩
theorem isi_ss {i : Str} {S : Hd} : bltD .isi [.str i, .ty "str"] S = some (.bl true, S) := by
  rw [q_isi (c := "str") (n := "str") (by decide) rfl]
  rfl
end Lw

namespace Lw
open PySem L2 Ix
/-! ### several pots -/
def PotS (P : Nat → Prop) (S : Hd) : Prop := ∀ k, P k → Pot k S
def LeP (P : Nat → Prop) (S S' : Hd) : Prop := ∀ (k : Nat) (o : O), ¬ P k → S[k]? = some o → S'[k]? = some o
section
variable {P : Nat → Prop} {S S1 S2 : Hd}
theorem LeP.refl : LeP P S S := fun _ _ _ h => h
theorem LeP.trans (a : LeP P S S1) (b : LeP P S1 S2) : LeP P S S2 := fun k o n h => b k o n (a k o n h)
theorem Lq.leP (a : Lq S S1) : LeP P S S1 := fun k o _ h => a k o h
theorem Le.leP {p : Nat} (hp : P p) (a : Le p S S1) : LeP P S S1 := fun k o n h => a k o (fun e => n (e ▸ hp)) h
theorem LeP.app (T : Hd) : LeP P S (S ++ T) := Lq.leP (Lq.app S T)
theorem LeP.at (a : LeP P S S1) {k : Nat} {o : O} (n : ¬ P k) (h : S[k]? = some o) : S1[k]? = some o := a k o n h
theorem PotS.app (h : PotS P S) (T : Hd) : PotS P (S ++ T) := fun k hk => (h k hk).app T
theorem PotS.lq (h : PotS P S) (l : Lq S S1) : PotS P S1 := fun k hk => (h k hk).lq l
theorem PotS.le {p : Nat} (h : PotS P S) (hp : Pot p S1) (l : Le p S S1) : PotS P S1 := fun k hk => by
  by_cases e : k = p
  · rw [e]; exact hp
  · obtain ⟨q, g⟩ := h k hk
    exact ⟨q, l k _ e g⟩
theorem PotS.set (h : PotS P S) {k : Nat} (hk : ¬ P k) (o : O) : PotS P (S.set k o) := fun j hj => by
  obtain ⟨q, g⟩ := h j hj
  exact ⟨q, by rw [List.getElem?_set_ne (fun e => hk (by rw [e]; exact hj))]; exact g⟩
theorem LeP.len (h : PotS P S) (hs : PotS P S1) (a : LeP P S S1) : S.length ≤ S1.length := by
  rcases Nat.lt_or_ge S1.length S.length with l | l
  · by_cases hp : P S1.length
    · have := (hs _ hp).lt
      omega
    · have e := a S1.length _ hp (List.getElem?_eq_getElem l)
      have := lt_of_get e
      omega
  · exact l
end
/-! ### looks -/
end Lw

namespace Lw
open PySem L2 Ix
/-! ### how crowded looks are -/
def atL (ls : List (Int × Int)) (k : Nat) : Int × Int := ls.getD k (0, 0)
def chg (ls : List (Int × Int)) : Nat → Int
  | 0 => 0
  | k + 1 => chg ls k + (if (atL ls (k + 1)).2 = (atL ls k).2 then 0 else 1)
def loadK (sp : Int) (ls : List (Int × Int)) (k : Nat) : Int := chg ls k * sp - (atL ls k).1
/-- the stretch from the look a to the look b is crowded -/
def Cw (sp : Int) (ls : List (Int × Int)) (a b : Nat) : Prop := sp ≤ loadK sp ls b - loadK sp ls a
end Lw

namespace Lw
open PySem L2 Ix
/-! ### the greatest spacing that lets the looks be -/
def Lim (ls : List (Int × Int)) (P : Nat → Nat → Prop) (L : Int) : Prop := ∀ s : Int, 0 < s → s ≤ 1000000 → (s ≤ L ↔ ∀ a b, P a b → a < b → b < ls.length → ¬ Cw s ls a b)
theorem Lim.congr {ls : List (Int × Int)} {P R : Nat → Nat → Prop} {L : Int} (h : Lim ls P L) (e : ∀ a b, a < b → b < ls.length → (P a b ↔ R a b)) : Lim ls R L := fun s h0 h1 => (h s h0 h1).trans ⟨fun q a b r h1 h2 => q a b ((e a b h1 h2).mpr r) h1 h2, fun q a b r h1 h2 => q a b ((e a b h1 h2).mp r) h1 h2⟩
/-! ### a zone with further offsets -/
end Lw

namespace Ix
open PySem L2
theorem tst_M {Γ : Fs} {e : E} {env : Sl} {S : Hd} {Q : Bool × Hd → Prop} (h : M (ev Γ e env S) fun x => ∃ b, x.1 = .bl b ∧ Q (b, x.2)) : M (tst (ev Γ e env S)) Q := by
  obtain ⟨⟨d, S1⟩, e1, b, e2, q⟩ := h
  have e2 : d = .bl b := e2
  subst e2
  exact ⟨(b, S1), by rw [e1]; rfl, q⟩
theorem M_or {Γ : Fs} {a b : E} {env : Sl} {S : Hd} {Q : D × Hd → Prop} (h : M (ev Γ a env S) fun x => (x.1 = .bl false ∧ M (ev Γ b env x.2) Q) ∨ (x.1 = .bl true ∧ Q (.bl true, x.2))) : M (ev Γ (.or_ a b) env S) Q := by
  simp only [ev, M_bind]
  refine h.imp fun x q => ?_
  rcases q with ⟨e, m⟩ | ⟨e, m⟩
  · rw [e]
    exact m
  · obtain ⟨d, S1⟩ := x
    have e : d = .bl true := e
    subst e
    simp only [M_some]
    exact m
theorem M_andb {Γ : Fs} {a b : E} {env : Sl} {S : Hd} {Q : D × Hd → Prop} (h : M (ev Γ a env S) fun x => (x.1 = .bl true ∧ M (ev Γ b env x.2) Q) ∨ (x.1 = .bl false ∧ Q (.bl false, x.2))) : M (ev Γ (.and_ a b) env S) Q := by
  simp only [ev, M_bind]
  refine h.imp fun x q => ?_
  rcases q with ⟨e, m⟩ | ⟨e, m⟩
  · rw [e]
    exact m
  · obtain ⟨d, S1⟩ := x
    have e : d = .bl false := e
    subst e
    simp only [M_some]
    exact m
theorem M_not {Γ : Fs} {a : E} {env : Sl} {S : Hd} {Q : D × Hd → Prop} (h : M (ev Γ a env S) fun x => ∃ b, x.1 = .bl b ∧ Q (.bl (!b), x.2)) : M (ev Γ (.not_ a) env S) Q := by
  simp only [ev, M_map]
  exact tst_M h
theorem M_call1 {Γ : Fs} {f : Nat} {a : E} {env : Sl} {S : Hd} {Q : D × Hd → Prop} (h : M (ev Γ a env S) fun x => M (Γ f [x.1] x.2) Q) : M (ev Γ (.call f (.cons a .nil)) env S) Q := by
  simp only [ev, M_bind, M_map, M_some, argsOf, Option.map_some, Option.bind_some]
  exact h
theorem M_call2 {Γ : Fs} {f : Nat} {a b : E} {env : Sl} {S : Hd} {Q : D × Hd → Prop} (h : M (ev Γ a env S) fun x => M (ev Γ b env x.2) fun y => M (Γ f [x.1, y.1] y.2) Q) : M (ev Γ (.call f (.cons a (.cons b .nil))) env S) Q := by
  simp only [ev, M_bind, M_map, M_some, argsOf, Option.map_some, Option.bind_some]
  exact h
theorem M_cmp {Γ : Fs} {o : Co} {a b : E} {env : Sl} {S : Hd} {Q : D × Hd → Prop} (h : M (ev Γ a env S) fun x => M (ev Γ b env x.2) fun y => M (cmpD o x.1 y.1 y.2) Q) : M (ev Γ (.cmp o a b) env S) Q := by
  simp only [ev, M_bind]
  exact h
theorem M_cmpd {Γ : Fs} {o : Cd} {a b : E} {env : Sl} {S : Hd} {Q : D × Hd → Prop} (h : M (ev Γ a env S) fun x => M (ev Γ b env x.2) fun y => M (cmpdD o x.1 y.1 y.2) Q) : M (ev Γ (.cmpd o a b) env S) Q := by
  simp only [ev, M_bind]
  exact h
theorem M_bin {Γ : Fs} {o : Bo} {a b : E} {env : Sl} {S : Hd} {Q : D × Hd → Prop} (h : M (ev Γ a env S) fun x => M (ev Γ b env x.2) fun y => M (binD o x.1 y.1 y.2) Q) : M (ev Γ (.bin o a b) env S) Q := by
  simp only [ev, M_bind]
  exact h
theorem M_is {β : Type} {r : Option β} {v : β} {Q : β → Prop} (h : r = some v) (q : Q v) : M r Q := ⟨v, h, q⟩
theorem M_args1 {Γ : Fs} {e : E} {env : Sl} {S : Hd} {Q : D × Hd → Prop} (h : M (ev Γ e env S) fun x => Q (.tup [x.1], x.2)) : M (ev Γ (.cons e .nil) env S) Q := by
  simp only [ev, M_bind, M_map, M_some, argsOf, Option.map_some, Option.bind_some]
  exact h
theorem ret_M {Γ : Fs} {e : E} {env : Sl} {S : Hd} {Q : Out × Sl × Hd → Prop} (h : M (ev Γ e env S) fun x => Q (.ret x.1, env, x.2)) : M (ex Γ (.ret e) env S) Q := by
  simp only [ex, M_map]
  exact h
theorem asg_M {Γ : Fs} {i : Nat} {e : E} {env : Sl} {S : Hd} {Q : Out × Sl × Hd → Prop} (h : M (ev Γ e env S) fun x => Q (.nx, env.set i (some x.1), x.2)) : M (ex Γ (.asg (.name i) e) env S) Q := by
  simp only [ex, M_bind, asgG, Option.map_some, M_some]
  exact h
theorem var_M {Γ : Fs} {i : Nat} {env : Sl} {S : Hd} {d : D} {Q : D × Hd → Prop} (h : env[i]? = some (some d)) (q : Q (d, S)) : M (ev Γ (.var i) env S) Q := by
  simp only [ev, h, M_some]
  exact q
/-! lists of numbers as the library compares them -/
theorem lay_ints : ∀ ns : List Int, PyData.canLayAll0 (ns.map PyData.int) = true
  | [] => by simp [PyData.canLayAll0]
  | i :: ns => by
    have := lay_ints ns
    simp only [List.map_cons, PyData.canLayAll0, PyData.canLay0, this, Bool.and_self]
theorem dep_ints : ∀ ns : List Int, PyData.depthAll (ns.map PyData.int) = 0
  | [] => by simp [PyData.depthAll]
  | i :: ns => by
    have := dep_ints ns
    simp only [List.map_cons, PyData.depthAll, PyData.depth, this, Nat.max_self]
theorem shaped_ints (ns : List Int) : SeqAt.shaped (.list (ns.map PyData.int)) = true := by
  show (PyData.canLay0 (.list (ns.map PyData.int)) && decide (PyData.depth (.list (ns.map PyData.int)) ≤ 64)) = true
  rw [Bool.and_eq_true]
  refine ⟨by simp only [PyData.canLay0]; exact lay_ints ns, decide_eq_true ?_⟩
  simp only [PyData.depth, dep_ints]
  omega
end Ix
namespace Lw
open PySem L2 Ix
end Lw

namespace Lw
open PySem L2 Ix
/-! ### finding -/
def foldS : Nat → D
  | 0 => .str "early"
  | 1 => .str "late"
  | _ => .str "refuse"
def gapS : Nat → D
  | 0 => .str "ahead"
  | 1 => .str "behind"
  | _ => .str "refuse"
theorem is_rule_ok {n : Nat} {S : Hd} {a b c : Str} (i : Nat) : Pu (run T (n + 1) 65 [match i with | 0 => .str a | 1 => .str b | _ => .str c, .tup [.str a, .str b, .str c]] S) (.bl true) S := by
  refine Pu.run T_is_rule rfl ?_
  show M (ex (run T n) b_is_rule [some (match i with | 0 => .str a | 1 => .str b | _ => .str c), some (.tup [.str a, .str b, .str c])] S) _
  unfold b_is_rule
  match i with
  | 0 =>
    simp? only [isi_ss, q_in (x := .str a) rfl (q_seqT (xs := [.str a, .str b, .str c])) rfl]
    exact ⟨by simp [eqF], Lq.refl _⟩
  | 1 =>
    simp? only [isi_ss, q_in (x := .str b) rfl (q_seqT (xs := [.str a, .str b, .str c])) rfl]
    exact ⟨by simp [eqF], Lq.refl _⟩
  | i + 2 =>
    simp? only [isi_ss, q_in (x := .str c) rfl (q_seqT (xs := [.str a, .str b, .str c])) rfl]
    exact ⟨by simp [eqF], Lq.refl _⟩
end Lw

namespace Lw
open PySem L2 Ix
/-! ### turned about: the runs -/
theorem M_blt1 {Γ : Fs} {o : Bl} {a : E} {env : Sl} {S : Hd} {Q : D × Hd → Prop} (h : M (ev Γ a env S) fun x => M (bltD o [x.1] x.2) Q) : M (ev Γ (.blt o (.cons a .nil)) env S) Q := by
  simp only [ev, M_bind, M_some, M_map, argsOf, Option.bind_some]
  exact h
end Lw

namespace Lw
open PySem L2 Ix
/-! ### draws from a bag: [digits, seed, count] -/
def Bag (p n : Nat) (S : Hd) : Prop := ∃ a b c : Int, S[p]? = some (.lst [.int a, .int b, .int c]) ∧ 0 ≤ b ∧ b < 2305843009213693951 ∧ 0 ≤ c ∧ c ≤ (n : Int)
theorem Bag.lt {p n : Nat} {S : Hd} (h : Bag p n S) : p < S.length := by
  obtain ⟨a, b, c, e, _⟩ := h
  exact lt_of_get e
theorem Bag.ne {p n : Nat} {S : Hd} (h : Bag p n S) : S.length ≠ p := by
  have := h.lt
  omega
theorem Bag.lq {p n : Nat} {S S' : Hd} (h : Bag p n S) (l : Lq S S') : Bag p n S' := by
  obtain ⟨a, b, c, e, r⟩ := h
  exact ⟨a, b, c, l _ _ e, r⟩
theorem Bag.app {p n : Nat} {S : Hd} (h : Bag p n S) (T : Hd) : Bag p n (S ++ T) := h.lq (Lq.app S T)
theorem Bag.mono {p n m : Nat} {S : Hd} (h : Bag p n S) (l : n ≤ m) : Bag p m S := by
  obtain ⟨a, b, c, e, r1, r2, r3, r4⟩ := h
  exact ⟨a, b, c, e, r1, r2, r3, by omega⟩
end Lw

namespace Lw
open PySem L2 Ix
abbrev Zs := List (List Int × Int)
def beltsD (zs : Zs) : D := .tup (zs.map fun z => zoneD z.1 z.2)
structure Belts (zs : Zs) : Prop where
  l1 : 1 ≤ zs.length
  l2 : zs.length ≤ 2
  zone : ∀ z ∈ zs, Zone z.1 z.2
end Lw

namespace Lw
open PySem L2 Ix
theorem q_neS {a b : Str} {S : Hd} : cmpD .ne (.str a) (.str b) S = some (.bl (!decide (a = b)), S) := rfl
theorem in_strs {S : Hd} {r : Nat} {ks : List Str} {kd : Str} (g : S[r]? = some (.lst (ks.map .str))) : cmpD .in_ (.str kd) (.ref r) S = some (.bl (decide (kd ∈ ks)), S) := by
  rw [q_in (x := .str kd) rfl (q_seqL g) (by rw [List.all_map, List.all_eq_true]; intro _ _; rfl)]
  congr 3
  rw [List.any_map, Bool.eq_iff_iff, List.any_eq_true, decide_eq_true_iff]
  constructor
  · rintro ⟨x, hx, e⟩
    have : x = kd := by simpa [eqF] using e
    rw [← this]; exact hx
  · intro h
    exact ⟨kd, h, by simp [eqF]⟩
theorem and_ev {Γ : Fs} {a b : E} {env : Sl} {S : Hd} {x y : Bool} (h1 : ev Γ a env S = some (.bl x, S)) (h2 : ev Γ b env S = some (.bl y, S)) : ev Γ (.and_ a b) env S = some (.bl (x && y), S) := by
  obtain ⟨v, e, q⟩ := M_andb (Γ := Γ) (a := a) (b := b) (env := env) (S := S) (Q := fun r => r = (.bl (x && y), S)) (M_is h1 (by
    cases x with
    | false => exact .inr ⟨rfl, rfl⟩
    | true => exact .inl ⟨rfl, M_is h2 rfl⟩))
  rw [e, q]
theorem ite_B {Γ : Fs} {c : E} {s t : Sx} {env : Sl} {S : Hd} {B : Bool} {Q : Out × Sl × Hd → Prop} (h : ev Γ c env S = some (.bl B, S)) (h1 : B = true → M (ex Γ s env S) Q) (h2 : B = false → M (ex Γ t env S) Q) : M (ex Γ (.ite c s t) env S) Q := by
  refine ite_M (tst_M (M_is h ⟨B, rfl, ?_⟩))
  cases B with
  | false => exact h2 rfl
  | true => exact h1 rfl
inductive Dd where
  | add (v : Nat) (m : Int) | plus (v s : Nat) | less (v s : Nat) | read (v p : Nat) | offset (v p : Nat) | edition (v p : Nat) | find (v p i j : Nat)
def ddD : Dd → D
  | .add v m => .tup [.str "add", .int (v : Int), .int m]
  | .plus v s => .tup [.str "plus", .int (v : Int), .int (s : Int)]
  | .less v s => .tup [.str "less", .int (v : Int), .int (s : Int)]
  | .read v p => .tup [.str "read", .int (v : Int), .int (p : Int)]
  | .offset v p => .tup [.str "offset", .int (v : Int), .int (p : Int)]
  | .edition v p => .tup [.str "edition", .int (v : Int), .int (p : Int)]
  | .find v p i j => .tup [.str "find", .int (v : Int), .int (p : Int), foldS i, gapS j]
def okD (nz : Nat) (ks : List Str) : Dd → Prop
  | .add v m => (∃ k, ks[v]? = some k ∧ k ≠ "span") ∧ -100000 ≤ m ∧ m ≤ 100000
  | .plus v s => ks[v]? = some "moment" ∧ ks[s]? = some "span"
  | .less v s => ks[v]? = some "reading" ∧ ks[s]? = some "span"
  | .read v p => ks[v]? = some "moment" ∧ p < nz
  | .offset v p => ks[v]? = some "moment" ∧ p < nz
  | .edition v p => ks[v]? = some "moment" ∧ p < nz
  | .find v p _ _ => ks[v]? = some "reading" ∧ p < nz
def kdO (ks : List Str) : Dd → Str
  | .add v _ => ks.getD v ""
  | .plus _ _ => "reading"
  | .less _ _ => "moment"
  | .read _ _ => "reading"
  | .offset _ _ => "span"
  | .edition _ _ => "moment"
  | .find _ _ _ _ => "moment"
def isEd : Dd → Bool
  | .edition _ _ => true
  | _ => false
end Lw

namespace Lw
open PySem L2 Ix
def wd : Dd → Str
  | .add _ _ => "add"
  | .plus _ _ => "plus"
  | .less _ _ => "less"
  | .read _ _ => "read"
  | .offset _ _ => "offset"
  | .edition _ _ => "edition"
  | .find _ _ _ _ => "find"
theorem dd_0 {S : Hd} (d : Dd) : ixD (ddD d) (.int 0) S = some (.str (wd d), S) := by cases d <;> rfl
theorem wd_ed : ∀ d : Dd, decide (wd d = "edition") = isEd d
  | .add _ _ => decide_eq_false (show ¬ ("add" : Str) = "edition" by decide)
  | .plus _ _ => decide_eq_false (show ¬ ("plus" : Str) = "edition" by decide)
  | .less _ _ => decide_eq_false (show ¬ ("less" : Str) = "edition" by decide)
  | .read _ _ => decide_eq_false (show ¬ ("read" : Str) = "edition" by decide)
  | .offset _ _ => decide_eq_false (show ¬ ("offset" : Str) = "edition" by decide)
  | .edition _ _ => decide_eq_true rfl
  | .find _ _ _ _ => decide_eq_false (show ¬ ("find" : Str) = "edition" by decide)
def ddP : Dd → PyData
  | .add v m => .tuple [.str "add", .int (v : Int), .int m]
  | .plus v s => .tuple [.str "plus", .int (v : Int), .int (s : Int)]
  | .less v s => .tuple [.str "less", .int (v : Int), .int (s : Int)]
  | .read v p => .tuple [.str "read", .int (v : Int), .int (p : Int)]
  | .offset v p => .tuple [.str "offset", .int (v : Int), .int (p : Int)]
  | .edition v p => .tuple [.str "edition", .int (v : Int), .int (p : Int)]
  | .find v p i j => .tuple [.str "find", .int (v : Int), .int (p : Int), .str (match i with | 0 => "early" | 1 => "late" | _ => "refuse"), .str (match j with | 0 => "ahead" | 1 => "behind" | _ => "refuse")]
theorem py_dd {n : Nat} {S : Hd} (d : Dd) : py (n + 2) S (ddD d) = some (ddP d) := by
  have f : ∀ i, py (n + 1) S (foldS i) = some (.str (match i with | 0 => "early" | 1 => "late" | _ => "refuse")) := fun i => match i with
    | 0 => rfl
    | 1 => rfl
    | _ + 2 => rfl
  have g : ∀ i, py (n + 1) S (gapS i) = some (.str (match i with | 0 => "ahead" | 1 => "behind" | _ => "refuse")) := fun i => match i with
    | 0 => rfl
    | 1 => rfl
    | _ + 2 => rfl
  cases d with
  | find v p i j => simp only [ddD, py, pyL, f, g, Option.bind_some, Option.map_some, ddP]
  | _ => simp only [ddD, py, pyL, Option.bind_some, Option.map_some, ddP]
theorem pyL_dd {n : Nat} {S : Hd} : ∀ ds : List Dd, pyL (py (n + 2) S) (ds.map ddD) = some (ds.map ddP)
  | [] => rfl
  | d :: ds => by
    have := pyL_dd (n := n) (S := S) ds
    simp only [List.map_cons, pyL, py_dd, Option.bind_some, this, Option.map_some]
theorem dd_shape (d : Dd) : PyData.canLay0 (ddP d) = true ∧ PyData.depth (ddP d) ≤ 4 := by
  cases d with
  | find v p i j =>
    simp [ddP, PyData.canLay0, PyData.canLayAll0, PyData.depth, PyData.depthAll]
    exact ⟨by decide +kernel, by split <;> (decide +kernel), by split <;> (decide +kernel)⟩
  | _ =>
    simp [ddP, PyData.canLay0, PyData.canLayAll0, PyData.depth, PyData.depthAll]
    decide +kernel
theorem dds_shape : ∀ ds : List Dd, PyData.canLayAll0 (ds.map ddP) = true ∧ PyData.depthAll (ds.map ddP) ≤ 4
  | [] => by simp [PyData.canLayAll0, PyData.depthAll]
  | d :: ds => by
    have a := dd_shape d
    have b := dds_shape ds
    simp only [List.map_cons, PyData.canLayAll0, PyData.depthAll, a.1, b.1, Bool.and_self, true_and]
    omega
theorem eq_nil_dd {S : Hd} {q k : Nat} {ds : List Dd} (h1 : S[q]? = some (.lst (ds.map ddD))) (h2 : S[k]? = some (.lst [])) : cmpdD .eq (.ref q) (.ref k) S = some (.bl (decide (ds = [])), S) := by
  have p1 : py 9 S (.ref q) = some (.list (ds.map ddP)) := by simp only [py, h1, pyL_dd (n := 6), Option.map_some]
  have p2 : py 9 S (.ref k) = some (.list []) := by simp only [py, h2, pyL, Option.map_some]
  have s1 : SeqAt.shaped (.list (ds.map ddP)) = true := by
    show (PyData.canLay0 (.list (ds.map ddP)) && decide (PyData.depth (.list (ds.map ddP)) ≤ 64)) = true
    have := dds_shape ds
    rw [Bool.and_eq_true]
    refine ⟨by simp only [PyData.canLay0]; exact this.1, decide_eq_true ?_⟩
    simp only [PyData.depth]
    omega
  have s2 : SeqAt.shaped (.list []) = true := shaped_ints []
  have e : PyData.eqv (.list (ds.map ddP)) (.list []) = decide (ds = []) := by
    cases ds with
    | nil => simp [PyData.eqv, PyData.eqvAll]
    | cons d ds => simp [PyData.eqv, PyData.eqvAll]
  simp only [cmpdD, p1, p2, Option.bind_some, s1, s2, and_self, if_true, e]
end Lw

namespace Lw
open PySem L2 Ix
def rowOf (plan : List Dd) : List Str := plan.foldl (fun ks d => ks ++ [kdO ks d]) ["moment"]
theorem rowOf_snoc {plan : List Dd} {d : Dd} : rowOf (plan ++ [d]) = rowOf plan ++ [kdO (rowOf plan) d] := by simp [rowOf, List.foldl_append]
theorem row_len : ∀ (plan : List Dd) (ks : List Str), (plan.foldl (fun ks d => ks ++ [kdO ks d]) ks).length = ks.length + plan.length
  | [], ks => rfl
  | d :: plan, ks => by
    rw [List.foldl_cons, row_len plan]
    simp
    omega
theorem row_mem {x : Str} : ∀ (plan : List Dd) (ks : List Str), x ∈ ks → x ∈ plan.foldl (fun ks d => ks ++ [kdO ks d]) ks
  | [], ks, h => h
  | d :: plan, ks, h => row_mem plan _ (List.mem_append_left _ h)
theorem rowOf_len (plan : List Dd) : (rowOf plan).length = plan.length + 1 := by
  unfold rowOf
  rw [row_len, List.length_singleton]
  omega
theorem rowOf_mom (plan : List Dd) : ("moment" : Str) ∈ rowOf plan := row_mem plan _ (List.mem_singleton.mpr rfl)
structure Valid (nz : Nat) (plan : List Dd) : Prop where
  ok : ∀ (t : Nat) (d : Dd), plan[t]? = some d → okD nz (rowOf (plan.take t)) d
  short : plan.length ≤ 8
  one : (plan.filter isEd).length ≤ 1
theorem valid_snoc {nz : Nat} {plan : List Dd} {d : Dd} (h : ∀ (t : Nat) (d : Dd), plan[t]? = some d → okD nz (rowOf (plan.take t)) d) (hd : okD nz (rowOf plan) d) : ∀ (t : Nat) (x : Dd), (plan ++ [d])[t]? = some x → okD nz (rowOf ((plan ++ [d]).take t)) x := fun t x hx => by
  by_cases q : t < plan.length
  · rw [List.getElem?_append_left q] at hx
    rw [List.take_append_of_le_length (by omega)]
    exact h t x hx
  · have tl := (List.getElem?_eq_some_iff.mp hx).1
    rw [List.length_append, List.length_singleton] at tl
    have e : t = plan.length := by omega
    subst e
    rw [List.getElem?_append_right (Nat.le_refl _), Nat.sub_self] at hx
    cases hx
    rw [List.take_append_of_le_length (Nat.le_refl _), List.take_length]
    exact hd
def planD (plan : List Dd) : D := .tup (plan.map ddD)
end Lw

namespace Lw
open PySem L2 Ix
theorem isi_fst {S : Hd} {z : Str} : bltD .isi [.str z, .ty "str"] S = some (.bl true, S) := isi_ss
theorem dd_len (d : Dd) : ∃ m : Nat, ∀ S, bltD .len [ddD d] S = some (.int ((m + 1 : Nat) : Int), S) := by
  cases d with
  | find v p i j => exact ⟨4, fun _ => rfl⟩
  | _ => exact ⟨2, fun _ => rfl⟩
theorem dd_tup (d : Dd) (S : Hd) : bltD .isi [ddD d, .ty "tuple"] S = some (.bl true, S) := by cases d <;> exact isi_tt
theorem first_word_ok {n : Nat} {S : Hd} (d : Dd) : Pu (run T (n + 1) 84 [ddD d] S) (.str (wd d)) S := by
  refine Pu.run T_first_word rfl ?_
  show M (ex (run T n) b_first_word [some (ddD d)] S) _
  unfold b_first_word
  obtain ⟨m, hm⟩ := dd_len d
  refine seq_Mx (ite_B (B := true) (and_ev (x := true) (y := true) (by simp_all? only [dd_tup]) (and_ev (x := true) (y := true) (by simp_all? only [hm]; rw [decide_eq_true (show (0 : Int) < ((m + 1 : Nat) : Int) by omega)]) (by simp_all? only [dd_0, isi_fst]))) (fun _ => ?_) (fun h => by cases h))
  simp? only [dd_0]
  exact ⟨trivial, Lq.refl _⟩
theorem is_zones_ok {n : Nat} {S : Hd} {zs : Zs} (hz : Belts zs) : Pu (run T (n + 5) 85 [beltsD zs] S) (.bl true) S := by
  have hm := most_big
  have l1 := hz.l1
  have l2 := hz.l2
  refine Pu.run T_is_zones rfl ?_
  show M (ex (run T (n + 4)) b_is_zones [some (beltsD zs), none] S) _
  unfold b_is_zones
  have eb : ∀ S2, seqOf S2 (beltsD zs) = some (zs.map fun z => zoneD z.1 z.2) := fun S2 => rfl
  have et : ∀ S2, bltD .isi [beltsD zs, .ty "tuple"] S2 = some (.bl true, S2) := fun S2 => isi_tt
  refine seq_Mx (ite_B (B := false) (by simp_all? only [et, q_len (eb _), List.length_map, show ((1 : Int) ≤ (zs.length : Int)) = True from eq_true (by omega), show ((zs.length : Int) ≤ 2) = True from eq_true (by omega), decide_true]) (fun h => by cases h) fun _ => ?_)
  rw [show ∀ env, ex (run T (n + 4)) .skip env S = some (.nx, env, S) from fun _ => rfl]
  simp only [M_some]
  refine M.imp (P := fun x => ∃ S', x = (.ret (.bl true), [some (beltsD zs), none], S') ∧ Lq S S') (ret_M (M_allT (S1 := S) (ds := [beltsD zs]) (its := zs.map fun z => zoneD z.1 z.2) (by decide) (by simp_all? only []) (Lq.refl _) rfl (by rw [List.length_map]; omega) (fun i d S9 hi l9 => ?_) (fun _ _ => rfl) fun S9 l9 => ⟨S9, rfl, l9⟩)) ?_
  · obtain ⟨z, hzi, hzm, rfl⟩ := map_get hi
    refine ⟨_, rfl, ?_⟩
    simp? only [wipeD]
    refine (is_zone_ok (hz.zone z hzm)).use fun S10 l10 => ?_
    exact ⟨rfl, l10⟩
  rintro _ ⟨S', rfl, l⟩
  simp? only []
  exact ⟨trivial, l⟩
theorem check_zones_ok {n : Nat} {S : Hd} {zs : Zs} (hz : Belts zs) : Pu (run T (n + 6) 86 [beltsD zs] S) .non S := by
  refine Pu.run T_check_zones rfl ?_
  show M (ex (run T (n + 5)) b_check_zones [some (beltsD zs)] S) _
  unfold b_check_zones
  refine ite_M ?_
  simp_all? only []
  refine (is_zones_ok hz).use fun S1 l1 => ?_
  simp_all? only []
  simp? only []
  exact ⟨trivial, l1⟩
theorem is_place_ok {n y : Nat} {S : Hd} {zs : Zs} (hy : y < zs.length) : Pu (run T (n + 2) 87 [beltsD zs, .int (y : Int)] S) (.bl true) S := by
  refine Pu.run T_is_place rfl ?_
  show M (ex (run T (n + 1)) b_is_place [some (beltsD zs), some (.int (y : Int))] S) _
  unfold b_is_place
  have eb : ∀ S2, seqOf S2 (beltsD zs) = some (zs.map fun z => zoneD z.1 z.2) := fun S2 => rfl
  simp? only []
  refine is_number_ok.use fun S1 l1 => ?_
  simp? only [q_len (eb _), List.length_map, show ((0 : Int) ≤ (y : Int)) = True from eq_true (by omega), show ((y : Int) < (zs.length : Int)) = True from eq_true (by omega), decide_true]
  exact ⟨trivial, l1⟩
theorem is_index_ok {n v r : Nat} {S : Hd} {ks : List Str} (g : S[r]? = some (.lst (ks.map .str))) (hv : v < ks.length) : Pu (run T (n + 2) 88 [.ref r, .int (v : Int)] S) (.bl true) S := by
  refine Pu.run T_is_index rfl ?_
  show M (ex (run T (n + 1)) b_is_index [some (.ref r), some (.int (v : Int))] S) _
  unfold b_is_index
  simp? only []
  refine is_number_ok.use fun S1 l1 => ?_
  simp? only [q_len (q_seqL (l1 _ _ g)), List.length_map, show ((0 : Int) ≤ (v : Int)) = True from eq_true (by omega), show ((v : Int) < (ks.length : Int)) = True from eq_true (by omega), decide_true]
  exact ⟨trivial, l1⟩
theorem str_at {ks : List Str} {v : Nat} {k : Str} (h : ks[v]? = some k) : atI (ks.map D.str) (v : Int) = some (.str k) := by
  have := (List.getElem?_eq_some_iff.mp h).1
  rw [atI_lt (by omega) (by rw [List.length_map]; omega), Int.toNat_natCast, List.getElem?_map, h]
  rfl
theorem is_time_ok {n v r : Nat} {S : Hd} {ks : List Str} {k : Str} (g : S[r]? = some (.lst (ks.map .str))) (hv : ks[v]? = some k) (hk : k ≠ "span") : Pu (run T (n + 3) 89 [.ref r, .int (v : Int)] S) (.bl true) S := by
  have lv := (List.getElem?_eq_some_iff.mp hv).1
  refine Pu.run T_is_time rfl ?_
  show M (ex (run T (n + 2)) b_is_time [some (.ref r), some (.int (v : Int))] S) _
  unfold b_is_time
  simp? only []
  refine (is_index_ok g lv).use fun S1 l1 => ?_
  simp? only [q_ixL (l1 _ _ g), str_at hv, q_neS, hk, decide_false]
  exact ⟨trivial, l1⟩
end Lw

namespace Lw
open PySem L2 Ix
inductive RoleOk (nz : Nat) (ks : List Str) : Str → D → Prop where
  | place (y : Nat) (h : y < nz) : RoleOk nz ks "place" (.int (y : Int))
  | fold (i : Nat) : RoleOk nz ks "fold" (foldS i)
  | gap (i : Nat) : RoleOk nz ks "gap" (gapS i)
  | minutes (m : Int) (h1 : -100000 ≤ m) (h2 : m ≤ 100000) : RoleOk nz ks "minutes" (.int m)
  | time (v : Nat) (k : Str) (h : ks[v]? = some k) (hk : k ≠ "span") : RoleOk nz ks "time" (.int (v : Int))
  | mom (v : Nat) (h : ks[v]? = some "moment") : RoleOk nz ks "moment" (.int (v : Int))
  | rea (v : Nat) (h : ks[v]? = some "reading") : RoleOk nz ks "reading" (.int (v : Int))
  | spa (v : Nat) (h : ks[v]? = some "span") : RoleOk nz ks "span" (.int (v : Int))
theorem fits_role_ok {n r : Nat} {S : Hd} {zs : Zs} {ks : List Str} {role : Str} {item : D} (g : S[r]? = some (.lst (ks.map .str))) (h : RoleOk zs.length ks role item) : Pu (run T (n + 4) 90 [beltsD zs, .ref r, .str role, item] S) (.bl true) S := by
  refine Pu.run T_fits_role rfl ?_
  show M (ex (run T (n + 3)) b_fits_role [some (beltsD zs), some (.ref r), some (.str role), some item] S) _
  unfold b_fits_role
  cases h with
  | place y h =>
    refine seq_Mx (ite_B (B := true) (by simp_all? only [q_eqS, decide_true]) (fun _ => ?_) (fun h => by cases h))
    simp? only []
    refine (is_place_ok h).use fun S1 l1 => ?_
    simp? only []
    exact ⟨trivial, l1⟩
  | fold i =>
    refine seq_Mx (ite_B (B := false) (by simp_all? only [q_eqS]; rw [decide_eq_false (by decide)]) (fun h => by cases h) fun _ => ?_)
    rw [show ∀ env S, ex (run T (n + 3)) .skip env S = some (.nx, env, S) from fun _ _ => rfl]
    simp only [M_some]
    have ef : foldS i = match i with | 0 => .str "early" | 1 => .str "late" | _ => .str "refuse" := by
      match i with
      | 0 => rfl
      | 1 => rfl
      | i + 2 => rfl
    rw [ef]
    refine seq_Mx (ite_B (B := true) (by simp_all? only [q_eqS, decide_true]) (fun _ => ?_) (fun h => by cases h))
    simp? only []
    refine (is_rule_ok i).use fun S1 l1 => ?_
    simp? only []
    exact ⟨trivial, l1⟩
  | gap i =>
    refine seq_Mx (ite_B (B := false) (by simp_all? only [q_eqS]; rw [decide_eq_false (by decide)]) (fun h => by cases h) fun _ => ?_)
    rw [show ∀ env S, ex (run T (n + 3)) .skip env S = some (.nx, env, S) from fun _ _ => rfl]
    simp only [M_some]
    refine seq_Mx (ite_B (B := false) (by simp_all? only [q_eqS]; rw [decide_eq_false (by decide)]) (fun h => by cases h) fun _ => ?_)
    rw [show ∀ env S, ex (run T (n + 3)) .skip env S = some (.nx, env, S) from fun _ _ => rfl]
    simp only [M_some]
    have ef : gapS i = match i with | 0 => .str "ahead" | 1 => .str "behind" | _ => .str "refuse" := by
      match i with
      | 0 => rfl
      | 1 => rfl
      | i + 2 => rfl
    rw [ef]
    refine seq_Mx (ite_B (B := true) (by simp_all? only [q_eqS, decide_true]) (fun _ => ?_) (fun h => by cases h))
    simp? only []
    refine (is_rule_ok i).use fun S1 l1 => ?_
    simp? only []
    exact ⟨trivial, l1⟩
  | minutes m h1 h2 =>
    refine seq_Mx (ite_B (B := false) (by simp_all? only [q_eqS]; rw [decide_eq_false (by decide)]) (fun h => by cases h) fun _ => ?_)
    rw [show ∀ env S, ex (run T (n + 3)) .skip env S = some (.nx, env, S) from fun _ _ => rfl]
    simp only [M_some]
    refine seq_Mx (ite_B (B := false) (by simp_all? only [q_eqS]; rw [decide_eq_false (by decide)]) (fun h => by cases h) fun _ => ?_)
    rw [show ∀ env S, ex (run T (n + 3)) .skip env S = some (.nx, env, S) from fun _ _ => rfl]
    simp only [M_some]
    refine seq_Mx (ite_B (B := false) (by simp_all? only [q_eqS]; rw [decide_eq_false (by decide)]) (fun h => by cases h) fun _ => ?_)
    rw [show ∀ env S, ex (run T (n + 3)) .skip env S = some (.nx, env, S) from fun _ _ => rfl]
    simp only [M_some]
    refine seq_Mx (ite_B (B := true) (by simp_all? only [q_eqS, decide_true]) (fun _ => ?_) (fun h => by cases h))
    simp? only []
    refine is_number_ok.use fun S1 l1 => ?_
    simp? only [h1, h2, decide_true]
    exact ⟨trivial, l1⟩
  | time v k h hk =>
    refine seq_Mx (ite_B (B := false) (by simp_all? only [q_eqS]; rw [decide_eq_false (by decide)]) (fun h => by cases h) fun _ => ?_)
    rw [show ∀ env S, ex (run T (n + 3)) .skip env S = some (.nx, env, S) from fun _ _ => rfl]
    simp only [M_some]
    refine seq_Mx (ite_B (B := false) (by simp_all? only [q_eqS]; rw [decide_eq_false (by decide)]) (fun h => by cases h) fun _ => ?_)
    rw [show ∀ env S, ex (run T (n + 3)) .skip env S = some (.nx, env, S) from fun _ _ => rfl]
    simp only [M_some]
    refine seq_Mx (ite_B (B := false) (by simp_all? only [q_eqS]; rw [decide_eq_false (by decide)]) (fun h => by cases h) fun _ => ?_)
    rw [show ∀ env S, ex (run T (n + 3)) .skip env S = some (.nx, env, S) from fun _ _ => rfl]
    simp only [M_some]
    refine seq_Mx (ite_B (B := false) (by simp_all? only [q_eqS]; rw [decide_eq_false (by decide)]) (fun h => by cases h) fun _ => ?_)
    rw [show ∀ env S, ex (run T (n + 3)) .skip env S = some (.nx, env, S) from fun _ _ => rfl]
    simp only [M_some]
    refine seq_Mx (ite_B (B := true) (by simp_all? only [q_eqS, decide_true]) (fun _ => ?_) (fun h => by cases h))
    simp? only []
    refine (is_time_ok g h hk).use fun S1 l1 => ?_
    simp? only []
    exact ⟨trivial, l1⟩
  | mom v h =>
    refine seq_Mx (ite_B (B := false) (by simp_all? only [q_eqS]; rw [decide_eq_false (by decide)]) (fun h => by cases h) fun _ => ?_)
    rw [show ∀ env S, ex (run T (n + 3)) .skip env S = some (.nx, env, S) from fun _ _ => rfl]
    simp only [M_some]
    refine seq_Mx (ite_B (B := false) (by simp_all? only [q_eqS]; rw [decide_eq_false (by decide)]) (fun h => by cases h) fun _ => ?_)
    rw [show ∀ env S, ex (run T (n + 3)) .skip env S = some (.nx, env, S) from fun _ _ => rfl]
    simp only [M_some]
    refine seq_Mx (ite_B (B := false) (by simp_all? only [q_eqS]; rw [decide_eq_false (by decide)]) (fun h => by cases h) fun _ => ?_)
    rw [show ∀ env S, ex (run T (n + 3)) .skip env S = some (.nx, env, S) from fun _ _ => rfl]
    simp only [M_some]
    refine seq_Mx (ite_B (B := false) (by simp_all? only [q_eqS]; rw [decide_eq_false (by decide)]) (fun h => by cases h) fun _ => ?_)
    rw [show ∀ env S, ex (run T (n + 3)) .skip env S = some (.nx, env, S) from fun _ _ => rfl]
    simp only [M_some]
    refine seq_Mx (ite_B (B := false) (by simp_all? only [q_eqS]; rw [decide_eq_false (by decide)]) (fun h => by cases h) fun _ => ?_)
    rw [show ∀ env S, ex (run T (n + 3)) .skip env S = some (.nx, env, S) from fun _ _ => rfl]
    simp only [M_some]
    have lv := (List.getElem?_eq_some_iff.mp h).1
    simp? only []
    refine (is_index_ok g lv).use fun S1 l1 => ?_
    simp? only [q_ixL (l1 _ _ g), str_at h, q_eqS, decide_true]
    exact ⟨trivial, l1⟩
  | rea v h =>
    refine seq_Mx (ite_B (B := false) (by simp_all? only [q_eqS]; rw [decide_eq_false (by decide)]) (fun h => by cases h) fun _ => ?_)
    rw [show ∀ env S, ex (run T (n + 3)) .skip env S = some (.nx, env, S) from fun _ _ => rfl]
    simp only [M_some]
    refine seq_Mx (ite_B (B := false) (by simp_all? only [q_eqS]; rw [decide_eq_false (by decide)]) (fun h => by cases h) fun _ => ?_)
    rw [show ∀ env S, ex (run T (n + 3)) .skip env S = some (.nx, env, S) from fun _ _ => rfl]
    simp only [M_some]
    refine seq_Mx (ite_B (B := false) (by simp_all? only [q_eqS]; rw [decide_eq_false (by decide)]) (fun h => by cases h) fun _ => ?_)
    rw [show ∀ env S, ex (run T (n + 3)) .skip env S = some (.nx, env, S) from fun _ _ => rfl]
    simp only [M_some]
    refine seq_Mx (ite_B (B := false) (by simp_all? only [q_eqS]; rw [decide_eq_false (by decide)]) (fun h => by cases h) fun _ => ?_)
    rw [show ∀ env S, ex (run T (n + 3)) .skip env S = some (.nx, env, S) from fun _ _ => rfl]
    simp only [M_some]
    refine seq_Mx (ite_B (B := false) (by simp_all? only [q_eqS]; rw [decide_eq_false (by decide)]) (fun h => by cases h) fun _ => ?_)
    rw [show ∀ env S, ex (run T (n + 3)) .skip env S = some (.nx, env, S) from fun _ _ => rfl]
    simp only [M_some]
    have lv := (List.getElem?_eq_some_iff.mp h).1
    simp? only []
    refine (is_index_ok g lv).use fun S1 l1 => ?_
    simp? only [q_ixL (l1 _ _ g), str_at h, q_eqS, decide_true]
    exact ⟨trivial, l1⟩
  | spa v h =>
    refine seq_Mx (ite_B (B := false) (by simp_all? only [q_eqS]; rw [decide_eq_false (by decide)]) (fun h => by cases h) fun _ => ?_)
    rw [show ∀ env S, ex (run T (n + 3)) .skip env S = some (.nx, env, S) from fun _ _ => rfl]
    simp only [M_some]
    refine seq_Mx (ite_B (B := false) (by simp_all? only [q_eqS]; rw [decide_eq_false (by decide)]) (fun h => by cases h) fun _ => ?_)
    rw [show ∀ env S, ex (run T (n + 3)) .skip env S = some (.nx, env, S) from fun _ _ => rfl]
    simp only [M_some]
    refine seq_Mx (ite_B (B := false) (by simp_all? only [q_eqS]; rw [decide_eq_false (by decide)]) (fun h => by cases h) fun _ => ?_)
    rw [show ∀ env S, ex (run T (n + 3)) .skip env S = some (.nx, env, S) from fun _ _ => rfl]
    simp only [M_some]
    refine seq_Mx (ite_B (B := false) (by simp_all? only [q_eqS]; rw [decide_eq_false (by decide)]) (fun h => by cases h) fun _ => ?_)
    rw [show ∀ env S, ex (run T (n + 3)) .skip env S = some (.nx, env, S) from fun _ _ => rfl]
    simp only [M_some]
    refine seq_Mx (ite_B (B := false) (by simp_all? only [q_eqS]; rw [decide_eq_false (by decide)]) (fun h => by cases h) fun _ => ?_)
    rw [show ∀ env S, ex (run T (n + 3)) .skip env S = some (.nx, env, S) from fun _ _ => rfl]
    simp only [M_some]
    have lv := (List.getElem?_eq_some_iff.mp h).1
    simp? only []
    refine (is_index_ok g lv).use fun S1 l1 => ?_
    simp? only [q_ixL (l1 _ _ g), str_at h, q_eqS, decide_true]
    exact ⟨trivial, l1⟩
def rolesD : Dd → List Str
  | .add _ _ => ["time", "minutes"]
  | .plus _ _ => ["moment", "span"]
  | .less _ _ => ["reading", "span"]
  | .read _ _ => ["moment", "place"]
  | .offset _ _ => ["moment", "place"]
  | .edition _ _ => ["moment", "place"]
  | .find _ _ _ _ => ["reading", "place", "fold", "gap"]
def restD : Dd → List D
  | .add v m => [.int (v : Int), .int m]
  | .plus v s => [.int (v : Int), .int (s : Int)]
  | .less v s => [.int (v : Int), .int (s : Int)]
  | .read v p => [.int (v : Int), .int (p : Int)]
  | .offset v p => [.int (v : Int), .int (p : Int)]
  | .edition v p => [.int (v : Int), .int (p : Int)]
  | .find v p i j => [.int (v : Int), .int (p : Int), foldS i, gapS j]
theorem dd_rest (d : Dd) : ddD d = .tup (.str (wd d) :: restD d) := by cases d <;> rfl
theorem roles_len (d : Dd) : (rolesD d).length = (restD d).length ∧ (restD d).length ≤ 4 := by cases d <;> exact ⟨rfl, by simp [restD]⟩
abbrev stepT : List (Str × D) := [("read", .tup [.str "moment", .str "place"]), ("find", .tup [.str "reading", .str "place", .str "fold", .str "gap"]), ("offset", .tup [.str "moment", .str "place"]), ("edition", .tup [.str "moment", .str "place"]), ("plus", .tup [.str "moment", .str "span"]), ("less", .tup [.str "reading", .str "span"]), ("add", .tup [.str "time", .str "minutes"])]
theorem step_look (d : Dd) : lookC stepT (wd d) = some (.tup ((rolesD d).map .str)) := by cases d <;> rfl
theorem role_ok {nz : Nat} {ks : List Str} {d : Dd} (h : okD nz ks d) : ∀ (i : Nat) (role : Str) (item : D), (rolesD d)[i]? = some role → (restD d)[i]? = some item → RoleOk nz ks role item := fun i role item h1 h2 => by
  cases d with
  | add v m =>
    obtain ⟨⟨k, hk, ns⟩, m1, m2⟩ := h
    match i, h1, h2 with
    | 0, h1, h2 => cases h1; cases h2; exact .time v k hk ns
    | 1, h1, h2 => cases h1; cases h2; exact .minutes m m1 m2
    | _ + 2, h1, _ => cases h1
  | plus v s =>
    match i, h1, h2 with
    | 0, h1, h2 => cases h1; cases h2; exact .mom v h.1
    | 1, h1, h2 => cases h1; cases h2; exact .spa s h.2
    | _ + 2, h1, _ => cases h1
  | less v s =>
    match i, h1, h2 with
    | 0, h1, h2 => cases h1; cases h2; exact .rea v h.1
    | 1, h1, h2 => cases h1; cases h2; exact .spa s h.2
    | _ + 2, h1, _ => cases h1
  | find v p a b =>
    match i, h1, h2 with
    | 0, h1, h2 => cases h1; cases h2; exact .rea v h.1
    | 1, h1, h2 => cases h1; cases h2; exact .place p h.2
    | 2, h1, h2 => cases h1; cases h2; exact .fold a
    | 3, h1, h2 => cases h1; cases h2; exact .gap b
    | _ + 4, h1, _ => cases h1
  | read v p =>
    match i, h1, h2 with
    | 0, h1, h2 => cases h1; cases h2; exact .mom v h.1
    | 1, h1, h2 => cases h1; cases h2; exact .place p h.2
    | _ + 2, h1, _ => cases h1
  | offset v p =>
    match i, h1, h2 with
    | 0, h1, h2 => cases h1; cases h2; exact .mom v h.1
    | 1, h1, h2 => cases h1; cases h2; exact .place p h.2
    | _ + 2, h1, _ => cases h1
  | edition v p =>
    match i, h1, h2 with
    | 0, h1, h2 => cases h1; cases h2; exact .mom v h.1
    | 1, h1, h2 => cases h1; cases h2; exact .place p h.2
    | _ + 2, h1, _ => cases h1
end Lw

namespace Lw
open PySem L2 Ix
theorem is_step_ok {n r : Nat} {S : Hd} {zs : Zs} {ks : List Str} {d : Dd} (g : S[r]? = some (.lst (ks.map .str))) (h : okD zs.length ks d) : Pu (run T (n + 5) 91 [beltsD zs, .ref r, ddD d] S) (.bl true) S := by
  have hm := most_big
  obtain ⟨rl, r4⟩ := roles_len d
  refine Pu.run T_is_step rfl ?_
  show M (ex (run T (n + 4)) b_is_step [some (beltsD zs), some (.ref r), some (ddD d), none, none, none] S) _
  unfold b_is_step
  refine seq_M (fun env S1 => env = [some (beltsD zs), some (.ref r), some (ddD d), some (.tup ((rolesD d).map .str)), none, none] ∧ Lq S S1) ?_ ?_
  · simp? only []
    refine (first_word_ok d).use fun S1 l1 => ?_
    refine M_is (v := (.tup ((rolesD d).map .str), S1)) ?_ ⟨trivial, rfl, l1⟩
    show some ((lookC stepT (wd d)).getD .non, S1) = _
    rw [step_look]
    rfl
  rintro _ S1 ⟨rfl, l1⟩
  have ln : ∀ S, bltD .len [ddD d] S = some (.int ((restD d).length + 1 : Nat), S) := fun S => by
    rw [dd_rest]
    rfl
  have lr : ∀ S, bltD .len [D.tup ((rolesD d).map .str)] S = some (.int ((rolesD d).length : Nat), S) := fun S => by
    rw [q_len q_seqT, List.length_map]
  refine seq_Mx (ite_M (tst_M (M_or (M_is (v := (.bl false, S1)) (by simp_all? only []) (.inl ⟨rfl, M_is (v := (.bl false, S1)) (by simp_all? only [ln, lr, q_neI]; rw [decide_eq_true (by omega)]; rfl) ⟨false, rfl, ?_⟩⟩)))))
  simp only [Bool.false_eq_true, if_false]
  rw [show ∀ env, ex (run T (n + 4)) .skip env S1 = some (.nx, env, S1) from fun _ => rfl]
  simp only [M_some]
  have sl : ∀ S, slD (ddD d) (some 1) none S = some (.tup (restD d), S) := fun S => by
    rw [dd_rest, q_slT, cut_1]
    rfl
  have zl : (List.zipWith (fun a b => D.tup [a, b]) ((rolesD d).map .str) (restD d)).length ≤ 4 := by rw [List.length_zipWith]; omega
  refine M.imp (P := fun x => ∃ S', x = (.ret (.bl true), [some (beltsD zs), some (.ref r), some (ddD d), some (.tup ((rolesD d).map .str)), none, none], S') ∧ Lq S S') (ret_M (M_allT (S1 := S1) (ds := [.tup ((rolesD d).map .str), .tup (restD d)]) (its := List.zipWith (fun a b => D.tup [a, b]) ((rolesD d).map .str) (restD d)) (by decide) (by simp_all? only [sl]) (Lq.refl _) rfl (by omega) (fun i x S9 hi l9 => ?_) (fun _ _ => rfl) fun S9 l9 => ⟨S9, rfl, l1.trans l9⟩)) ?_
  · rw [List.getElem?_zipWith] at hi
    cases h1 : (rolesD d)[i]? with
    | none => simp [h1] at hi
    | some role =>
      cases h2 : (restD d)[i]? with
      | none => simp [h1, h2] at hi
      | some item =>
        simp [h1, h2] at hi
        subst hi
        refine ⟨_, rfl, ?_⟩
        simp? only [wipeD]
        refine (fits_role_ok (n := n) ((l1.trans l9) _ _ g) (role_ok h i role item h1 h2)).use fun S10 l10 => ?_
        exact ⟨rfl, l10⟩
  rintro _ ⟨S', rfl, l⟩
  simp? only []
  exact ⟨trivial, l⟩
theorem made_kind_ok {n r nz : Nat} {S : Hd} {ks : List Str} {d : Dd} (g : S[r]? = some (.lst (ks.map .str))) (h : okD nz ks d) : Pu (run T (n + 1) 92 [.ref r, ddD d] S) (.str (kdO ks d)) S := by
  refine Pu.run T_made_kind rfl ?_
  show M (ex (run T n) b_made_kind [some (.ref r), some (ddD d)] S) _
  unfold b_made_kind
  cases d with
  | add v m =>
    obtain ⟨⟨k, hk, _⟩, _, _⟩ := h
    have e0 : ∀ S, ixD (ddD (.add v m)) (.int 0) S = some (.str "add", S) := fun _ => rfl
    have e1 : ∀ S, ixD (ddD (.add v m)) (.int 1) S = some (.int (v : Int), S) := fun _ => rfl
    refine seq_Mx (ite_B (B := true) (by simp_all? only [e0, q_eqS, decide_true]) (fun _ => ?_) (fun h => by cases h))
    simp? only [e1, q_ixL g, str_at hk]
    exact ⟨by simp [kdO, hk], Lq.refl _⟩
  | _ =>
    refine seq_Mx (ite_B (B := false) (by simp_all? only [dd_0, wd, q_eqS]; rw [decide_eq_false (by decide)]) (fun h => by cases h) fun _ => ?_)
    rw [show ∀ env, ex (run T n) .skip env S = some (.nx, env, S) from fun _ => rfl]
    simp only [M_some]
    simp? only [dd_0, wd]
    first | exact ⟨_, rfl, rfl, Lq.refl _⟩ | exact ⟨rfl, Lq.refl _⟩ | exact ⟨_, rfl, trivial, Lq.refl _⟩
end Lw

namespace Lw
open PySem L2 Ix
/-! ### lists of words as repr tells them -/
theorem count_ed : ∀ plan : List Dd, PySem.Spec.countIn (.str "edition") ((plan.map wd).map PyData.str) = ((plan.filter isEd).length : Int)
  | [] => rfl
  | d :: plan => by
    have ih := count_ed plan
    simp only [List.map_cons, PySem.Spec.countIn, ih]
    cases d with
    | edition v p =>
      simp [wd, isEd, PySem.Spec.same, List.filter_cons]
      omega
    | _ =>
      simp only [wd, isEd, PySem.Spec.same, List.filter_cons, Bool.false_eq_true, if_false, beq_iff_eq]
      rw [if_neg (by decide), Int.zero_add]
theorem strsD_map : ∀ ks : List Str, strsD (ks.map D.str) = some ks
  | [] => rfl
  | k :: ks => by simp only [List.map_cons, strsD, strsD_map ks, Option.map_some]
theorem kinds_loop {n r : Nat} {nz : Nat} {plan : List Dd} {S : Hd} {v : D} {i : Nat} {d : Dd} (hv : ∀ (t : Nat) (d : Dd), plan[t]? = some d → okD nz (rowOf (plan.take t)) d) (g : S[r]? = some (.lst ((rowOf (plan.take i)).map .str))) (hi : plan[i]? = some d) (hl : plan.length ≤ 8) {env : Sl} {a b : Nat} (ha : env[a]? = some (some (.ref r))) (hb : env[b]? = some (some (ddD d))) :
    M (ex (run T (n + 1)) (.drop (.meth .append (.var a) (.cons (.call 92 (.cons (.var a) (.cons (.var b) (.nil)))) (.nil)))) env S) fun x => ∃ S', x = (.nx, env, S') ∧ S'[r]? = some (.lst ((rowOf (plan.take (i + 1))).map .str)) ∧ ∀ (k : Nat) (o : O), k ≠ r → S[k]? = some o → S'[k]? = some o := by
  have hm := most_big
  have il := (List.getElem?_eq_some_iff.mp hi).1
  simp? only [ha, hb, q_isL g]
  refine (made_kind_ok g (hv i d hi)).use fun S1 l1 => ?_
  have rl := rowOf_len (plan.take i)
  rw [List.length_take] at rl
  have g1 := l1 _ _ g
  simp? only [q_app g1 (by rw [List.length_map]; omega)]
  refine ⟨_, rfl, ?_, fun k o nk e => ?_⟩
  · rw [List.take_add_one, hi, List.getElem?_set_self (lt_of_get g1)]
    show _ = some (O.lst ((rowOf (plan.take i ++ [d])).map D.str))
    rw [rowOf_snoc, List.map_append]
    rfl
  · rw [List.getElem?_set_ne nk.symm]
    exact l1 _ _ e
theorem M_cnts {Γ : Fs} {a b : E} {env : Sl} {S : Hd} {Q : D × Hd → Prop} (h : M (ev Γ a env S) fun x => isLst x.2 x.1 = true ∧ M (ev Γ b env x.2) fun y => M (cntD x.1 y.1 y.2) Q) : M (ev Γ (.cnts a b) env S) Q := by
  simp only [ev, M_bind]
  refine h.imp fun x ⟨e, m⟩ => ?_
  rw [if_pos e, M_bind]
  exact m
theorem fits_as_program_ok {n : Nat} {S : Hd} {zs : Zs} {plan : List Dd} (hv : Valid zs.length plan) : Pu (run T (n + 6) 93 [beltsD zs, planD plan] S) (.bl true) S := by
  have hm := most_big
  have h8 := hv.short
  have h1 := hv.one
  refine Pu.run T_fits_as_program rfl ?_
  show M (ex (run T (n + 5)) b_fits_as_program [some (beltsD zs), some (planD plan), none, none] S) _
  unfold b_fits_as_program
  have ep : ∀ S2, seqOf S2 (planD plan) = some (plan.map ddD) := fun _ => rfl
  have et : ∀ S2, bltD .isi [planD plan, .ty "tuple"] S2 = some (.bl true, S2) := fun S2 => isi_tt
  have el : ∀ S2, bltD .len [planD plan] S2 = some (.int (plan.length : Nat), S2) := fun S2 => by rw [q_len (ep _), List.length_map]
  refine seq_Mx (ite_M (tst_M (M_or (M_is (v := (.bl false, S)) (by simp_all? only [et]) (.inl ⟨rfl, M_is (v := (.bl false, S)) (by simp_all? only [el]; rw [decide_eq_false (by omega)]) ⟨false, rfl, ?_⟩⟩)))))
  simp only [Bool.false_eq_true, if_false]
  rw [show ∀ env, ex (run T (n + 5)) .skip env S = some (.nx, env, S) from fun _ => rfl]
  simp only [M_some]
  refine seq_M (fun env S1 => env = [some (beltsD zs), some (planD plan), some (.ref S.length), none] ∧ S1 = S ++ [.lst [.str "moment"]]) ?_ ?_
  · simp? only [show (1 : Nat) ≤ most by decide]
    exact ⟨trivial, trivial, trivial⟩
  rintro _ _ ⟨rfl, rfl⟩
  refine seq_M (fun env S1 => ∃ v3 : Option D, env = [some (beltsD zs), some (planD plan), some (.ref S.length), v3] ∧ Lq S S1) ?_ ?_
  · refine for_M ?_
    simp_all? only []
    refine ⟨_, _, rfl, ep (S ++ [.lst [.str "moment"]]), ?_⟩
    refine M_loopS (m := 0) (fun i env S2 => ∃ v3 : Option D, env = [some (beltsD zs), some (planD plan), some (.ref S.length), v3] ∧ S2[S.length]? = some (.lst ((rowOf (plan.take i)).map .str)) ∧ Lq S S2) ⟨none, rfl, by rw [get_new]; rfl, Lq.app _ _⟩ ?_ ?_
    · rintro i x env S2 hi ⟨v3, rfl, g, l⟩
      obtain ⟨d, hd, _, rfl⟩ := map_get hi
      simp only [Nat.zero_add] at g ⊢
      simp only [asgG, Option.bind_some, List.set_cons_succ, List.set_cons_zero]
      refine seq_M (fun env S3 => env = [some (beltsD zs), some (planD plan), some (.ref S.length), some (ddD d)] ∧ Lq S2 S3) ?_ ?_
      · refine ite_M (tst_M (M_not ?_))
        simp_all? only []
        refine (is_step_ok (n := n) g (hv.ok i d hd)).use fun S3 l3 => ?_
        refine ⟨true, rfl, _, rfl, ?_⟩
        simp only [Bool.not_true, Bool.false_eq_true, if_false]
        exact ⟨_, rfl, rfl, rfl, l3⟩
      rintro _ S3 ⟨rfl, l3⟩
      refine (kinds_loop (n := n + 4) (v := .non) (a := 2) (b := 3) hv.ok (l3 _ _ g) hd h8 rfl rfl).imp ?_
      rintro _ ⟨S4, rfl, g4, k4⟩
      refine ⟨ep S4, _, rfl, g4, fun k o e => k4 k o (by have := lt_of_get e; omega) (l3 _ _ (l _ _ e))⟩
    · rintro env S2 ⟨v3, rfl, g, l⟩
      exact ⟨rfl, v3, rfl, l⟩
  rintro _ S1 ⟨v3, rfl, l1⟩
  refine M.imp (P := fun x => ∃ S' env', x = (.ret (.bl true), env', S') ∧ Lq S S') (ret_M (M_cmp ?_)) ?_
  · refine M_cnts ?_
    refine M_lcx plan ddD (fun _ => true) (fun d => .str (wd d)) (by decide) ?_ (by omega) (fun d S2 hd l2 => ⟨_, rfl, ?_⟩) fun j S2 hj g l2 => ?_
    · simp_all? only []
      exact ⟨_, _, rfl, Lq.refl _, fun S2 _ => ep S2⟩
    · simp_all? only [wipeD, dd_0]
      exact ⟨trivial, Lq.refl _, fun _ => ⟨trivial, Lq.refl _⟩⟩
    · rw [filt_true] at g
      have g' : S2[j]? = some (.lst ((plan.map wd).map .str)) := by rw [g, List.map_map]; rfl
      refine ⟨q_isL g', ?_⟩
      simp_all? only [cntD, g', strsD_map, Option.map_some, count_ed]
      rw [decide_eq_true (by omega)]
      exact ⟨S2, _, rfl, l1.trans l2⟩
  rintro _ ⟨S', env', rfl, l⟩
  simp? only []
  exact ⟨trivial, l⟩
theorem check_program_ok {n : Nat} {S : Hd} {zs : Zs} {plan : List Dd} (hv : Valid zs.length plan) : Pu (run T (n + 7) 95 [beltsD zs, planD plan] S) .non S := by
  refine Pu.run T_check_program rfl ?_
  show M (ex (run T (n + 6)) b_check_program [some (beltsD zs), some (planD plan)] S) _
  unfold b_check_program
  refine ite_M (tst_M (M_not ?_))
  simp_all? only []
  refine (fits_as_program_ok hv).use fun S1 l1 => ?_
  refine ⟨true, rfl, _, rfl, ?_⟩
  simp only [Bool.not_true, Bool.false_eq_true, if_false]
  refine ⟨_, rfl, ?_⟩
  simp? only []
  exact ⟨trivial, l1⟩
theorem kinds_of_values_ok {n nz : Nat} {S : Hd} {plan : List Dd} (hv : Valid nz plan) : M (run T (n + 2) 96 [planD plan] S) fun x => ∃ (r : Nat) (S' : Hd), x = (.ref r, S') ∧ S.length ≤ r ∧ S'[r]? = some (.lst ((rowOf plan).map .str)) ∧ Lq S S' := by
  have h8 := hv.short
  refine run_M T_kinds_of_values rfl ?_
  show M (ex (run T (n + 1)) b_kinds_of_values [some (planD plan), none, none] S) _
  unfold b_kinds_of_values
  have ep : ∀ S2, seqOf S2 (planD plan) = some (plan.map ddD) := fun _ => rfl
  refine seq_M (fun env S1 => env = [some (planD plan), some (.ref S.length), none] ∧ S1 = S ++ [.lst [.str "moment"]]) ?_ ?_
  · simp? only [show (1 : Nat) ≤ most by decide]
    exact ⟨trivial, trivial, trivial⟩
  rintro _ _ ⟨rfl, rfl⟩
  refine seq_M (fun env S1 => ∃ v3 : Option D, env = [some (planD plan), some (.ref S.length), v3] ∧ S1[S.length]? = some (.lst ((rowOf plan).map .str)) ∧ Lq S S1) ?_ ?_
  · refine for_M ?_
    simp_all? only []
    refine ⟨_, _, rfl, ep (S ++ [.lst [.str "moment"]]), ?_⟩
    refine M_loopS (m := 0) (fun i env S2 => ∃ v3 : Option D, env = [some (planD plan), some (.ref S.length), v3] ∧ S2[S.length]? = some (.lst ((rowOf (plan.take i)).map .str)) ∧ Lq S S2) ⟨none, rfl, by rw [get_new]; rfl, Lq.app _ _⟩ ?_ ?_
    · rintro i x env S2 hi ⟨v3, rfl, g, l⟩
      obtain ⟨d, hd, _, rfl⟩ := map_get hi
      simp only [Nat.zero_add] at g ⊢
      simp only [asgG, Option.bind_some, List.set_cons_succ, List.set_cons_zero]
      refine (kinds_loop (n := n) (v := .non) (a := 1) (b := 2) hv.ok g hd h8 rfl rfl).imp ?_
      rintro _ ⟨S4, rfl, g4, k4⟩
      exact ⟨ep S4, _, rfl, g4, fun k o e => k4 k o (by have := lt_of_get e; omega) (l _ _ e)⟩
    · rintro env S2 ⟨v3, rfl, g, l⟩
      rw [Nat.zero_add, List.length_map, List.take_length] at g
      exact ⟨rfl, v3, rfl, g, l⟩
  rintro _ S1 ⟨v3, rfl, g, l1⟩
  simp? only []
  exact ⟨_, _, rfl, Nat.le_refl _, g, l1⟩
end Lw

namespace Lw
open PySem L2 Ix
/-! ### numbers by their bits -/
def Sz (m : Nat) (i : Int) : Prop := i.natAbs < 2 ^ m
instance (m : Nat) (i : Int) : Decidable (Sz m i) := inferInstanceAs (Decidable (i.natAbs < 2 ^ m))
theorem Sz.mono {m k : Nat} {i : Int} (h : Sz m i) (l : m ≤ k) : Sz k i := Nat.lt_of_lt_of_le h (Nat.pow_le_pow_right (by decide) l)
theorem Sz.mul {m k : Nat} {i j : Int} (h : Sz m i) (g : Sz k j) : Sz (m + k) (i * j) := by
  unfold Sz at *
  rw [Int.natAbs_mul, Nat.pow_add]
  exact Nat.mul_lt_mul'' h g
theorem Sz.add {m k : Nat} {i j : Int} (h : Sz m i) (g : Sz k j) : Sz (max m k + 1) (i + j) := by
  have a : i.natAbs < 2 ^ max m k := Nat.lt_of_lt_of_le h (Nat.pow_le_pow_right (by decide) (Nat.le_max_left _ _))
  have b : j.natAbs < 2 ^ max m k := Nat.lt_of_lt_of_le g (Nat.pow_le_pow_right (by decide) (Nat.le_max_right _ _))
  unfold Sz
  rw [Nat.pow_succ]
  omega
theorem Sz.q {m k : Nat} {i j : Int} {S : Hd} (h : Sz m i) (g : Sz k j) (l : m + k < 999000 := by decide) (m0 : 0 < m := by decide) (k0 : 0 < k := by decide) : binD .mul (.int i) (.int j) S = some (.int (i * j), S) := q_mulW (by
  have a := log2_le m h m0
  have b := log2_le k g k0
  omega)
theorem sz_of {m : Nat} {i : Int} (h0 : 0 ≤ i) (h : i < 2 ^ m) : Sz m i := by
  unfold Sz
  have : ((2 ^ m : Nat) : Int) = 2 ^ m := by simp
  omega
theorem make_pot_ok {n : Nat} {S : Hd} (z : Int) : M (run T (n + 1) 116 [.int z] S) fun r => ∃ p S', r = (.ref p, S') ∧ p = S.length ∧ Bag p 0 S' ∧ Lq S S' := by
  refine run_M T_make_pot rfl ?_
  show M (ex (run T n) b_make_pot [some (.int z), none] S) _
  unfold b_make_pot
  have b0 := Int.emod_nonneg z (b := 2305843009213693951) (by decide)
  have b1 := Int.emod_lt_of_pos z (b := 2305843009213693951) (by decide)
  refine seq_M (fun env S1 => ∃ a : Int, env = [some (.int z), some (.int a)] ∧ S = S1) ?_ ?_
  · simp? only []
    by_cases h : 10 ^ 18 ≤ z
    · simp? only [show ((1000000000000000000 : Int) ≤ z) = True from eq_true (by omega), decide_true]
      exact ⟨trivial, _, rfl, trivial⟩
    · simp? only [show ((1000000000000000000 : Int) ≤ z) = False from eq_false (by omega), decide_false]
      exact ⟨trivial, _, rfl, trivial⟩
  rintro _ _ ⟨a, rfl, rfl⟩
  simp? only [q_mod (show (0 : Int) < 2305843009213693951 by decide), show (3 : Nat) ≤ most by decide]
  exact ⟨_, _, rfl, rfl, ⟨_, _, _, get_new, b0, b1, by decide, by decide⟩, Lq.app _ _⟩
theorem pick2_ok {n p c : Nat} {S : Hd} {u : Int} (hS : Bag p c S) (hc : c ≤ 1000000) (hu : 0 < u) (hb : u < 2 ^ 62) :
    M (run T (n + 1) 117 [.ref p, .int u] S) fun r => ∃ z S', r = (.int z, S') ∧ 0 ≤ z ∧ z < u ∧ Bag p (c + 1) S' ∧ Le p S S' := by
  obtain ⟨a, b, d, e, b0, b1, d0, d1⟩ := hS
  have hp := lt_of_get e
  refine run_M T_pick_2 rfl ?_
  show M (ex (run T n) b_pick_2 [some (.ref p), some (.int u), none, none, none] S) _
  unfold b_pick_2
  by_cases ha : 0 < a
  · refine seq_Mx (ite_M ?_)
    simp_all? only [q_ixL e, ha, decide_true, if_true]
    simp? only [q_ixL e, q_mod hu, q_fdiv hu (show u < 2 ^ 64 by omega), q_set e (show ixN (3 : Nat) 0 = some 0 from rfl)]
    exact ⟨_, _, rfl, Int.emod_nonneg _ (by omega), Int.emod_lt_of_pos _ hu, ⟨_, _, _, List.getElem?_set_self hp, b0, b1, d0, by omega⟩, Le.set _ _ _⟩
  · refine seq_Mx (ite_M ?_)
    simp_all? only [q_ixL e, ha, decide_false, Bool.false_eq_true, if_false]
    rw [show ∀ env, ex (run T n) .skip env S = some (.nx, env, S) from fun _ => rfl]
    simp only [M_some]
    refine seq_M (fun env S1 => env = [some (.ref p), some (.int u), none, none, none] ∧ S1 = S.set p (.lst [.int a, .int b, .int (d + 1)])) ?_ ?_
    · simp? only [q_ixL e, q_set e (show ixN (3 : Nat) 2 = some 2 from rfl)]
      exact ⟨trivial, trivial, trivial⟩
    rintro _ _ ⟨rfl, rfl⟩
    have e1 : (S.set p (.lst [.int a, .int b, .int (d + 1)]))[p]? = some (.lst [.int a, .int b, .int (d + 1)]) := List.getElem?_set_self hp
    generalize hS1 : S.set p (.lst [.int a, .int b, .int (d + 1)]) = S1 at e1
    have le : Le p S S1 := by rw [← hS1]; exact Le.set _ _ _
    have sb : Sz 62 (b + 11) := sz_of (by omega) (by omega)
    have sd : Sz 21 (d + 1) := sz_of (by omega) (by omega)
    have s19 : Sz 5 19 := by decide
    have s6 : Sz 23 6364136 := by decide
    have s4 : Sz 16 40503 := by decide
    have m1 := s19.mul sd
    have m2 := m1.mul sd
    have m3 := s6.mul sd
    have s5 : Sz 3 5 := by decide
    have m4 := ((m2.add m3).add s5)
    have m5 := sb.mul m4
    have m6 := s4.mul sd
    have m7 := m5.add m6
    refine seq_M (fun env S2 => env = [some (.ref p), some (.int u), none, some (.int (d + 1)), none] ∧ S1 = S2) ?_ ?_
    · simp? only [q_ixL e1]
      exact ⟨trivial, trivial, trivial⟩
    rintro _ _ ⟨rfl, rfl⟩
    refine seq_M (fun env S2 => ∃ x : Int, env = [some (.ref p), some (.int u), none, some (.int (d + 1)), some (.int x)] ∧ Sz 400 x ∧ S1 = S2) ?_ ?_
    · simp? only [q_ixL e1, s19.q sd, m1.q sd, s6.q sd, sb.q m4, s4.q sd]
      exact ⟨trivial, _, rfl, m7.mono (by decide), trivial⟩
    rintro _ _ ⟨x, rfl, sx, rfl⟩
    have s14 : Sz 21 1442695 := by decide
    refine seq_M (fun env S2 => ∃ x : Int, env = [some (.ref p), some (.int u), none, some (.int (d + 1)), some (.int x)] ∧ Sz 62 x ∧ S1 = S2) ?_ ?_
    · simp? only [sx.q sx, s14.q sx, q_mod (show (0 : Int) < 2305843009213693951 by decide), q_fdiv (j := 2053) (by decide) (by decide)]
      refine ⟨trivial, _, rfl, ?_, trivial⟩
      have y0 := Int.emod_nonneg (x * x + 1442695 * x) (b := 2305843009213693951) (by decide)
      have y1 := Int.emod_lt_of_pos (x * x + 1442695 * x) (b := 2305843009213693951) (by decide)
      exact sz_of (by omega) (by omega)
    rintro _ _ ⟨x, rfl, sx, rfl⟩
    have s79 : Sz 13 7919 := by decide
    simp? only [sx.q sx, s79.q sx, q_mod (show (0 : Int) < 1000000000039 by decide), q_fdiv (j := 32) (by decide) (by decide), q_mod hu]
    exact ⟨_, _, rfl, Int.emod_nonneg _ (by omega), Int.emod_lt_of_pos _ hu, ⟨_, _, _, e1, b0, b1, by omega, by omega⟩, le⟩
/-- one of a written list -/
theorem pickL {n p c iv : Nat} {es : E} {xs : List D} {u : Int} {env : Sl} {S : Hd} {Q : D × Hd → Prop} (hv : env[iv]? = some (some (.ref p))) (hS : Bag p c S) (he : ev (run T (n + 1)) es env S = some (.tup xs, S)) (hl : (xs.length : Int) = u) (hu : 0 < u) (hz : xs.length ≤ 900) (hc : c ≤ 1000000)
    (hq : ∀ (z : Nat) (d : D) (S' : Hd), xs[z]? = some d → Bag p (c + 1) S' → Le p S S' → Q (d, S')) : M (ev (run T (n + 1)) (.ix (.lst es) (.call 117 (.cons (.var iv) (.cons (.c (.int u)) (.nil))))) env S) Q := by
  have hm := most_big
  simp_all? only [he, argsOf, show xs.length ≤ most from by omega, hv]
  refine (pick2_ok (hS.app _) hc hu (by omega)).imp ?_
  rintro _ ⟨z, S', rfl, z0, z1, b', l'⟩
  have g := l'.at hS.ne get_new
  have hz1 : z.toNat < xs.length := by omega
  rw [q_ixL g, atI_lt z0 (by omega), List.getElem?_eq_getElem hz1]
  simp only [Option.map_some, M_some]
  exact hq z.toNat _ S' (List.getElem?_eq_getElem hz1) b' ((Le.app _ _ _).trans l')
/-- one of a list that stands -/
theorem pickV {n p c iv jv k : Nat} {xs : List D} {env : Sl} {S : Hd} {Q : D × Hd → Prop} (hv : env[iv]? = some (some (.ref p))) (hj : env[jv]? = some (some (.ref k))) (hk : S[k]? = some (.lst xs)) (hkp : k ≠ p) (hS : Bag p c S) (hu : 0 < xs.length) (hz : xs.length ≤ 900) (hc : c ≤ 1000000)
    (hq : ∀ (z : Nat) (d : D) (S' : Hd), xs[z]? = some d → Bag p (c + 1) S' → Le p S S' → Q (d, S')) : M (ev (run T (n + 1)) (.ix (.var jv) (.call 117 (.cons (.var iv) (.cons (.blt .len (.cons (.var jv) (.nil))) (.nil))))) env S) Q := by
  simp_all? only [hv, hj, q_len (q_seqL hk)]
  refine (pick2_ok hS hc (by omega) (by omega)).imp ?_
  rintro _ ⟨z, S', rfl, z0, z1, b', l'⟩
  have g := l'.at hkp hk
  have hz1 : z.toNat < xs.length := by omega
  rw [q_ixL g, atI_lt z0 (by omega), List.getElem?_eq_getElem hz1]
  simp only [Option.map_some, M_some]
  exact hq z.toNat _ S' (List.getElem?_eq_getElem hz1) b' l'
end Lw

namespace Lw
open PySem L2 Ix
theorem M_dct {Γ : Fs} {es : E} {env : Sl} {S : Hd} {Q : D × Hd → Prop} (h : M (ev Γ es env (S ++ [.dct []])) fun x => ∃ ds ks, x.1 = .tup ds ∧ pairUp ds = some ks ∧ (ks.map (·.1)).Nodup ∧ ks.length ≤ 15 ∧ Lq (S ++ [.dct []]) x.2 ∧ Q (.ref S.length, x.2.set S.length (.dct ks))) :
    M (ev Γ (.dct es) env S) Q := by
  simp only [ev, M_bind]
  refine h.imp fun x ⟨ds, ks, e1, e2, h1, h2, l, q⟩ => ?_
  rw [e1]
  simp only [argsOf, M_some, e2]
  rw [if_pos ⟨h1, h2, by rw [l _ _ get_new]; rfl⟩, M_some]
  exact q
theorem draw_spot_ok {n p c r q : Nat} {S : Hd} {ks ws : List Str} (hS : Bag p c S) (hc : c ≤ 900000) (rp : r ≠ p) (g : S[r]? = some (.lst (ks.map .str))) (gq : S[q]? = some (.lst (ws.map .str))) (hl : ks.length ≤ 20) (hk : ∃ k ∈ ks, k ∈ ws) :
    M (run T (n + 2) 119 [.ref p, .ref r, .ref q] S) fun x => ∃ (v : Nat) (S' : Hd), x = (.int (v : Int), S') ∧ (∃ k, ks[v]? = some k ∧ k ∈ ws) ∧ Bag p (c + 2) S' ∧ Le p S S' := by
  have hm := most_big
  refine run_M T_draw_spot rfl ?_
  show M (ex (run T (n + 1)) b_draw_spot [some (.ref p), some (.ref r), some (.ref q), none, none] S) _
  unfold b_draw_spot
  let L := (List.range ks.length).filter fun i => decide (ks.getD i "" ∈ ws)
  have Lmem : ∀ v ∈ L, ∃ k, ks[v]? = some k ∧ k ∈ ws := fun v hv => by
    obtain ⟨h1, h2⟩ := List.mem_filter.mp hv
    have h1 := List.mem_range.mp h1
    simp only [decide_eq_true_eq, List.getD_eq_getElem?_getD, List.getElem?_eq_getElem h1, Option.getD_some] at h2
    exact ⟨_, List.getElem?_eq_getElem h1, h2⟩
  have Lne : L ≠ [] := fun e => by
    obtain ⟨k, hk1, hk2⟩ := hk
    obtain ⟨i, hi, ei⟩ := List.getElem_of_mem hk1
    have : i ∈ L := List.mem_filter.mpr ⟨List.mem_range.mpr hi, by simp only [decide_eq_true_eq, List.getD_eq_getElem?_getD, List.getElem?_eq_getElem hi, Option.getD_some, ei]; exact hk2⟩
    rw [e] at this
    cases this
  have Llen : L.length ≤ 20 := Nat.le_trans (List.length_filter_le _ _) (by rw [List.length_range]; exact hl)
  have Lp : 0 < L.length := List.length_pos_iff.mpr Lne
  refine seq_M (fun env S1 => ∃ j : Nat, env = [some (.ref p), some (.ref r), some (.ref q), some (.ref j), none] ∧ S1[j]? = some (.lst (L.map fun (v : Nat) => .int (v : Int))) ∧ j ≠ p ∧ Bag p c S1 ∧ Le p S S1) ?_ ?_
  · refine asg_M (M_lcx (List.range ks.length) (fun (i : Nat) => .int (0 + (i : Int))) (fun i => decide (ks.getD i "" ∈ ws)) (fun (i : Nat) => .int (i : Int)) (by decide) ?_ (by rw [List.length_range]; omega) (fun i S2 hi l2 => ?_) fun j S2 hj gj l2 => ?_)
    · simp_all? only [q_len (q_seqL g), List.length_map]
      refine ⟨_, _, rfl, Lq.refl _, fun S2 _ => ?_⟩
      rw [i_rng (by omega) (by omega), Int.toNat_natCast]
    · have il := List.mem_range.mp hi
      have ai : atI (ks.map D.str) (0 + (i : Int)) = some (.str (ks.getD i "")) := by
        rw [Int.zero_add, atI_lt (by omega) (by rw [List.length_map]; omega), Int.toNat_natCast, List.getElem?_map, List.getElem?_eq_getElem il, List.getD_eq_getElem?_getD, List.getElem?_eq_getElem il]
        rfl
      refine ⟨_, rfl, ?_⟩
      have g2 := l2 _ _ g
      have q2 := l2 _ _ gq
      simp only [wipeD, ev, M_bind, M_map, M_some, M_ite, t_eq, a_tup, al_eq, List.getElem?_cons_zero, List.getElem?_cons_succ, Option.bind_some, Option.map_some, q_add, q_sub, q_lt, q_le, q_gt, q_ge, q_eqI, q_neI, q_eqB, q_neB, q_isN, q_notN, Ix.isNon, q_ixT, q_ixR, atI_0, atI_1, atI_2, atI_3, atI_4, atI_5, atI_6, atI_7, q_slT, q_slR, q_revT, q_seqT, q_int, q_intB, q_max, q_min, q_abs, q_tupT, n_tup, n_int, n_bl, n_non, n_str, isi_ii, isi_ib, isi_tt, isi_itl, isi_btl, isi_ttl, isi_tl, isi_bb, u_bl, u_int, u_non, u_tup, g_name, g_tup, g_nil, g_cons, o_ret, o_nx, i_seq, List.set_cons_zero, List.set_cons_succ, decide_eq_true_eq, Bool.not_eq_true', decide_eq_false_iff_not, evP, Bool.false_eq_true, if_true, if_false, ite_true, ite_false, reduceIte, Bool.not_true, Bool.not_false, Option.some.injEq, q_pow10, Int.reduceToNat, Int.reducePow, Int.reduceAdd, Int.reduceSub, Int.reduceMul, Int.reduceNeg, Int.reduceLT, Int.reduceLE, Nat.reducePow, Nat.reduceLT, Nat.reduceLeDiff, Nat.reduceAdd, List.length_cons, List.length_nil, Int.neg_neg, q_ixL g2, ai, in_strs q2]
      refine ⟨trivial, Lq.refl _, fun _ => ?_⟩
      simp only [Int.zero_add]
      exact ⟨trivial, Lq.refl _⟩
    · exact ⟨rfl, j, rfl, gj, by have := hS.lt; omega, hS.lq l2, l2.le⟩
  rintro _ S1 ⟨j, rfl, gj, jp, p1, l1⟩
  have LL : (L.map fun (v : Nat) => D.int (v : Int)).length = L.length := List.length_map _
  obtain ⟨v, hv⟩ : ∃ v, L.getLast? = some v := ⟨_, List.getLast?_eq_some_getLast Lne⟩
  have ne : (L.map fun (v : Nat) => D.int (v : Int)) ≠ [] := fun e => by
    have := congrArg List.length e
    rw [LL] at this
    exact Lne (List.eq_nil_of_length_eq_zero this)
  have al : atI (L.map fun (v : Nat) => D.int (v : Int)) (-1) = some (.int (v : Int)) := by
    rw [atI_last ne]
    have e : (L.map fun (v : Nat) => D.int (v : Int)).getLast? = some (.int (v : Int)) := by rw [List.getLast?_map, hv]; rfl
    rw [List.getLast?_eq_some_getLast ne] at e
    exact e
  simp? only [q_ixL gj, al, q_len (q_seqL gj), LL]
  refine (pick2_ok p1 (by omega) (by omega) (by omega)).imp ?_
  rintro _ ⟨z, S2, rfl, z0, z1, b2, l2⟩
  have gj2 := l2.at jp gj
  obtain ⟨y, hy⟩ : ∃ y, L[z.toNat]? = some y := ⟨_, List.getElem?_eq_getElem (by omega)⟩
  have al2 : atI (L.map fun (v : Nat) => D.int (v : Int)) z = some (.int (y : Int)) := by
    rw [atI_lt z0 (by rw [LL]; omega), List.getElem?_map, hy]
    rfl
  simp? only [q_ixL gj2, al2, show (2 : Nat) ≤ most by decide]
  refine (pick2_ok (b2.app _) (by omega) (by decide) (by decide)).imp ?_
  rintro _ ⟨x, S3, rfl, x0, x1, b3, l3⟩
  have g3 := l3.at b2.ne get_new
  have xx : x = 0 ∨ x = 1 := by omega
  rcases xx with rfl | rfl
  · simp? only [q_ixL g3]
    exact ⟨v, S3, rfl, Lmem v (List.mem_of_getLast? hv), b3, l1.trans (l2.trans ((Le.app _ _ _).trans l3))⟩
  · simp? only [q_ixL g3]
    exact ⟨y, S3, rfl, Lmem y (List.mem_of_getElem? hy), b3, l1.trans (l2.trans ((Le.app _ _ _).trans l3))⟩
theorem sort_behind_ok {n r nz : Nat} {S : Hd} {ks : List Str} {d : Dd} (g : S[r]? = some (.lst (ks.map .str))) (h : okD nz ks d) : Pu (run T (n + 1) 120 [.ref r, ddD d] S) (.str (kdO ks d)) S := by
  refine Pu.run T_sort_behind rfl ?_
  show M (ex (run T n) b_sort_behind [some (.ref r), some (ddD d), none] S) _
  unfold b_sort_behind
  refine seq_M (fun env S1 => env = [some (.ref r), some (ddD d), some (.ref S.length)] ∧ S1[S.length]? = some (.dct [(.inr "read", .str "reading"), (.inr "find", .str "moment"), (.inr "offset", .str "span"), (.inr "edition", .str "moment"), (.inr "plus", .str "reading")]) ∧ Lq S S1) ?_ ?_
  · refine asg_M (M_dct ?_)
    simp_all? only []
    refine ⟨_, _, rfl, rfl, by decide, by decide, Lq.refl _, trivial, trivial, ?_, ?_⟩
    · exact List.getElem?_set_self (by simp)
    · exact (Lq.app _ _).set (Nat.le_refl _)
  rintro _ S1 ⟨rfl, gd, l1⟩
  have g1 := l1 _ _ g
  have hd : isDct S1 (.ref S.length) = true := by simp only [isDct, gd]
  cases d with
  | add v m =>
    obtain ⟨⟨k, hk, _⟩, _, _⟩ := h
    have e0 : ∀ S, ixD (ddD (.add v m)) (.int 0) S = some (.str "add", S) := fun _ => rfl
    have e1 : ∀ S, ixD (ddD (.add v m)) (.int 1) S = some (.int (v : Int), S) := fun _ => rfl
    refine seq_Mx (ite_B (B := true) (by simp_all? only [e0, q_eqS, decide_true]) (fun _ => ?_) (fun h => by cases h))
    simp? only [e1, q_ixL g1, str_at hk]
    exact ⟨by simp [kdO, hk], l1⟩
  | _ =>
    refine seq_Mx (ite_B (B := false) (by simp_all? only [dd_0, wd, q_eqS]; rw [decide_eq_false (by decide)]) (fun h => by cases h) fun _ => ?_)
    rw [show ∀ env, ex (run T n) .skip env S1 = some (.nx, env, S1) from fun _ => rfl]
    simp only [M_some]
    simp? only [dd_0, wd, hd, getdD, gd, keyD]
    exact ⟨rfl, l1⟩
theorem kinds_loop2 {n r : Nat} {nz : Nat} {plan : List Dd} {S : Hd} {i : Nat} {d : Dd} (hv : ∀ (t : Nat) (d : Dd), plan[t]? = some d → okD nz (rowOf (plan.take t)) d) (g : S[r]? = some (.lst ((rowOf (plan.take i)).map .str))) (hi : plan[i]? = some d) (hl : plan.length ≤ 8) {env : Sl} {a b : Nat} (ha : env[a]? = some (some (.ref r))) (hb : env[b]? = some (some (ddD d))) :
    M (ex (run T (n + 1)) (.drop (.meth .append (.var a) (.cons (.call 120 (.cons (.var a) (.cons (.var b) (.nil)))) (.nil)))) env S) fun x => ∃ S', x = (.nx, env, S') ∧ S'[r]? = some (.lst ((rowOf (plan.take (i + 1))).map .str)) ∧ ∀ (k : Nat) (o : O), k ≠ r → S[k]? = some o → S'[k]? = some o := by
  have hm := most_big
  have il := (List.getElem?_eq_some_iff.mp hi).1
  simp? only [ha, hb, q_isL g]
  refine (sort_behind_ok g (hv i d hi)).use fun S1 l1 => ?_
  have rl := rowOf_len (plan.take i)
  rw [List.length_take] at rl
  have g1 := l1 _ _ g
  simp? only [q_app g1 (by rw [List.length_map]; omega)]
  refine ⟨_, rfl, ?_, fun k o nk e => ?_⟩
  · rw [List.take_add_one, hi, List.getElem?_set_self (lt_of_get g1)]
    show _ = some (O.lst ((rowOf (plan.take i ++ [d])).map D.str))
    rw [rowOf_snoc, List.map_append]
    rfl
  · rw [List.getElem?_set_ne nk.symm]
    exact l1 _ _ e
theorem kinds_in_ok {n nz : Nat} {S : Hd} {plan : List Dd} (hv : Valid nz plan) : M (run T (n + 2) 121 [planD plan] S) fun x => ∃ (r : Nat) (S' : Hd), x = (.ref r, S') ∧ S.length ≤ r ∧ S'[r]? = some (.lst ((rowOf plan).map .str)) ∧ Lq S S' := by
  have h8 := hv.short
  refine run_M T_kinds_in rfl ?_
  show M (ex (run T (n + 1)) b_kinds_in [some (planD plan), none, none] S) _
  unfold b_kinds_in
  have ep : ∀ S2, seqOf S2 (planD plan) = some (plan.map ddD) := fun _ => rfl
  refine seq_M (fun env S1 => env = [some (planD plan), some (.ref S.length), none] ∧ S1 = S ++ [.lst [.str "moment"]]) ?_ ?_
  · simp? only [show (1 : Nat) ≤ most by decide]
    exact ⟨trivial, trivial, trivial⟩
  rintro _ _ ⟨rfl, rfl⟩
  refine seq_M (fun env S1 => ∃ v3 : Option D, env = [some (planD plan), some (.ref S.length), v3] ∧ S1[S.length]? = some (.lst ((rowOf plan).map .str)) ∧ Lq S S1) ?_ ?_
  · refine for_M ?_
    simp_all? only []
    refine ⟨_, _, rfl, ep (S ++ [.lst [.str "moment"]]), ?_⟩
    refine M_loopS (m := 0) (fun i env S2 => ∃ v3 : Option D, env = [some (planD plan), some (.ref S.length), v3] ∧ S2[S.length]? = some (.lst ((rowOf (plan.take i)).map .str)) ∧ Lq S S2) ⟨none, rfl, by rw [get_new]; rfl, Lq.app _ _⟩ ?_ ?_
    · rintro i x env S2 hi ⟨v3, rfl, g, l⟩
      obtain ⟨d, hd, _, rfl⟩ := map_get hi
      simp only [Nat.zero_add] at g ⊢
      simp only [asgG, Option.bind_some, List.set_cons_succ, List.set_cons_zero]
      refine (kinds_loop2 (n := n) (a := 1) (b := 2) hv.ok g hd h8 rfl rfl).imp ?_
      rintro _ ⟨S4, rfl, g4, k4⟩
      exact ⟨ep S4, _, rfl, g4, fun k o e => k4 k o (by have := lt_of_get e; omega) (l _ _ e)⟩
    · rintro env S2 ⟨v3, rfl, g, l⟩
      rw [Nat.zero_add, List.length_map, List.take_length] at g
      exact ⟨rfl, v3, rfl, g, l⟩
  rintro _ S1 ⟨v3, rfl, g, l1⟩
  simp? only []
  exact ⟨_, _, rfl, Nat.le_refl _, g, l1⟩
theorem rule_ok {n p c : Nat} {S : Hd} (hS : Bag p c S) (hc : c ≤ 900000) : M (run T (n + 2) 122 [.ref p] S) fun x => ∃ (i j : Nat) (S' : Hd), x = (.tup [foldS i, gapS j], S') ∧ Bag p (c + 2) S' ∧ Le p S S' := by
  refine run_M T_rule rfl ?_
  show M (ex (run T (n + 1)) b_rule [some (.ref p), none] S) _
  unfold b_rule
  refine seq_M (fun env S1 => ∃ i : Nat, env = [some (.ref p), some (foldS i)] ∧ Bag p (c + 1) S1 ∧ Le p S S1) ?_ ?_
  · refine asg_M (pickL (xs := [.str "early", .str "late", .str "early", .str "late", .str "refuse"]) rfl hS (by simp_all? only []) rfl (by decide) (by decide) (by omega) fun z d S1 hz b1 l1 => ?_)
    have : ∃ i, d = foldS i := by
      match z, hz with
      | 0, h => exact ⟨0, by cases h; rfl⟩
      | 1, h => exact ⟨1, by cases h; rfl⟩
      | 2, h => exact ⟨0, by cases h; rfl⟩
      | 3, h => exact ⟨1, by cases h; rfl⟩
      | 4, h => exact ⟨2, by cases h; rfl⟩
      | _ + 5, h => cases h
    obtain ⟨i, rfl⟩ := this
    exact ⟨rfl, i, rfl, b1, l1⟩
  rintro _ S1 ⟨i, rfl, b1, l1⟩
  refine M.imp (P := fun x => ∃ (j : Nat) (S' : Hd), x = (.ret (.tup [foldS i, gapS j]), [some (.ref p), some (foldS i)], S') ∧ Bag p (c + 2) S' ∧ Le p S S') (ret_M ?_) ?_
  · refine M.imp (P := fun x => ∃ (j : Nat) (S' : Hd), x = (.tup [foldS i, gapS j], S') ∧ Bag p (c + 2) S' ∧ Le p S S') ?_ ?_
    · rw [show ∀ (es : E) env S, ev (run T (n + 1)) (.tup es) env S = (ev (run T (n + 1)) es env S).bind fun x => (argsOf x.1).bind fun ds => if ds.length ≤ most then some (.tup ds, x.2) else none from fun _ _ _ => rfl]
      rw [M_bind]
      rw [show ∀ (a b : E) env S, ev (run T (n + 1)) (.cons a (.cons b .nil)) env S = (ev (run T (n + 1)) a env S).bind fun x => (ev (run T (n + 1)) (.cons b .nil) env x.2).bind fun y => (argsOf y.1).map fun ds => (.tup (x.1 :: ds), y.2) from fun _ _ _ _ => rfl]
      simp only [M_bind, M_map]
      refine var_M rfl (M_args1 (pickL (xs := [.str "ahead", .str "behind", .str "ahead", .str "behind", .str "refuse"]) rfl b1 (by simp_all? only []) rfl (by decide) (by decide) (by omega) fun z d S2 hz b2 l2 => ?_))
      have : ∃ j, d = gapS j := by
        match z, hz with
        | 0, h => exact ⟨0, by cases h; rfl⟩
        | 1, h => exact ⟨1, by cases h; rfl⟩
        | 2, h => exact ⟨0, by cases h; rfl⟩
        | 3, h => exact ⟨1, by cases h; rfl⟩
        | 4, h => exact ⟨2, by cases h; rfl⟩
        | _ + 5, h => cases h
      obtain ⟨j, rfl⟩ := this
      simp only [argsOf, M_some, show ([foldS i, gapS j] : List D).length ≤ most from (by show 2 ≤ most; decide), if_true]
      exact ⟨j, S2, rfl, b2, l1.trans l2⟩
    · rintro _ ⟨j, S', rfl, b, l⟩
      exact ⟨j, S', rfl, b, l⟩
  rintro _ ⟨j, S', rfl, b, l⟩
  simp? only []
  exact ⟨i, j, S', rfl, b, l⟩
end Lw

namespace Lw
open PySem L2 Ix
def MenuOk (ks : List Str) (ne : Prop) (w : Str) : Prop := w = "add" ∨ w = "read" ∨ w = "offset" ∨ (w = "find" ∧ ("reading" : Str) ∈ ks) ∨ (w = "edition" ∧ ne) ∨ (w = "plus" ∧ ("span" : Str) ∈ ks) ∨ (w = "less" ∧ ("reading" : Str) ∈ ks ∧ ("span" : Str) ∈ ks)
theorem grow {Γ : Fs} {i j : Nat} {ws us : List Str} {es : E} {env : Sl} {S : Hd} {Q : Out × Sl × Hd → Prop} (hv : env[i]? = some (some (.ref j))) (g : S[j]? = some (.lst (ws.map .str))) (he : ∀ S, ev Γ es env S = some (.tup (us.map .str), S)) (hl : ws.length + us.length ≤ 900)
    (hq : ∀ (k : Nat) (S' : Hd), S.length ≤ k → S'[k]? = some (.lst ((ws ++ us).map .str)) → Lq S S' → Q (.nx, env.set i (some (.ref k)), S')) : M (ex Γ (.asg (.name i) (.bin .add (.var i) (.lst es))) env S) Q := by
  have hm := most_big
  refine asg_M (M_bin (var_M hv ?_))
  simp_all? only [he, show (us.map D.str).length ≤ most from (by rw [List.length_map]; omega)]
  rw [q_addL (Lq.app S [O.lst (us.map .str)] _ _ g) get_new (by simp; omega)]
  simp only [al_eq, M_some]
  exact hq _ _ (by simp) (by rw [get_new, List.map_append]) ((Lq.app _ _).trans (Lq.app _ _))
theorem words_open_ok {n r t : Nat} {S : Hd} {ks : List Str} {plan : List Dd} {left : Int} (gr : S[r]? = some (.lst (ks.map .str))) (gt : S[t]? = some (.lst (plan.map ddD))) (h8 : plan.length ≤ 8) :
    M (run T (n + 1) 123 [.ref r, .ref t, .int left, .bl true] S) fun x => ∃ (j : Nat) (ws : List Str) (S' : Hd), x = (.ref j, S') ∧ S.length ≤ j ∧ S'[j]? = some (.lst (ws.map .str)) ∧ (∀ w ∈ ws, MenuOk ks (plan.filter isEd = []) w) ∧ 0 < ws.length ∧ ws.length ≤ 20 ∧ Lq S S' := by
  have hm := most_big
  refine run_M T_words_open rfl ?_
  show M (ex (run T n) b_words_open [some (.ref r), some (.ref t), some (.int left), some (.bl true), none, none] S) _
  unfold b_words_open
  let W (k : Nat) (v5 : Option D) (env : Sl) (S' : Hd) : Prop := ∃ (j : Nat) (ws : List Str), env = [some (.ref r), some (.ref t), some (.int left), some (.bl true), some (.ref j), v5] ∧ S.length ≤ j ∧ S'[j]? = some (.lst (ws.map .str)) ∧ (∀ w ∈ ws, MenuOk ks (plan.filter isEd = []) w) ∧ 0 < ws.length ∧ ws.length ≤ k ∧ Lq S S'
  have step : ∀ {Γ : Fs} {k : Nat} {v5 : Option D} {env : Sl} {S' : Hd} {us : List Str} {es : E}, W k v5 env S' → k ≤ 16 → us.length ≤ 4 → (∀ env S, ev Γ es env S = some (.tup (us.map .str), S)) → (∀ w ∈ us, MenuOk ks (plan.filter isEd = []) w) →
      M (ex Γ (.asg (.name 4) (.bin .add (.var 4) (.lst es))) env S') fun x => x.1 = .nx ∧ W (k + 4) v5 x.2.1 x.2.2 := by
    rintro Γ k v5 _ S' us es ⟨j, ws, rfl, sj, g, h1, h0, h2, l⟩ hk hu he hw
    refine grow rfl g (he _) (by omega) fun k' S2 sk g2 l2 => ⟨rfl, k', ws ++ us, rfl, by have := l.len; omega, g2, fun w hw2 => ?_, by simp; omega, by simp; omega, l.trans l2⟩
    rcases List.mem_append.mp hw2 with q | q
    · exact h1 w q
    · exact hw w q
  refine seq_M (W 1 none) ?_ ?_
  · simp? only [show (1 : Nat) ≤ most by decide]
    exact ⟨trivial, S.length, ["add"], rfl, Nat.le_refl _, get_new, by simp [MenuOk], by simp, by simp, Lq.app _ _⟩
  intro env S1 w1
  refine seq_M (fun env S2 => ∃ v5, W 13 v5 env S2) ?_ ?_
  · have w1' := w1
    obtain ⟨j, ws, rfl, sj, g, h1, h0, h2, l⟩ := w1
    refine ite_B (B := decide (0 < left)) (by simp_all? only []) (fun _ => ?_) fun _ => ⟨_, rfl, rfl, none, j, ws, rfl, sj, g, h1, h0, by omega, l⟩
    refine seq_M (W 5 none) (step w1' (by decide) (us := ["read", "read", "offset"]) (by decide) (fun _ _ => by simp_all? only []; rfl) (by simp [MenuOk])) ?_
    intro env S2 w2
    refine seq_M (W 9 none) ?_ ?_
    · have w2' := w2
      obtain ⟨j, ws, rfl, sj, g, h1, h0, h2, l⟩ := w2
      refine ite_B (B := decide (("reading" : Str) ∈ ks)) (by simp_all? only [in_strs (l _ _ gr)]) (fun h => ?_) fun _ => ⟨_, rfl, rfl, j, ws, rfl, sj, g, h1, h0, by omega, l⟩
      simp only [decide_eq_true_eq] at h
      exact step w2' (by decide) (us := ["find", "find", "find"]) (by decide) (fun _ _ => by simp_all? only []; rfl) (by simp [MenuOk, h])
    intro env S3 w3
    have w3' := w3
    obtain ⟨j, ws, rfl, sj, g, h1, h0, h2, l⟩ := w3
    refine ite_M (tst_M (M_and (var_M rfl ⟨rfl, M_cmpd ?_⟩)))
    refine M_lcx plan ddD isEd ddD (by decide) ?_ (by omega) (fun d S4 hd l4 => ⟨_, rfl, ?_⟩) fun jj S4 hj g4 l4 => ?_
    · simp_all? only []
      exact ⟨_, _, rfl, Lq.refl _, fun S2 l2 => q_seqL (l2 _ _ (l _ _ gt))⟩
    · simp_all? only [wipeD, dd_0, q_eqS, wd_ed]
      exact ⟨trivial, Lq.refl _, fun _ => ⟨trivial, Lq.refl _⟩⟩
    · simp_all? only [show (0 : Nat) ≤ most by decide]
      rw [eq_nil_dd (Lq.app S4 [O.lst []] _ _ g4) get_new, M_some]
      refine ⟨_, rfl, ?_⟩
      have l5 := l4.trans (Lq.app S4 [O.lst []])
      have w5 : W 9 none [some (.ref r), some (.ref t), some (.int left), some (.bl true), some (.ref j), none] (S4 ++ [.lst []]) := ⟨j, ws, rfl, sj, l5 _ _ g, h1, h0, h2, l.trans l5⟩
      by_cases he : plan.filter isEd = []
      · simp only [he, decide_true, if_true]
        refine (step w5 (by decide) (us := ["edition"]) (by decide) (fun _ _ => by simp_all? only []; rfl) (by simp [MenuOk, he])).imp ?_
        rintro x ⟨e, w⟩
        exact ⟨e, none, w⟩
      · simp only [he, decide_false, Bool.false_eq_true, if_false]
        refine ⟨_, rfl, rfl, none, ?_⟩
        obtain ⟨j, ws, e1, e2, e3, e4, e5, e6, e7⟩ := w5
        exact ⟨j, ws, e1, e2, e3, e4, e5, by omega, e7⟩
  rintro env S2 ⟨v5, w2⟩
  refine seq_M (fun env S3 => W 20 v5 env S3) ?_ ?_
  · have w2' := w2
    obtain ⟨j, ws, rfl, sj, g, h1, h0, h2, l⟩ := w2
    refine ite_B (B := decide (("span" : Str) ∈ ks)) (by simp_all? only [in_strs (l _ _ gr)]) (fun h => ?_) fun _ => ⟨_, rfl, rfl, j, ws, rfl, sj, g, h1, h0, by omega, l⟩
    simp only [decide_eq_true_eq] at h
    refine seq_M (W 15 v5) ?_ ?_
    · refine (grow rfl g (us := ["plus"]) (fun _ => by simp_all? only []; rfl) (by simp; omega) fun k' S2 sk g2 l2 => ⟨rfl, k', ws ++ [("plus" : Str)], rfl, by have := l.len; omega, g2, fun w hw2 => ?_, by simp, by simp; omega, l.trans l2⟩)
      rcases List.mem_append.mp hw2 with q | q
      · exact h1 w q
      · rw [List.mem_singleton.mp q]
        simp [MenuOk, h]
    intro env S3 w3
    have w3' := w3
    obtain ⟨j, ws, rfl, sj, g, h1, h0, h2, l⟩ := w3
    refine ite_B (B := decide (("reading" : Str) ∈ ks)) (by simp_all? only [in_strs (l _ _ gr)]) (fun hr => ?_) fun _ => ⟨_, rfl, rfl, j, ws, rfl, sj, g, h1, h0, by omega, l⟩
    simp only [decide_eq_true_eq] at hr
    refine (step w3' (by decide) (us := ["less", "less"]) (by decide) (fun _ _ => by simp_all? only []; rfl) (by simp [MenuOk, h, hr])).imp ?_
    rintro x ⟨e, j, ws, e1, e2, e3, e4, e5, e6, e7⟩
    exact ⟨e, j, ws, e1, e2, e3, e4, e5, by omega, e7⟩
  rintro _ S3 ⟨j, ws, rfl, sj, g, h1, h0, h2, l⟩
  simp? only []
  exact ⟨j, ws, S3, rfl, sj, g, h1, h0, h2, l⟩
end Lw

namespace Lw
open PySem L2 Ix
/-! ### a drawn step, a drawn tale -/
def minsOk (ms : List Int) : Prop := 0 < ms.length ∧ ms.length ≤ 900 ∧ ∀ m ∈ ms, -100000 ≤ m ∧ m ≤ 100000
theorem draw_step_ok {n p c r q m : Nat} {S : Hd} {ks ws : List Str} {ms : List Int} {nz : Nat} {ne : Prop} (hS : Bag p c S) (hc : c ≤ 800000) (rp : r ≠ p) (qp : q ≠ p) (mp : m ≠ p) (gr : S[r]? = some (.lst (ks.map .str))) (hl : ks.length ≤ 20) (hm0 : ("moment" : Str) ∈ ks)
    (gq : S[q]? = some (.lst (ws.map .str))) (hw : ∀ w ∈ ws, MenuOk ks ne w) (w0 : 0 < ws.length) (w1 : ws.length ≤ 20) (gm : S[m]? = some (.lst (ms.map .int))) (hms : minsOk ms) (z1 : 1 ≤ nz) (z2 : nz ≤ 2) :
    M (run T (n + 3) 124 [.ref p, .int (nz : Int), .ref r, .ref q, .ref m] S) fun x => ∃ (d : Dd) (S' : Hd), x = (ddD d, S') ∧ okD nz ks d ∧ (isEd d = true → ne) ∧ Bag p (c + 20) S' ∧ Le p S S' := by
  have hm := most_big
  obtain ⟨mz0, mz1, mok⟩ := hms
  refine run_M T_draw_step rfl ?_
  show M (ex (run T (n + 2)) b_draw_step [some (.ref p), some (.int (nz : Int)), some (.ref r), some (.ref q), some (.ref m), none, none, none] S) _
  unfold b_draw_step
  refine seq_M (fun env S1 => ∃ w : Str, w ∈ ws ∧ env = [some (.ref p), some (.int (nz : Int)), some (.ref r), some (.ref q), some (.ref m), some (.str w), none, none] ∧ Bag p (c + 1) S1 ∧ Le p S S1) ?_ ?_
  · refine asg_M (pickV (jv := 3) (iv := 0) rfl rfl gq qp hS (by rw [List.length_map]; omega) (by rw [List.length_map]; omega) (by omega) fun z d S1 hz b1 l1 => ?_)
    obtain ⟨w, hw1, hw2, rfl⟩ := map_get hz
    exact ⟨rfl, w, hw2, rfl, b1, l1⟩
  rintro _ S1 ⟨w, hwm, rfl, b1, l1⟩
  have wok := hw w hwm
  -- the table of what is wanted
  refine seq_M (fun env S2 => ∃ a b e : Nat, env = [some (.ref p), some (.int (nz : Int)), some (.ref r), some (.ref q), some (.ref m), some (.str w), some (.ref S1.length), none] ∧ S2[S1.length]? = some (.dct [(.inr "find", .ref a), (.inr "less", .ref b), (.inr "add", .ref e)]) ∧
      S2[a]? = some (.lst (([("reading" : Str)]).map .str)) ∧ S2[b]? = some (.lst (([("reading" : Str)]).map .str)) ∧ S2[e]? = some (.lst (([("moment" : Str), "reading"]).map .str)) ∧ Bag p (c + 1) S2 ∧ Le p S S2) ?_ ?_
  · refine asg_M (M_dct ?_)
    simp_all? only [show (1 : Nat) ≤ most by decide, show (2 : Nat) ≤ most by decide]
    have l0 := Lq.app S1 [O.dct []]
    generalize hA : S1 ++ [O.dct []] = A at l0
    have lA := Lq.app A [O.lst [D.str "reading"]]
    have gA : (A ++ [O.lst [D.str "reading"]])[A.length]? = some (O.lst [D.str "reading"]) := get_new
    have nA : A.length = S1.length + 1 := by rw [← hA]; simp
    generalize hB : A ++ [O.lst [D.str "reading"]] = B at lA gA
    have nB : B.length = A.length + 1 := by rw [← hB]; simp
    have lB := Lq.app B [O.lst [D.str "reading"]]
    have gB : (B ++ [O.lst [D.str "reading"]])[B.length]? = some (O.lst [D.str "reading"]) := get_new
    generalize hC : B ++ [O.lst [D.str "reading"]] = C at lB gB
    have nC : C.length = B.length + 1 := by rw [← hC]; simp
    have lC := Lq.app C [O.lst [D.str "moment", D.str "reading"]]
    have gC : (C ++ [O.lst [D.str "moment", D.str "reading"]])[C.length]? = some (O.lst [D.str "moment", D.str "reading"]) := get_new
    generalize hE : C ++ [O.lst [D.str "moment", D.str "reading"]] = F at lC gC
    have l4 : Lq S1 F := l0.trans (lA.trans (lB.trans lC))
    have ls : ∀ o, Lq S1 (F.set S1.length o) := fun o => l4.set (Nat.le_refl _)
    refine ⟨_, [(.inr "find", .ref A.length), (.inr "less", .ref B.length), (.inr "add", .ref C.length)], rfl, rfl, (by show (([.inr "find", .inr "less", .inr "add"] : List Key)).Nodup; decide), (by show 3 ≤ 15; decide), lA.trans (lB.trans lC), trivial, A.length, B.length, C.length, trivial, ?_, ?_, ?_, ?_, b1.lq (ls _), l1.trans (ls _).le⟩
    · have := l4.len
      have := lt_of_get gC
      exact List.getElem?_set_self (by omega)
    · rw [List.getElem?_set_ne (by omega)]; exact lC _ _ (lB _ _ gA)
    · rw [List.getElem?_set_ne (by omega)]; exact lC _ _ gB
    · rw [List.getElem?_set_ne (by omega)]; exact gC
  rintro _ S2 ⟨a, b, e, rfl, gd, ga, gb, ge, b2, l2⟩
  have hd : isDct S2 (.ref S1.length) = true := by simp only [isDct, gd]
  have gr2 := l2.at rp gr
  -- the first place
  refine seq_M (fun env S3 => ∃ v : Nat, env = [some (.ref p), some (.int (nz : Int)), some (.ref r), some (.ref q), some (.ref m), some (.str w), some (.ref S1.length), some (.int (v : Int))] ∧ (w = "add" → ∃ k, ks[v]? = some k ∧ k ≠ "span") ∧ ((w = "find" ∨ w = "less") → ks[v]? = some ("reading" : Str)) ∧
      ((w = "read" ∨ w = "offset" ∨ w = "edition" ∨ w = "plus") → ks[v]? = some ("moment" : Str)) ∧ Bag p (c + 3) S3 ∧ Le p S S3) ?_ ?_
  · refine asg_M (M_call3 (var_M rfl (var_M rfl ?_)))
    have fin : ∀ {j : Nat} {S3 : Hd} {us : List Str}, S3[j]? = some (.lst (us.map .str)) → Lq S2 S3 → (∃ k ∈ ks, k ∈ us) → ((w = "add" → ∀ k ∈ us, k ≠ "span") ∧ ((w = "find" ∨ w = "less") → ∀ k ∈ us, k = "reading") ∧ ((w = "read" ∨ w = "offset" ∨ w = "edition" ∨ w = "plus") → ∀ k ∈ us, k = "moment")) →
        M (run T (n + 2) 119 [.ref p, .ref r, .ref j] S3) fun x => (Out.nx, ([some (.ref p), some (.int (nz : Int)), some (.ref r), some (.ref q), some (.ref m), some (.str w), some (.ref S1.length), none] : Sl).set 7 (some x.1), x.2).1 = Out.nx ∧ ∃ v : Nat, ([some (.ref p), some (.int (nz : Int)), some (.ref r), some (.ref q), some (.ref m), some (.str w), some (.ref S1.length), none] : Sl).set 7 (some x.1) = [some (.ref p), some (.int (nz : Int)), some (.ref r), some (.ref q), some (.ref m), some (.str w), some (.ref S1.length), some (.int (v : Int))] ∧ (w = "add" → ∃ k, ks[v]? = some k ∧ k ≠ "span") ∧ ((w = "find" ∨ w = "less") → ks[v]? = some ("reading" : Str)) ∧
          ((w = "read" ∨ w = "offset" ∨ w = "edition" ∨ w = "plus") → ks[v]? = some ("moment" : Str)) ∧ Bag p (c + 3) x.2 ∧ Le p S x.2 := by
      intro j S3 us g l3 hk ⟨u1, u2, u3⟩
      refine (draw_spot_ok (n := n) (b2.lq l3) (by omega) rp (l3 _ _ gr2) g hl hk).imp ?_
      rintro _ ⟨v, S4, rfl, ⟨k, k1, k2⟩, b4, l4⟩
      exact ⟨rfl, v, rfl, fun h => ⟨k, k1, u1 h k k2⟩, fun h => by rw [k1, u2 h k k2], fun h => by rw [k1, u3 h k k2], b4, l2.trans (l3.le.trans l4)⟩
    refine M.imp (P := fun x => ∃ (j : Nat) (us : List Str), x.1 = .ref j ∧ x.2[j]? = some (.lst (us.map .str)) ∧ Lq S2 x.2 ∧ (∃ k ∈ ks, k ∈ us) ∧ ((w = "add" → ∀ k ∈ us, k ≠ "span") ∧ ((w = "find" ∨ w = "less") → ∀ k ∈ us, k = "reading") ∧ ((w = "read" ∨ w = "offset" ∨ w = "edition" ∨ w = "plus") → ∀ k ∈ us, k = "moment"))) ?_ ?_
    · have gd' : (S2 ++ [O.lst [D.str "moment"]])[S1.length]? = _ := Lq.app S2 [O.lst [D.str "moment"]] _ _ gd
      have ll := Lq.app S2 [O.lst [D.str "moment"]]
      simp_all? only [hd, show (1 : Nat) ≤ most by decide, getdD, gd', keyD, Option.map_some, M_some]
      rcases wok with rfl | rfl | rfl | ⟨rfl, hr⟩ | ⟨rfl, _⟩ | ⟨rfl, _⟩ | ⟨rfl, hr, _⟩
      · exact ⟨e, _, rfl, ll _ _ ge, ll, ⟨"moment", hm0, by simp⟩, fun _ k hk => by simp at hk; rcases hk with rfl | rfl <;> decide, fun h => by rcases h with h | h <;> exact absurd h (by decide), fun h => by rcases h with h | h | h | h <;> exact absurd h (by decide)⟩
      · exact ⟨_, [("moment" : Str)], rfl, get_new, ll, ⟨"moment", hm0, by simp⟩, fun h => absurd h (by decide), fun h => by rcases h with h | h <;> exact absurd h (by decide), fun _ k hk => by simpa using hk⟩
      · exact ⟨_, [("moment" : Str)], rfl, get_new, ll, ⟨"moment", hm0, by simp⟩, fun h => absurd h (by decide), fun h => by rcases h with h | h <;> exact absurd h (by decide), fun _ k hk => by simpa using hk⟩
      · exact ⟨a, _, rfl, ll _ _ ga, ll, ⟨"reading", hr, by simp⟩, fun h => absurd h (by decide), fun _ k hk => by simpa using hk, fun h => by rcases h with h | h | h | h <;> exact absurd h (by decide)⟩
      · exact ⟨_, [("moment" : Str)], rfl, get_new, ll, ⟨"moment", hm0, by simp⟩, fun h => absurd h (by decide), fun h => by rcases h with h | h <;> exact absurd h (by decide), fun _ k hk => by simpa using hk⟩
      · exact ⟨_, [("moment" : Str)], rfl, get_new, ll, ⟨"moment", hm0, by simp⟩, fun h => absurd h (by decide), fun h => by rcases h with h | h <;> exact absurd h (by decide), fun _ k hk => by simpa using hk⟩
      · exact ⟨b, _, rfl, ll _ _ gb, ll, ⟨"reading", hr, by simp⟩, fun h => absurd h (by decide), fun _ k hk => by simpa using hk, fun h => by rcases h with h | h | h | h <;> exact absurd h (by decide)⟩
    · rintro ⟨_, S3⟩ ⟨j, us, rfl, g, l3, hk, hu⟩
      exact fin g l3 hk hu
  rintro _ S3 ⟨v, rfl, hadd, hread, hmom, b3, l3⟩
  have gm3 := l3.at mp gm
  have gr3 := l3.at rp gr
  -- add
  refine seq_Mx (ite_B (B := decide (w = "add")) (by simp_all? only [q_eqS]) (fun h => ?_) fun hna => ?_)
  · simp only [decide_eq_true_eq] at h
    obtain ⟨k, hk, hns⟩ := hadd h
    subst h
    simp? only [q_len (q_seqL gm3), List.length_map]
    refine (pick2_ok b3 (by omega) (by omega) (by omega)).imp ?_
    rintro _ ⟨z, S4, rfl, z0, z1', b4, l4⟩
    obtain ⟨x, _, xm, hx⟩ := atI_ints (ns := ms) z0 z1'
    simp? only [q_ixL (l4.at mp gm3), hx, show (3 : Nat) ≤ most by decide]
    exact ⟨.add v x, S4, rfl, ⟨⟨k, hk, hns⟩, (mok x xm).1, (mok x xm).2⟩, (fun h => by cases h), b4.mono (by omega), l3.trans l4⟩
  simp only [decide_eq_false_iff_not] at hna
  rw [show ∀ env, ex (run T (n + 2)) .skip env S3 = some (.nx, env, S3) from fun _ => rfl]
  simp only [M_some]
  refine seq_Mx (ite_M ?_)
  simp_all? only [show (2 : Nat) ≤ most by decide]
  rw [in_strs (ks := ["plus", "less"]) (by simp)]
  simp_all? only []
  have l3' : Le p S (S3 ++ [O.lst [D.str "plus", D.str "less"]]) := l3.trans (Le.app _ _ _)
  have b3' := b3.app [O.lst [D.str "plus", D.str "less"]]
  generalize S3 ++ [O.lst [D.str "plus", D.str "less"]] = S4 at l3' b3'
  have gr4 := l3'.at rp gr
  by_cases hpl : w ∈ (["plus", "less"] : List Str)
  · simp only [hpl, decide_true, if_true]
    have hsp : ("span" : Str) ∈ ks := by
      simp at hpl
      rcases hpl with rfl | rfl
      · rcases wok with h | h | h | ⟨h, _⟩ | ⟨h, _⟩ | ⟨_, h⟩ | ⟨h, _⟩ <;> first | exact h | exact absurd h (by decide)
      · rcases wok with h | h | h | ⟨h, _⟩ | ⟨h, _⟩ | ⟨h, _⟩ | ⟨_, _, h⟩ <;> first | exact h | exact absurd h (by decide)
    simp? only [show (1 : Nat) ≤ most by decide]
    refine (draw_spot_ok (n := n) (b3'.app [O.lst [D.str "span"]]) (by omega) rp (Lq.app _ _ _ _ gr4) (q := S4.length) (ws := [("span" : Str)]) get_new hl ⟨"span", hsp, by simp⟩).imp ?_
    rintro _ ⟨y, S5, rfl, ⟨k, k1, k2⟩, b5, l5⟩
    have k2 : k = "span" := by simpa using k2
    subst k2
    simp? only [show (3 : Nat) ≤ most by decide]
    have ll : Le p S S5 := l3'.trans ((Le.app _ _ _).trans l5)
    simp at hpl
    rcases hpl with rfl | rfl
    · exact ⟨.plus v y, S5, rfl, ⟨hmom (.inr (.inr (.inr rfl))), k1⟩, (fun h => by cases h), b5.mono (by omega), ll⟩
    · exact ⟨.less v y, S5, rfl, ⟨hread (.inr rfl), k1⟩, (fun h => by cases h), b5.mono (by omega), ll⟩
  simp only [hpl, decide_false, Bool.false_eq_true, if_false]
  rw [show ∀ env, ex (run T (n + 2)) .skip env S4 = some (.nx, env, S4) from fun _ => rfl]
  simp only [M_some]
  refine seq_Mx (ite_B (B := decide (w = "find")) (by simp_all? only [q_eqS]) (fun h => ?_) fun hnf => ?_)
  · simp only [decide_eq_true_eq] at h
    subst h
    simp? only []
    refine (pick2_ok b3' (by omega) (by omega) (by omega)).imp ?_
    rintro _ ⟨z, S5, rfl, z0, z1', b5, l5⟩
    simp? only [show (3 : Nat) ≤ most by decide]
    refine (rule_ok (n := n) b5 (by omega)).imp ?_
    rintro _ ⟨i, j, S6, rfl, b6, l6⟩
    rw [q_addT (xs := [.str "find", .int (v : Int), .int z]) (ys := [foldS i, gapS j]) (show 3 + 2 ≤ most by decide)]
    simp? only []
    refine ⟨.find v z.toNat i j, S6, ?_, ⟨hread (.inl rfl), by omega⟩, (fun h => by cases h), b6.mono (by omega), l3'.trans (l5.trans l6)⟩
    have : ((z.toNat : Nat) : Int) = z := by omega
    simp only [ddD, this]
    rfl
  simp only [decide_eq_false_iff_not] at hnf
  rw [show ∀ env, ex (run T (n + 2)) .skip env S4 = some (.nx, env, S4) from fun _ => rfl]
  simp only [M_some]
  simp? only []
  refine (pick2_ok b3' (by omega) (by omega) (by omega)).imp ?_
  rintro _ ⟨z, S5, rfl, z0, z1', b5, l5⟩
  simp? only [show (3 : Nat) ≤ most by decide]
  have ez : ((z.toNat : Nat) : Int) = z := by omega
  simp at hpl
  rcases wok with h | rfl | rfl | ⟨h, _⟩ | ⟨rfl, hne⟩ | ⟨h, _⟩ | ⟨h, _⟩
  · exact absurd h hna
  · exact ⟨.read v z.toNat, S5, by simp only [ddD, ez], ⟨hmom (.inl rfl), by omega⟩, (fun h => by cases h), b5.mono (by omega), l3'.trans l5⟩
  · exact ⟨.offset v z.toNat, S5, by simp only [ddD, ez], ⟨hmom (.inr (.inl rfl)), by omega⟩, (fun h => by cases h), b5.mono (by omega), l3'.trans l5⟩
  · exact absurd h hnf
  · exact ⟨.edition v z.toNat, S5, by simp only [ddD, ez], ⟨hmom (.inr (.inr (.inl rfl))), by omega⟩, fun _ => hne, b5.mono (by omega), l3'.trans l5⟩
  · exact absurd h hpl.1
  · exact absurd h hpl.2
end Lw

namespace Lw
open PySem L2 Ix
theorem Bag.set {p c k : Nat} {S : Hd} {o : O} (h : Bag p c S) (n : k ≠ p) : Bag p c (S.set k o) := by
  obtain ⟨x, y, z, e, r⟩ := h
  exact ⟨x, y, z, by rw [List.getElem?_set_ne n]; exact e, r⟩
theorem _root_.Ix.Le.setN {p k : Nat} {S0 S : Hd} {o : O} (l : Le p S0 S) (h : S0.length ≤ k) : Le p S0 (S.set k o) := fun j u nj e => by
  have := lt_of_get e
  rw [List.getElem?_set_ne (by omega)]
  exact l j u nj e
theorem _root_.Ix.Le.len {p : Nat} {S S' : Hd} (l : Le p S S') (hp : p < S'.length) : S.length ≤ S'.length := by
  rcases Nat.lt_or_ge S'.length S.length with h | h
  · have e := l S'.length _ (by omega) (List.getElem?_eq_getElem h)
    have := lt_of_get e
    omega
  · exact h
theorem draw_tale_ok {n p c m : Nat} {S : Hd} {ms : List Int} {nz : Nat} {size left : Int} (hS : Bag p c S) (hc : c ≤ 700000) (mp : m ≠ p) (gm : S[m]? = some (.lst (ms.map .int))) (hms : minsOk ms) (z1 : 1 ≤ nz) (z2 : nz ≤ 2) (s0 : 0 ≤ size) (s8 : size ≤ 8) :
    M (run T (n + 4) 125 [.ref p, .int (nz : Int), .int size, .int left, .bl true, .ref m, .tup []] S) fun x => ∃ (plan : List Dd) (S' : Hd), x = (planD plan, S') ∧ Valid nz plan ∧ Bag p (c + 200) S' ∧ Le p S S' := by
  have hm := most_big
  have pl := hS.lt
  refine run_M T_draw_tale rfl ?_
  show M (ex (run T (n + 3)) b_draw_tale [some (.ref p), some (.int (nz : Int)), some (.int size), some (.int left), some (.bl true), some (.ref m), some (.tup []), none, none, none, none] S) _
  unfold b_draw_tale
  refine seq_M (fun env S1 => env = [some (.ref p), some (.int (nz : Int)), some (.int size), some (.int left), some (.bl true), some (.ref m), some (.tup []), some (.ref S.length), none, none, none] ∧ S1 = S ++ [.lst []]) ?_ ?_
  · simp? only [q_list q_seqT]
    exact ⟨trivial, trivial, trivial⟩
  rintro _ _ ⟨rfl, rfl⟩
  refine seq_M (fun env S1 => ∃ r : Nat, env = [some (.ref p), some (.int (nz : Int)), some (.int size), some (.int left), some (.bl true), some (.ref m), some (.tup []), some (.ref S.length), some (.ref r), none, none] ∧ S.length < r ∧ S1[r]? = some (.lst ((rowOf []).map .str)) ∧ S1[S.length]? = some (.lst []) ∧ Bag p c S1 ∧ Le p S S1) ?_ ?_
  · refine asg_M (M_call1 ?_)
    simp_all? only []
    refine (kinds_in_ok (n := n + 1) (nz := nz) (plan := []) ⟨fun t d h => by simp at h, by decide, by decide⟩).imp ?_
    rintro _ ⟨r, S1, rfl, hr, g, l⟩
    exact ⟨trivial, r, rfl, by simp at hr; omega, g, l _ _ get_new, (hS.app _).lq l, (Le.app _ _ _).trans l.le⟩
  rintro _ S1 ⟨r, rfl, hr, gr, gt, b1, l1⟩
  refine seq_M (fun env S2 => ∃ (plan : List Dd) (left : Int) (v9 v10 : Option D), env = [some (.ref p), some (.int (nz : Int)), some (.int size), some (.int left), some (.bl true), some (.ref m), some (.tup []), some (.ref S.length), some (.ref r), v9, v10] ∧ Valid nz plan ∧ S2[S.length]? = some (.lst (plan.map ddD)) ∧ Bag p (c + 200) S2 ∧ Le p S S2) ?_ ?_
  · refine for_M ?_
    obtain ⟨N, hN⟩ : ∃ N : Nat, size = (N : Int) := ⟨size.toNat, by omega⟩
    have ir : ∀ S2, items .range1 [.int (size - 0)] S2 = some ((List.range N).map fun (i : Nat) => .int (0 + (i : Int))) := fun S2 => by rw [Int.sub_zero, hN, i_rng (by omega) (by omega), Int.toNat_natCast]
    simp_all? only [q_len q_seqT]
    refine ⟨_, _, rfl, ir _, ?_⟩
    refine M_loopS (m := 0) (fun i env S2 => ∃ (plan : List Dd) (left : Int) (v9 v10 : Option D), env = [some (.ref p), some (.int (nz : Int)), some (.int size), some (.int left), some (.bl true), some (.ref m), some (.tup []), some (.ref S.length), some (.ref r), v9, v10] ∧ (∀ (t : Nat) (d : Dd), plan[t]? = some d → okD nz (rowOf (plan.take t)) d) ∧ plan.length ≤ i ∧ (plan.filter isEd).length ≤ 1 ∧
      S2[r]? = some (.lst ((rowOf plan).map .str)) ∧ S2[S.length]? = some (.lst (plan.map ddD)) ∧ Bag p (c + 20 * i) S2 ∧ Le p S S2) ⟨[], left, none, none, rfl, (fun t d h => by simp at h), Nat.le_refl _, by simp, gr, gt, b1, l1⟩ ?_ ?_
    · rintro i x env S2 hi ⟨plan, left, v9, v10, rfl, hv, hpl, he, gr2, gt2, b2, l2⟩
      obtain ⟨i', hi', _, rfl⟩ := map_get hi
      have il := (List.getElem?_eq_some_iff.mp hi').1
      rw [List.length_range] at il
      simp only [Nat.zero_add] at hpl b2 ⊢
      simp only [asgG, Option.bind_some, List.set_cons_succ, List.set_cons_zero]
      have rl := rowOf_len plan
      have tp : S.length ≠ p := by omega
      have rp : r ≠ p := by omega
      refine seq_M (fun env S3 => ∃ d : Dd, env = [some (.ref p), some (.int (nz : Int)), some (.int size), some (.int left), some (.bl true), some (.ref m), some (.tup []), some (.ref S.length), some (.ref r), some (.int (0 + (i' : Int))), some (ddD d)] ∧ okD nz (rowOf plan) d ∧ (isEd d = true → plan.filter isEd = []) ∧ Bag p (c + 20 * i + 20) S3 ∧ Le p S2 S3) ?_ ?_
      · simp? only []
        refine (words_open_ok (n := n + 2) (left := left) gr2 gt2 (by omega)).imp ?_
        rintro _ ⟨j, ws, S3, rfl, sj, gj, hw, w0, w1, l3⟩
        simp? only []
        have b3 := b2.lq l3
        have ps := b2.lt
        refine (draw_step_ok (n := n) b3 (by omega) rp (show j ≠ p by omega) mp (l3 _ _ gr2) (by omega) (rowOf_mom plan) gj hw w0 w1 (l3 _ _ (l2.at mp gm)) hms z1 z2).imp ?_
        rintro _ ⟨d, S4, rfl, od, ed, b4, l4⟩
        exact ⟨trivial, d, rfl, od, ed, b4, l3.le.trans l4⟩
      rintro _ S3 ⟨d, rfl, od, ed, b3, l3⟩
      have gr3 := l3.at rp gr2
      have gt3 := l3.at tp gt2
      have ls3 := l2.trans l3
      refine seq_M (fun env S4 => ∃ left : Int, env = [some (.ref p), some (.int (nz : Int)), some (.int size), some (.int left), some (.bl true), some (.ref m), some (.tup []), some (.ref S.length), some (.ref r), some (.int (0 + (i' : Int))), some (ddD d)] ∧ Lq S3 S4) ?_ ?_
      · simp? only [dd_0, show (4 : Nat) ≤ most by decide]
        rw [in_strs (ks := ["read", "find", "offset", "edition"]) (by simp)]
        simp? only []
        exact ⟨trivial, _, rfl, Lq.app _ _⟩
      rintro _ S4 ⟨left2, rfl, l4⟩
      have gr4 := l4 _ _ gr3
      have gt4 := l4 _ _ gt3
      refine seq_M (fun env S5 => env = [some (.ref p), some (.int (nz : Int)), some (.int size), some (.int left2), some (.bl true), some (.ref m), some (.tup []), some (.ref S.length), some (.ref r), some (.int (0 + (i' : Int))), some (ddD d)] ∧ S5[r]? = some (.lst ((rowOf (plan ++ [d])).map .str)) ∧ S5[S.length]? = some (.lst (plan.map ddD)) ∧ Bag p (c + 20 * i + 20) S5 ∧ Le p S S5) ?_ ?_
      · simp? only [q_isL gr4]
        refine (sort_behind_ok (n := n + 2) gr4 od).use fun S5 l5 => ?_
        simp? only [q_app (l5 _ _ gr4) (show ((rowOf plan).map D.str).length < most by rw [List.length_map]; omega)]
        refine ⟨trivial, trivial, ?_, ?_, ((b3.lq l4).lq l5).set rp, ((ls3.trans l4.le).trans l5.le).setN (by omega)⟩
        · rw [rowOf_snoc, List.map_append]
          exact List.getElem?_set_self (lt_of_get (l5 _ _ gr4))
        · rw [List.getElem?_set_ne (by omega)]
          exact l5 _ _ gt4
      rintro _ S5 ⟨rfl, gr5, gt5, b5, l5⟩
      simp? only [q_isL gt5, q_app gt5 (show (plan.map ddD).length < most by rw [List.length_map]; omega)]
      refine ⟨ir _, plan ++ [d], left2, _, _, rfl, valid_snoc hv od, by simp; omega, ?_, ?_, ?_, (b5.set tp).mono (by omega), l5.setN (Nat.le_refl _)⟩
      · rw [List.filter_append]
        cases hi2 : isEd d
        · simp [List.filter_cons, hi2]; exact he
        · simp [List.filter_cons, hi2, ed hi2]
      · rw [List.getElem?_set_ne (by omega)]
        exact gr5
      · rw [List.map_append]
        exact List.getElem?_set_self (lt_of_get gt5)
    · rintro env S2 ⟨plan, left, v9, v10, rfl, hv, hpl, he, gr2, gt2, b2, l2⟩
      simp only [Nat.zero_add, List.length_map, List.length_range] at hpl b2
      exact ⟨rfl, plan, left, v9, v10, rfl, ⟨hv, by omega, he⟩, gt2, b2.mono (by omega), l2⟩
  rintro _ S2 ⟨plan, left, v9, v10, rfl, hv, gt2, b2, l2⟩
  simp? only [q_tupL gt2]
  exact ⟨plan, S2, rfl, hv, b2, l2⟩
theorem hours_in_ok {n nz : Nat} {S : Hd} {plan : List Dd} (hv : Valid nz plan) : M (run T (n + 3) 126 [planD plan] S) fun x => ∃ (j : Nat) (L : List Nat) (S' : Hd), x = (.ref j, S') ∧ S.length ≤ j ∧ S'[j]? = some (.lst (L.map fun (v : Nat) => .int (v : Int))) ∧ (∀ v ∈ L, ∃ k, (rowOf plan)[v]? = some k ∧ k ≠ "span") ∧ 0 < L.length ∧ L.length ≤ 9 ∧ Lq S S' := by
  have hm := most_big
  have h8 := hv.short
  have rl := rowOf_len plan
  refine run_M T_hours_in rfl ?_
  show M (ex (run T (n + 2)) b_hours_in [some (planD plan), none, none] S) _
  unfold b_hours_in
  refine seq_M (fun env S1 => ∃ r : Nat, env = [some (planD plan), some (.ref r), none] ∧ S1[r]? = some (.lst ((rowOf plan).map .str)) ∧ Lq S S1) ?_ ?_
  · refine asg_M (M_call1 (var_M rfl ?_))
    refine (kinds_in_ok (n := n) hv).imp ?_
    rintro _ ⟨r, S1, rfl, hr, g, l⟩
    exact ⟨rfl, r, rfl, g, l⟩
  rintro _ S1 ⟨r, rfl, g, l1⟩
  let ks := rowOf plan
  let L := (List.range ks.length).filter fun i => !decide (ks.getD i "" = "span")
  have kg : ∀ {i : Nat}, i < ks.length → ks[i]? = some (ks.getD i "") := fun {i} h => by rw [List.getD_eq_getElem?_getD, List.getElem?_eq_getElem h]; rfl
  have Lmem : ∀ v ∈ L, ∃ k, ks[v]? = some k ∧ k ≠ "span" := fun v hv => by
    obtain ⟨h1, h2⟩ := List.mem_filter.mp hv
    exact ⟨_, kg (List.mem_range.mp h1), by simpa using h2⟩
  have L0 : 0 ∈ L := by
    refine List.mem_filter.mpr ⟨List.mem_range.mpr (by show 0 < (rowOf plan).length; omega), ?_⟩
    have e : ks.getD 0 "" = "moment" := by
      show (rowOf plan).getD 0 "" = "moment"
      unfold rowOf
      generalize hk : (["moment"] : List Str) = k0
      have : ∀ (pl : List Dd) (k : List Str), 0 < k.length → (pl.foldl (fun ks d => ks ++ [kdO ks d]) k).getD 0 "" = k.getD 0 "" := by
        intro pl
        induction pl with
        | nil => intro k _; rfl
        | cons d pl ih =>
          intro k hk
          rw [List.foldl_cons, ih _ (by simp)]
          simp only [List.getD_eq_getElem?_getD]
          rw [List.getElem?_append_left hk]
      rw [this plan k0 (by rw [← hk]; simp), ← hk]
      rfl
    rw [e]
    decide
  have Llen : L.length ≤ 9 := Nat.le_trans (List.length_filter_le _ _) (by rw [List.length_range]; show (rowOf plan).length ≤ 9; omega)
  refine M.imp (P := fun x => ∃ (j : Nat) (S' : Hd), x = (.ret (.ref j), [some (planD plan), some (.ref r), none], S') ∧ S1.length ≤ j ∧ S'[j]? = some (.lst (L.map fun (v : Nat) => .int (v : Int))) ∧ Lq S1 S') (ret_M (M_lcx (List.range ks.length) (fun (i : Nat) => .int (0 + (i : Int))) (fun i => !decide (ks.getD i "" = "span")) (fun (i : Nat) => .int (i : Int)) (by decide) ?_ (by rw [List.length_range]; show (rowOf plan).length < most; omega) (fun i S2 hi l2 => ?_) fun j S2 hj gj l2 => ⟨j, S2, rfl, hj, gj, l2⟩)) ?_
  · simp_all? only [q_len (q_seqL g), List.length_map]
    refine ⟨_, _, rfl, Lq.refl _, fun S2 _ => ?_⟩
    rw [i_rng (by omega) (by omega), Int.toNat_natCast]
  · have il := List.mem_range.mp hi
    have ai : atI ((rowOf plan).map D.str) (0 + (i : Int)) = some (.str (ks.getD i "")) := by
      rw [Int.zero_add]
      exact str_at (kg il)
    refine ⟨_, rfl, ?_⟩
    simp only [wipeD, ev, M_bind, M_map, M_some, M_ite, t_eq, a_tup, al_eq, List.getElem?_cons_zero, List.getElem?_cons_succ, Option.bind_some, Option.map_some, q_add, q_sub, q_lt, q_le, q_gt, q_ge, q_eqI, q_neI, q_eqB, q_neB, q_isN, q_notN, Ix.isNon, q_ixT, q_ixR, atI_0, atI_1, atI_2, atI_3, atI_4, atI_5, atI_6, atI_7, q_slT, q_slR, q_revT, q_seqT, q_int, q_intB, q_max, q_min, q_abs, q_tupT, n_tup, n_int, n_bl, n_non, n_str, isi_ii, isi_ib, isi_tt, isi_itl, isi_btl, isi_ttl, isi_tl, isi_bb, u_bl, u_int, u_non, u_tup, g_name, g_tup, g_nil, g_cons, o_ret, o_nx, i_seq, List.set_cons_zero, List.set_cons_succ, decide_eq_true_eq, Bool.not_eq_true', decide_eq_false_iff_not, evP, Bool.false_eq_true, if_true, if_false, ite_true, ite_false, reduceIte, Bool.not_true, Bool.not_false, Option.some.injEq, q_pow10, Int.reduceToNat, Int.reducePow, Int.reduceAdd, Int.reduceSub, Int.reduceMul, Int.reduceNeg, Int.reduceLT, Int.reduceLE, Nat.reducePow, Nat.reduceLT, Nat.reduceLeDiff, Nat.reduceAdd, List.length_cons, List.length_nil, Int.neg_neg, q_ixL (l2 _ _ g), ai, q_neS]
    refine ⟨trivial, Lq.refl _, fun _ => ?_⟩
    simp only [Int.zero_add]
    exact ⟨trivial, Lq.refl _⟩
  rintro _ ⟨j, S', rfl, hj, gj, l⟩
  simp? only []
  exact ⟨j, L, S', rfl, by have := l1.len; omega, gj, Lmem, List.length_pos_iff.mpr (fun e => by rw [e] at L0; cases L0), Llen, l1.trans l⟩
end Lw

namespace Lw
open PySem L2 Ix
abbrev OffsOk (os : List Int) : Prop := Zone os 1000000
theorem offs1 {a : Int} (h0 : -900 ≤ a) (h1 : a ≤ 900) : OffsOk [a] := ⟨by simp, by simp, by simp, by simp; omega, by simp; omega, by simp, by omega⟩
theorem offs2 {a b : Int} (h0 : -900 ≤ a) (h : a < b) (h1 : b ≤ 900) : OffsOk [a, b] := ⟨by simp, by simp, by simp; omega, by simp; omega, by simp; omega, by simp; omega, by omega⟩
theorem offs3 {a b d : Int} (h0 : -900 ≤ a) (h : a < b) (h2 : b < d) (h1 : d ≤ 900) : OffsOk [a, b, d] := ⟨by simp, by simp, by simp; omega, by simp; omega, by simp; omega, by simp; omega, by omega⟩
theorem draw_shifts_ok {n p c : Nat} {S : Hd} (hS : Bag p c S) (hc : c ≤ 800000) : M (run T (n + 2) 127 [.ref p] S) fun x => ∃ (os : List Int) (S' : Hd), x = (.tup (os.map .int), S') ∧ OffsOk os ∧ Bag p (c + 10) S' ∧ Le p S S' := by
  have hm := most_big
  refine run_M T_draw_shifts rfl ?_
  show M (ex (run T (n + 1)) b_draw_shifts [some (.ref p), none, none, none, none, none, none] S) _
  unfold b_draw_shifts
  refine seq_M (fun env S1 => ∃ w : Int, env = [some (.ref p), some (.int w), none, none, none, none, none] ∧ 0 ≤ w ∧ w < 8 ∧ Bag p (c + 1) S1 ∧ Le p S S1) ?_ ?_
  · simp? only []
    refine (pick2_ok hS (by omega) (by decide) (by decide)).imp ?_
    rintro _ ⟨w, S1, rfl, w0, w1, b1, l1⟩
    exact ⟨trivial, w, rfl, w0, w1, b1, l1⟩
  rintro _ S1 ⟨w, rfl, w0, w1, b1, l1⟩
  let A : List (List Int) := [[0, 60], [-900, 900], [-900, -899], [0]]
  let B : List (List Int) := [[-660, -600, 840], [-1, 0, 1], [899, 900], [0, 1, 900]]
  refine seq_M (fun env S2 => ∃ j : Nat, env = [some (.ref p), some (.int w), some (.ref j), none, none, none, none] ∧ j ≠ p ∧ S2[j]? = some (.lst (A.map fun os => .tup (os.map .int))) ∧ Bag p (c + 1) S2 ∧ Le p S S2) ?_ ?_
  · simp? only [show (2 : Nat) ≤ most by decide, show (1 : Nat) ≤ most by decide, show (4 : Nat) ≤ most by decide]
    exact ⟨trivial, _, rfl, b1.ne, get_new, b1.app _, l1.trans (Le.app _ _ _)⟩
  rintro _ S2 ⟨j, rfl, jp, gj, b2, l2⟩
  refine seq_M (fun env S3 => ∃ j : Nat, env = [some (.ref p), some (.int w), some (.ref j), none, none, none, none] ∧ j ≠ p ∧ S3[j]? = some (.lst ((A ++ B).map fun os => .tup (os.map .int))) ∧ Bag p (c + 1) S3 ∧ Le p S S3) ?_ ?_
  · refine asg_M (M_bin (var_M rfl ?_))
    simp_all? only [show (3 : Nat) ≤ most by decide, show (2 : Nat) ≤ most by decide, show (1 : Nat) ≤ most by decide, show (4 : Nat) ≤ most by decide]
    show M (binD Bo.add (D.ref j) (D.ref S2.length) (S2 ++ [O.lst (B.map fun os => D.tup (os.map D.int))])) _
    rw [q_addL (Lq.app S2 [O.lst (B.map fun os => .tup (os.map .int))] _ _ gj) get_new (by show 4 + 4 ≤ most; decide)]
    simp only [al_eq, M_some]
    have b3 := (b2.app [O.lst (B.map fun os => .tup (os.map .int))])
    exact ⟨trivial, _, rfl, b3.ne, by rw [get_new, List.map_append], b3.app _, l2.trans ((Le.app _ _ _).trans (Le.app _ _ _))⟩
  rintro _ S3 ⟨j, rfl, jp, gj, b3, l3⟩
  refine seq_Mx (ite_B (B := decide (w < 2)) (by simp_all? only []) (fun _ => ?_) fun hw => ?_)
  · simp? only []
    refine (pick2_ok b3 (by omega) (by decide) (by decide)).imp ?_
    rintro _ ⟨z, S4, rfl, z0, z1, b4, l4⟩
    have hz : z.toNat < (A ++ B).length := by show z.toNat < 8; omega
    have ai : atI ((A ++ B).map fun os => D.tup (os.map .int)) z = some (.tup (((A ++ B)[z.toNat]).map .int)) := by
      rw [atI_lt z0 (by rw [List.length_map]; show z < 8; omega), List.getElem?_map, List.getElem?_eq_getElem hz]
      rfl
    simp? only [q_ixL (l4.at jp gj), ai]
    refine ⟨_, S4, rfl, ?_, b4.mono (by omega), l3.trans l4⟩
    have hm2 : (A ++ B)[z.toNat] ∈ A ++ B := List.getElem_mem hz
    generalize (A ++ B)[z.toNat] = os at hm2
    simp only [A, B, List.cons_append, List.nil_append, List.mem_cons, List.not_mem_nil, or_false] at hm2
    rcases hm2 with rfl | rfl | rfl | rfl | rfl | rfl | rfl | rfl
    · exact offs2 (by decide) (by decide) (by decide)
    · exact offs2 (by decide) (by decide) (by decide)
    · exact offs2 (by decide) (by decide) (by decide)
    · exact offs1 (by decide) (by decide)
    · exact offs3 (by decide) (by decide) (by decide) (by decide)
    · exact offs3 (by decide) (by decide) (by decide) (by decide)
    · exact offs2 (by decide) (by decide) (by decide)
    · exact offs3 (by decide) (by decide) (by decide) (by decide)
  rw [show ∀ env, ex (run T (n + 1)) .skip env S3 = some (.nx, env, S3) from fun _ => rfl]
  simp only [M_some]
  refine seq_M (fun env S4 => ∃ x : Int, env = [some (.ref p), some (.int w), some (.ref j), some (.int x), none, none, none] ∧ 1 ≤ x ∧ x ≤ 1800 ∧ Bag p (c + 2) S4 ∧ Le p S S4) ?_ ?_
  · refine asg_M (pickL (xs := ([1, 2, 60, 30, 7, 1440, 1800] : List Int).map .int) rfl b3 (by simp_all? only []; rfl) rfl (by decide) (by decide) (by omega) fun z d S4 hz b4 l4 => ?_)
    obtain ⟨x, _, xm, rfl⟩ := map_get hz
    simp only [List.mem_cons, List.not_mem_nil, or_false] at xm
    exact ⟨rfl, x, rfl, by omega, by omega, b4, l3.trans l4⟩
  rintro _ S4 ⟨x, rfl, x0, x1, b4, l4⟩
  refine seq_M (fun env S5 => ∃ lo : Int, env = [some (.ref p), some (.int w), some (.ref j), some (.int x), some (.int lo), none, none] ∧ -900 ≤ lo ∧ lo ≤ 900 ∧ Bag p (c + 3) S5 ∧ Le p S S5) ?_ ?_
  · simp? only []
    refine (pick2_ok b4 (by omega) (by decide) (by decide)).imp ?_
    rintro _ ⟨z, S5, rfl, z0, z1, b5, l5⟩
    exact ⟨_, rfl, trivial, _, rfl, by omega, by omega, b5, l4.trans l5⟩
  rintro _ S5 ⟨lo, rfl, lo0, lo1, b5, l5⟩
  refine seq_M (fun env S6 => ∃ hi : Int, env = [some (.ref p), some (.int w), some (.ref j), some (.int x), some (.int lo), some (.int hi), none] ∧ hi ≤ 900 ∧ (lo < hi ∨ hi = 900) ∧ hi ≤ lo + 1801 ∧ Bag p (c + 4) S6 ∧ Le p S S6) ?_ ?_
  · simp? only []
    refine (pick2_ok b5 (by omega) (by omega) (by omega)).imp ?_
    rintro _ ⟨z, S6, rfl, z0, z1, b6, l6⟩
    simp? only []
    refine ⟨trivial, _, rfl, ?_, ?_, ?_, b6, l5.trans l6⟩ <;> split <;> omega
  rintro _ S6 ⟨hi, rfl, h1, h2, h3, b6, l6⟩
  refine seq_M (fun env S7 => ∃ mi : Int, env = [some (.ref p), some (.int w), some (.ref j), some (.int x), some (.int lo), some (.int hi), some (.int mi)] ∧ Bag p (c + 5) S7 ∧ Le p S S7) ?_ ?_
  · simp? only []
    obtain ⟨k, hk, k0, k1⟩ : ∃ k, (if hi - lo - 1 > 1 then hi - lo - 1 else 1) = k ∧ 0 < k ∧ k < 2 ^ 62 := ⟨_, rfl, by split <;> omega, by split <;> omega⟩
    rw [hk]
    refine (pick2_ok b6 (by omega) k0 k1).imp ?_
    rintro _ ⟨z, S7, rfl, z0, z1, b7, l7⟩
    simp? only []
    exact ⟨trivial, _, rfl, b7, l6.trans l7⟩
  rintro _ S7 ⟨mi, rfl, b7, l7⟩
  have b7' := b7.mono (show c + 5 ≤ c + 10 by omega)
  refine seq_Mx (ite_B (B := decide (w = 7) && decide (lo < mi ∧ mi < hi)) (and_ev (by simp_all? only []) ?_) (fun hb => ?_) fun _ => ?_)
  · simp_all? only []
    by_cases h : lo < mi
    · simp only [h, decide_true, true_and]
    · simp only [h, decide_false, false_and]
  · simp only [Bool.and_eq_true, decide_eq_true_eq] at hb
    simp? only [show (3 : Nat) ≤ most by decide]
    exact ⟨[lo, mi, hi], S7, rfl, offs3 lo0 hb.2.1 hb.2.2 h1, b7', l7⟩
  rw [show ∀ env, ex (run T (n + 1)) .skip env S7 = some (.nx, env, S7) from fun _ => rfl]
  simp only [M_some]
  by_cases hlh : lo < hi
  · by_cases hw2 : 2 < w
    · simp? only [hlh, hw2, decide_true, show (2 : Nat) ≤ most by decide]
      exact ⟨[lo, hi], S7, rfl, offs2 lo0 hlh h1, b7', l7⟩
    · simp? only [hlh, hw2, decide_true, decide_false, show (1 : Nat) ≤ most by decide]
      exact ⟨[lo], S7, rfl, offs1 lo0 lo1, b7', l7⟩
  · simp? only [hlh, decide_false, show (1 : Nat) ≤ most by decide]
    exact ⟨[lo], S7, rfl, offs1 lo0 lo1, b7', l7⟩
theorem draw_apart_ok {n p c : Nat} {S : Hd} {os : List Int} (ho : OffsOk os) (hS : Bag p c S) (hc : c ≤ 800000) : M (run T (n + 2) 128 [.ref p, .tup (os.map .int)] S) fun x => ∃ (sp : Int) (S' : Hd), x = (.int sp, S') ∧ Zone os sp ∧ Bag p (c + 10) S' ∧ Le p S S' := by
  have hm := most_big
  obtain ⟨a, b, ha, hb, e0, e1, hab⟩ := ends ho.len1 ho.len3 ho.asc
  have ab := hab a ha
  have la := ho.lo a ha
  have ub := ho.hi b hb
  refine run_M T_draw_apart rfl ?_
  show M (ex (run T (n + 1)) b_draw_apart [some (.ref p), some (.tup (os.map .int)), none, none] S) _
  unfold b_draw_apart
  refine seq_M (fun env S1 => env = [some (.ref p), some (.tup (os.map .int)), some (.int (b - a + 1)), none] ∧ S = S1) ?_ ?_
  · simp? only [e0, e1]
    exact ⟨trivial, trivial, trivial⟩
  rintro _ _ ⟨rfl, rfl⟩
  refine seq_M (fun env S1 => ∃ (j : Nat) (xs : List Int), env = [some (.ref p), some (.tup (os.map .int)), some (.int (b - a + 1)), some (.ref j)] ∧ j ≠ p ∧ S1[j]? = some (.lst (xs.map .int)) ∧ xs.length = 7 ∧ (∀ x ∈ xs, x ≤ 1000000) ∧ Bag p (c + 2) S1 ∧ Le p S S1) ?_ ?_
  · simp? only []
    refine (pick2_ok hS (by omega) (by decide) (by decide)).imp ?_
    rintro _ ⟨y, S1, rfl, y0, y1, b1, l1⟩
    simp? only []
    refine (pick2_ok b1 (by omega) (by decide) (by decide)).imp ?_
    rintro _ ⟨z, S2, rfl, z0, z1, b2, l2⟩
    simp? only [q_mul (i := 2) (j := b - a + 1) (by decide) (by decide) (by omega) (by omega), show (7 : Nat) ≤ most by decide]
    refine ⟨trivial, _, [b - a + 1, b - a + 1, b - a + 1 + y, b - a + 1 + z, 2 * (b - a + 1), 1440, 1000000], rfl, b2.ne, get_new, rfl, ?_, b2.app _, l1.trans (l2.trans (Le.app _ _ _))⟩
    simp only [List.mem_cons, List.not_mem_nil, or_false]
    omega
  rintro _ S1 ⟨j, xs, rfl, jp, gj, xl, xb, b1, l1⟩
  refine seq_M (fun env S2 => ∃ (j : Nat) (xs : List Int), env = [some (.ref p), some (.tup (os.map .int)), some (.int (b - a + 1)), some (.ref j)] ∧ j ≠ p ∧ S2[j]? = some (.lst (xs.map .int)) ∧ xs.length = 9 ∧ (∀ x ∈ xs, x ≤ 1000000) ∧ Bag p (c + 4) S2 ∧ Le p S S2) ?_ ?_
  · refine asg_M (M_bin (var_M rfl ?_))
    simp_all? only []
    refine (pick2_ok b1 (by omega) (by decide) (by decide)).imp ?_
    rintro _ ⟨y, S2, rfl, y0, y1, b2, l2⟩
    simp_all? only []
    refine (pick2_ok b2 (by omega) (by decide) (by decide)).imp ?_
    rintro _ ⟨z, S3, rfl, z0, z1, b3, l3⟩
    simp_all? only [show (2 : Nat) ≤ most by decide]
    have gj3 := l3.at jp (l2.at jp gj)
    rw [q_addL (Lq.app S3 [O.lst [D.int (1 + y), .int (100000 + z)]] _ _ gj3) get_new (by simp; omega)]
    simp only [al_eq, M_some]
    have b4 := b3.app [O.lst [D.int (1 + y), .int (100000 + z)]]
    refine ⟨trivial, _, xs ++ [1 + y, 100000 + z], rfl, b4.ne, by rw [get_new, List.map_append]; rfl, by simp; omega, fun x hx => ?_, b4.app _, l1.trans (l2.trans (l3.trans ((Le.app _ _ _).trans (Le.app _ _ _))))⟩
    rcases List.mem_append.mp hx with q | q
    · exact xb x q
    · simp only [List.mem_cons, List.not_mem_nil, or_false] at q
      omega
  rintro _ S2 ⟨j, xs, rfl, jp, gj, xl, xb, b2, l2⟩
  simp? only []
  refine (pick2_ok b2 (by omega) (by decide) (by decide)).imp ?_
  rintro _ ⟨z, S3, rfl, z0, z1, b3, l3⟩
  obtain ⟨x, _, xm, hx⟩ := atI_ints (ns := xs) z0 (by omega)
  have := xb x xm
  simp? only [q_ixL (l3.at jp gj), hx]
  obtain ⟨k, hk, k0, k1⟩ : ∃ k, (if x > b - a + 1 then x else b - a + 1) = k ∧ b - a < k ∧ k ≤ 1000000 := ⟨_, rfl, by split <;> omega, by split <;> omega⟩
  rw [hk]
  refine ⟨k, S3, rfl, ⟨ho.len1, ho.len3, ho.asc, ho.lo, ho.hi, fun x hx y hy => ?_, k1⟩, b3.mono (by omega), l2.trans l3⟩
  have h1 := hab x hx
  have h2 := hab y hy
  omega
end Lw

namespace Lw
open PySem L2 Ix
def zD (z : List Int × Int) : D := zoneD z.1 z.2
theorem drop_M {Γ : Fs} {e : E} {env : Sl} {S : Hd} {Q : Out × Sl × Hd → Prop} (h : M (ev Γ e env S) fun x => Q (.nx, env, x.2)) : M (ex Γ (.drop e) env S) Q := by
  simp only [ex, M_map]
  exact h
theorem M_app {Γ : Fs} {i : Nat} {e : E} {env : Sl} {S : Hd} {d : D} {Q : D × Hd → Prop} (hv : env[i]? = some (some d)) (hl : isLst S d = true) (h : M (ev Γ e env S) fun y => M (methD .append d [y.1] y.2) Q) : M (ev Γ (.meth .append (.var i) (.cons e .nil)) env S) Q := by
  simp only [ev, hv, Option.bind_some, hl, if_true, M_bind, M_map, argsOf, Option.map_some, M_some]
  exact h
theorem M_iteE {Γ : Fs} {c a b : E} {env : Sl} {S : Hd} {Q : D × Hd → Prop} (h : M (tst (ev Γ c env S)) fun t => if t.1 = true then M (ev Γ a env t.2) Q else M (ev Γ b env t.2) Q) : M (ev Γ (.ite c a b) env S) Q := by
  simp only [ev, M_bind, M_ite]
  exact h
theorem draw_fields_ok {n p c N : Nat} {S : Hd} (hS : Bag p c S) (hc : c ≤ 700000) (n1 : 1 ≤ N) (n2 : N ≤ 2) : M (run T (n + 3) 129 [.ref p, .int (N : Int), .int 3] S) fun x => ∃ (zs : Zs) (S' : Hd), x = (beltsD zs, S') ∧ Belts zs ∧ Bag p (c + 100) S' ∧ Le p S S' := by
  have hm := most_big
  have pl := hS.lt
  refine run_M T_draw_fields rfl ?_
  show M (ex (run T (n + 2)) b_draw_fields [some (.ref p), some (.int (N : Int)), some (.int 3), none, none, none, none] S) _
  unfold b_draw_fields
  refine seq_M (fun env S1 => env = [some (.ref p), some (.int (N : Int)), some (.int 3), some (.ref S.length), none, none, none] ∧ S1 = S ++ [.lst []]) ?_ ?_
  · simp? only [show (0 : Nat) ≤ most by decide]
    exact ⟨trivial, trivial, trivial⟩
  rintro _ _ ⟨rfl, rfl⟩
  have fp : S.length ≠ p := by omega
  have ir : ∀ S2, items .range1 [.int (N : Int)] S2 = some ((List.range N).map fun (i : Nat) => .int (0 + (i : Int))) := fun S2 => by rw [i_rng (by omega) (by omega), Int.toNat_natCast]
  refine seq_M (fun env S2 => ∃ (zs : Zs) (v4 v5 v6 : Option D), env = [some (.ref p), some (.int (N : Int)), some (.int 3), some (.ref S.length), v4, v5, v6] ∧ zs.length = N ∧ (∀ z ∈ zs, Zone z.1 z.2) ∧ S2[S.length]? = some (.lst (zs.map zD)) ∧ Bag p (c + 100) S2 ∧ Le p S S2) ?_ ?_
  · refine for_M ?_
    simp_all? only []
    refine ⟨_, _, rfl, ir _, ?_⟩
    refine M_loopS (m := 0) (fun i env S2 => ∃ (zs : Zs) (v4 v5 v6 : Option D), env = [some (.ref p), some (.int (N : Int)), some (.int 3), some (.ref S.length), v4, v5, v6] ∧ zs.length = i ∧ (∀ z ∈ zs, Zone z.1 z.2) ∧ S2[S.length]? = some (.lst (zs.map zD)) ∧ Bag p (c + 30 * i) S2 ∧ Le p S S2) ⟨[], none, none, none, rfl, rfl, by simp, get_new, hS.app _, Le.app _ _ _⟩ ?_ ?_
    · rintro i x env S2 hi ⟨zs, v4, v5, v6, rfl, zl, hz, g, b, l⟩
      obtain ⟨i', hi', _, rfl⟩ := map_get hi
      have il := (List.getElem?_eq_some_iff.mp hi').1
      rw [List.length_range] at il
      have ii : i' = i := by
        rw [List.getElem?_range il] at hi'
        exact (Option.some.inj hi').symm
      subst ii
      simp only [Nat.zero_add] at zl b ⊢
      simp only [asgG, Option.bind_some, List.set_cons_succ, List.set_cons_zero]
      refine seq_M (fun env S3 => ∃ os : List Int, env = [some (.ref p), some (.int (N : Int)), some (.int 3), some (.ref S.length), some (.int (0 + (i' : Int))), some (.tup (os.map .int)), v6] ∧ OffsOk os ∧ S3[S.length]? = some (.lst (zs.map zD)) ∧ Bag p (c + 30 * i' + 10) S3 ∧ Le p S S3) ?_ ?_
      · simp? only []
        refine (draw_shifts_ok (n := n) b (by omega)).imp ?_
        rintro _ ⟨os, S3, rfl, ho, b3, l3⟩
        simp? only []
        refine ⟨trivial, os, ?_, ho, l3.at fp g, b3, l.trans l3⟩
        rw [show (some (3 : Int)) = some ((3 : Nat) : Int) from rfl, cut_to, List.take_of_length_le (by rw [List.length_map]; exact ho.len3)]
      rintro _ S3 ⟨os, rfl, ho, g3, b3, l3⟩
      -- perhaps the first field's offsets
      refine seq_M (fun env S4 => ∃ os : List Int, env = [some (.ref p), some (.int (N : Int)), some (.int 3), some (.ref S.length), some (.int (0 + (i' : Int))), some (.tup (os.map .int)), v6] ∧ OffsOk os ∧ S4[S.length]? = some (.lst (zs.map zD)) ∧ Bag p (c + 30 * i' + 11) S4 ∧ Le p S S4) ?_ ?_
      · have stay : ∀ {S4}, Bag p (c + 30 * i' + 11) S4 → Le p S3 S4 → M (ex (run T (n + 2)) .skip [some (.ref p), some (.int (N : Int)), some (.int 3), some (.ref S.length), some (.int (0 + (i' : Int))), some (.tup (os.map .int)), v6] S4) fun r => r.1 = .nx ∧ ∃ os : List Int, r.2.1 = [some (.ref p), some (.int (N : Int)), some (.int 3), some (.ref S.length), some (.int (0 + (i' : Int))), some (.tup (os.map .int)), v6] ∧ OffsOk os ∧ r.2.2[S.length]? = some (.lst (zs.map zD)) ∧ Bag p (c + 30 * i' + 11) r.2.2 ∧ Le p S r.2.2 :=
          fun b4 l4 => ⟨_, rfl, rfl, os, rfl, ho, l4.at fp g3, b4, l3.trans l4⟩
        refine ite_M (tst_M (M_andb ?_))
        by_cases h0 : i' = 0
        · subst h0
          simp_all? only [show ((0 : Int) < 0 + ((0 : Nat) : Int)) = False from eq_false (by decide), decide_false]
          refine .inr ⟨trivial, false, rfl, ?_⟩
          simp only [Bool.false_eq_true, if_false]
          exact stay (b3.mono (by omega)) (Le.refl _ _)
        · simp_all? only [show ((0 : Int) < 0 + (i' : Int)) = True from eq_true (by omega), decide_true]
          refine .inl ⟨trivial, ?_⟩
          refine (pick2_ok b3 (by omega) (by decide) (by decide)).imp ?_
          rintro _ ⟨z, S4, rfl, z0, z1, b4, l4⟩
          simp_all? only []
          refine ⟨_, rfl, ?_⟩
          by_cases hz0 : z = 0
          · simp only [hz0, decide_true, if_true]
            have g4 := l4.at fp g3
            cases hzs : zs with
            | nil => rw [hzs] at zl; exact absurd zl.symm h0
            | cons z1 zs1 =>
              rw [hzs] at g4
              simp only [List.map_cons] at g4
              simp? only [q_ixL g4]
              have zz : Zone z1.1 z1.2 := hz z1 (by rw [hzs]; exact List.mem_cons_self)
              simp? only [zD, zoneD]
              refine ⟨trivial, z1.1, rfl, ⟨zz.len1, zz.len3, zz.asc, zz.lo, zz.hi, fun x hx y hy => by have := zz.gap x hx y hy; have := zz.top; omega, by omega⟩, ?_, b4, l3.trans l4⟩
              rw [hzs] at g3
              exact l4.at fp g3
          · simp only [hz0, decide_false, Bool.false_eq_true, if_false]
            exact stay b4 l4
      rintro _ S4 ⟨os, rfl, ho, g4, b4, l4⟩
      refine seq_M (fun env S5 => ∃ sp : Int, env = [some (.ref p), some (.int (N : Int)), some (.int 3), some (.ref S.length), some (.int (0 + (i' : Int))), some (.tup (os.map .int)), some (zoneD os sp)] ∧ Zone os sp ∧ S5[S.length]? = some (.lst (zs.map zD)) ∧ Bag p (c + 30 * i' + 25) S5 ∧ Le p S S5) ?_ ?_
      · simp? only []
        refine (draw_apart_ok (n := n) ho b4 (by omega)).imp ?_
        rintro _ ⟨sp, S5, rfl, hz5, b5, l5⟩
        simp? only [show (2 : Nat) ≤ most by decide]
        exact ⟨trivial, sp, rfl, hz5, l5.at fp g4, b5.mono (by omega), l4.trans l5⟩
      rintro _ S5 ⟨sp, rfl, hz5, g5, b5, l5⟩
      have fin : ∀ {z : List Int × Int} {S6}, Zone z.1 z.2 → Bag p (c + 30 * i' + 26) S6 → Le p S5 S6 → M (methD .append (.ref S.length) [zD z] S6) fun a => items .range1 [.int (N : Int)] a.2 = some ((List.range N).map fun (i : Nat) => .int (0 + (i : Int))) ∧ ∃ (zs : Zs) (v4 v5' v6 : Option D), [some (.ref p), some (.int (N : Int)), some (.int 3), some (.ref S.length), some (.int (0 + (i' : Int))), some (.tup (os.map .int)), some (zoneD os sp)] = [some (.ref p), some (.int (N : Int)), some (.int 3), some (.ref S.length), v4, v5', v6] ∧ zs.length = i' + 1 ∧ (∀ z ∈ zs, Zone z.1 z.2) ∧ a.2[S.length]? = some (.lst (zs.map zD)) ∧ Bag p (c + 30 * (i' + 1)) a.2 ∧ Le p S a.2 := by
        intro z S6 hz6 b6 l6
        have g6 := l6.at fp g5
        rw [q_app g6 (by rw [List.length_map]; omega), M_some]
        refine ⟨ir _, zs ++ [z], _, _, _, rfl, by simp; omega, fun y hy => ?_, ?_, (b6.set fp).mono (by omega), (l5.trans l6).setN (Nat.le_refl _)⟩
        · rcases List.mem_append.mp hy with q | q
          · exact hz y q
          · rw [List.mem_singleton.mp q]; exact hz6
        · rw [List.map_append]
          exact List.getElem?_set_self (lt_of_get g6)
      have fin2 := fun S6 => fin (z := (os, sp)) (S6 := S6) hz5
      refine drop_M (M_app rfl (q_isL g5) (M_iteE ?_))
      refine tst_M (M_andb ?_)
      by_cases h0 : i' = 0
      · subst h0
        simp_all? only [show ((0 : Int) < 0 + ((0 : Nat) : Int)) = False from eq_false (by decide), decide_false]
        refine .inr ⟨trivial, false, rfl, ?_⟩
        simp only [Bool.false_eq_true, if_false]
        exact fin2 _ (b5.mono (by omega)) (Le.refl _ _)
      · simp_all? only [show ((0 : Int) < 0 + (i' : Int)) = True from eq_true (by omega), decide_true]
        refine .inl ⟨trivial, ?_⟩
        refine (pick2_ok b5 (by omega) (by decide) (by decide)).imp ?_
        rintro _ ⟨z, S6, rfl, z0, z1, b6, l6⟩
        simp_all? only []
        refine ⟨_, rfl, ?_⟩
        by_cases hz0 : z = 0
        · simp only [hz0, decide_true, if_true]
          have g6 := l6.at fp g5
          cases hzs : zs with
          | nil => rw [hzs] at zl; exact absurd zl.symm h0
          | cons z1 zs1 =>
            rw [hzs] at g6
            simp only [List.map_cons] at g6
            simp_all? only [q_ixL g6]
            have zz : Zone z1.1 z1.2 := hz z1 (by rw [hzs]; exact List.mem_cons_self)
            exact fin zz b6 l6
        · simp only [hz0, decide_false, Bool.false_eq_true, if_false]
          exact fin2 _ b6 l6
    · rintro env S2 ⟨zs, v4, v5, v6, rfl, zl, hz, g, b, l⟩
      rw [Nat.zero_add, List.length_map, List.length_range] at zl b
      exact ⟨rfl, zs, v4, v5, v6, rfl, zl, hz, g, b.mono (by omega), l⟩
  rintro _ S2 ⟨zs, v4, v5, v6, rfl, zl, hz, g, b, l⟩
  simp? only [q_tupL g]
  exact ⟨zs, S2, rfl, ⟨by omega, by omega, hz⟩, b, l⟩
end Lw

namespace Lw
open PySem L2 Ix
theorem minutes2_ok {n p c : Nat} {S : Hd} {zs : Zs} (hz : Belts zs) (hS : Bag p c S) (hc : c ≤ 800000) : M (run T (n + 2) 130 [.ref p, beltsD zs] S) fun x => ∃ (j : Nat) (ms : List Int) (S' : Hd), x = (.ref j, S') ∧ S.length ≤ j ∧ S'[j]? = some (.lst (ms.map .int)) ∧ ms.length = 8 ∧ (∀ m ∈ ms, -100000 ≤ m ∧ m ≤ 100000) ∧ Bag p (c + 30) S' ∧ Le p S S' := by
  have hm := most_big
  have zl1 := hz.l1
  have zl2 := hz.l2
  refine run_M T_minutes_2 rfl ?_
  show M (ex (run T (n + 1)) b_minutes_2 [some (.ref p), some (beltsD zs), none, none, none, none, none, none] S) _
  unfold b_minutes_2
  refine seq_M (fun env S1 => ∃ (os : List Int) (sp : Int), env = [some (.ref p), some (beltsD zs), some (zoneD os sp), none, none, none, none, none] ∧ Zone os sp ∧ Bag p (c + 1) S1 ∧ Le p S S1) ?_ ?_
  · have eb : ∀ S2, seqOf S2 (beltsD zs) = some (zs.map fun z => zoneD z.1 z.2) := fun S2 => rfl
    simp? only [q_len (eb _), List.length_map]
    refine (pick2_ok hS (by omega) (by omega) (by omega)).imp ?_
    rintro _ ⟨y, S1, rfl, y0, y1, p1, l1⟩
    obtain ⟨z, hz1⟩ : ∃ z, zs[y.toNat]? = some z := ⟨_, List.getElem?_eq_getElem (by omega)⟩
    have ai : ixD (beltsD zs) (.int y) S1 = some (zoneD z.1 z.2, S1) := by
      show (atI (zs.map fun z => zoneD z.1 z.2) y).map _ = _
      rw [atI_lt y0 (by rw [List.length_map]; omega), List.getElem?_map, hz1]
      rfl
    simp? only [ai]
    exact ⟨trivial, z.1, z.2, rfl, hz.zone z (List.mem_of_getElem? hz1), p1, l1⟩
  rintro _ S1 ⟨os, sp, rfl, hzo, b1, l1⟩
  obtain ⟨a, b, ha, hb, e0, e1, hab⟩ := ends hzo.len1 hzo.len3 hzo.asc
  have gp := hzo.gap a ha b hb
  have ab := hab a ha
  have la := hzo.lo a ha
  have ub := hzo.hi b hb
  have tp := hzo.top
  have z0 : ∀ S, ixD (zoneD os sp) (.int 0) S = some (.tup (os.map .int), S) := fun _ => rfl
  have z1 : ∀ S, ixD (zoneD os sp) (.int 1) S = some (.int sp, S) := fun _ => rfl
  refine seq_M (fun env S2 => env = [some (.ref p), some (beltsD zs), some (zoneD os sp), some (.int (b - a)), none, none, none, none] ∧ S1 = S2) ?_ ?_
  · simp? only [z0, e0, e1]
    exact ⟨trivial, trivial, trivial⟩
  rintro _ _ ⟨rfl, rfl⟩
  refine seq_M (fun env S2 => ∃ j : Nat, env = [some (.ref p), some (beltsD zs), some (zoneD os sp), some (.int (b - a)), some (.ref j), none, none, none] ∧ j ≠ p ∧ S2[j]? = some (.lst ([b - a, b - a - 1, b - a + 1, sp, sp - 1, sp + 1, sp - (b - a), 2 * sp].map .int)) ∧ Bag p (c + 1) S2 ∧ Le p S S2) ?_ ?_
  · simp? only [z1, q_mul (i := 2) (j := sp) (by decide) (by decide) (by omega) (by omega), show (8 : Nat) ≤ most by decide]
    exact ⟨trivial, _, rfl, b1.ne, get_new, b1.app _, l1.trans (Le.app _ _ _)⟩
  rintro _ S2 ⟨j, rfl, jp, gj, b2, l2⟩
  refine seq_M (fun env S3 => ∃ (j : Nat) (xs : List Int), env = [some (.ref p), some (beltsD zs), some (zoneD os sp), some (.int (b - a)), some (.ref j), none, none, none] ∧ j ≠ p ∧ S3[j]? = some (.lst (xs.map .int)) ∧ xs.length = 16 ∧ (∀ x ∈ xs, -4000000 ≤ x ∧ x ≤ 4000000) ∧ Bag p (c + 3) S3 ∧ Le p S S3) ?_ ?_
  · refine asg_M (M_bin (var_M rfl ?_))
    simp_all? only []
    refine (pick2_ok b2 (by omega) (by decide) (by decide)).imp ?_
    rintro _ ⟨y, S3, rfl, y0, y1, b3, l3⟩
    simp_all? only []
    refine (pick2_ok b3 (by omega) (by decide) (by decide)).imp ?_
    rintro _ ⟨z, S4, rfl, zz0, zz1, b4, l4⟩
    simp_all? only [z1, show (8 : Nat) ≤ most by decide]
    have gj4 := l4.at jp (l3.at jp gj)
    have ee : ([D.int 1, .int 0, .int 1440, .int 60, .int 100000, .int y, .int z, .int (sp - (b - a) - 1)] : List D) = ([1, 0, 1440, 60, 100000, y, z, sp - (b - a) - 1] : List Int).map .int := rfl
    rw [ee, q_addL (Lq.app S4 [O.lst (([1, 0, 1440, 60, 100000, y, z, sp - (b - a) - 1] : List Int).map .int)] _ _ gj4) get_new (by show 8 + 8 ≤ most; decide)]
    simp only [al_eq, M_some]
    have b5 := b4.app [O.lst (([1, 0, 1440, 60, 100000, y, z, sp - (b - a) - 1] : List Int).map .int)]
    refine ⟨trivial, _, [b - a, b - a - 1, b - a + 1, sp, sp - 1, sp + 1, sp - (b - a), 2 * sp] ++ [1, 0, 1440, 60, 100000, y, z, sp - (b - a) - 1], rfl, b5.ne, by rw [get_new, List.map_append], rfl, ?_, b5.app _, l2.trans (l3.trans (l4.trans ((Le.app _ _ _).trans (Le.app _ _ _))))⟩
    simp only [List.cons_append, List.nil_append, List.mem_cons, List.not_mem_nil, or_false]
    omega
  rintro _ S3 ⟨j, xs, rfl, jp, gj, xl, xb, b3, l3⟩
  have p3 := b3.lt
  refine seq_M (fun env S4 => ∃ (k : Nat) (ys : List Int), env = [some (.ref p), some (beltsD zs), some (zoneD os sp), some (.int (b - a)), some (.ref j), some (.ref k), none, none] ∧ k ≠ p ∧ S4[k]? = some (.lst (ys.map .int)) ∧ ys.length = 8 ∧ Bag p (c + 19) S4 ∧ Le p S S4) ?_ ?_
  · have ir : ∀ S2, items .range1 [.int 8] S2 = some ((List.range 8).map fun (i : Nat) => .int (0 + (i : Int))) := fun S2 => by rw [show (8 : Int) = ((8 : Nat) : Int) from rfl, i_rng (by omega) (by omega), Int.toNat_natCast]
    refine asg_M (M_lcI (List.range 8) (fun (i : Nat) => .int (0 + (i : Int))) (fun k i ys S2 => k ≠ p ∧ j ≠ k ∧ (∃ zs : List Int, ys = zs.map .int) ∧ S2[j]? = some (.lst (xs.map .int)) ∧ Bag p (c + 3 + 2 * i) S2 ∧ Le p S S2) (by decide) ?_ (by rw [List.length_range]; omega) fun k ys S2 yl gk ⟨kp, jk, ⟨zs', hzs⟩, gj2, b4, l4⟩ => ?_)
    · simp_all? only []
      have jl := lt_of_get gj
      refine ⟨_, _, rfl, ir _, ⟨b3.ne, by omega, ⟨[], rfl⟩, Lq.app _ _ _ _ gj, b3.app _, l3.trans (Le.app _ _ _)⟩, fun i x ys S4 hx yl gk ⟨kp, jk, ⟨zs', hzs⟩, gj2, b4, l4⟩ => ⟨_, rfl, ?_⟩⟩
      have iN := (List.getElem?_eq_some_iff.mp hx).1
      rw [List.length_range] at iN
      simp? only [wipeD]
      refine (pick2_ok b4 (by omega) (by decide) (by decide)).imp ?_
      rintro _ ⟨y, S5, rfl, y0, y1, b5, l5⟩
      have gj5 := l5.at jp gj2
      obtain ⟨x', _, xm, hx'⟩ := atI_ints (ns := xs) y0 (by omega)
      have xbb := xb x' xm
      simp? only [q_ixL gj5, hx', show (2 : Nat) ≤ most by decide]
      refine (pick2_ok (b5.app _) (by omega) (by decide) (by decide)).imp ?_
      rintro _ ⟨w, S6, rfl, w0, w1, b6, l6⟩
      have gw := l6.at b5.ne get_new
      have ww : w = 0 ∨ w = 1 := by omega
      have ai : ∃ s : Int, atI [D.int 1, D.int (-1)] w = some (.int s) ∧ (s = 1 ∨ s = -1) := by
        rcases ww with rfl | rfl
        · exact ⟨1, rfl, .inl rfl⟩
        · exact ⟨-1, rfl, .inr rfl⟩
      obtain ⟨s, hs, s1⟩ := ai
      simp? only [q_ixL gw, hs, q_mul (i := x') (j := s) (by omega) (by omega) (by omega) (by omega)]
      have gk6 := l6.at kp (Lq.app S5 [O.lst [D.int 1, D.int (-1)]] _ _ (l5.at kp gk))
      have gj6 := l6.at jp (Lq.app S5 [O.lst [D.int 1, D.int (-1)]] _ _ gj5)
      refine ⟨gk6, ir _, kp, jk, ⟨zs' ++ [x' * s], by rw [hzs, List.map_append]; rfl⟩, by rw [List.getElem?_set_ne jk.symm]; exact gj6, (b6.set kp).mono (by omega), ?_⟩
      have ll : Le p S S6 := l4.trans (l5.trans ((Le.app _ _ _).trans l6))
      have k0 : S3.length = S3.length := rfl
      have sl := l3.len p3
      exact ll.setN (by omega)
    · subst hzs
      rw [List.length_map, List.length_range] at yl
      exact ⟨rfl, k, zs', rfl, kp, gk, yl, b4.mono (by rw [List.length_range]; omega), l4⟩
  rintro _ S4 ⟨k, ys, rfl, kp, gk, yl, b4, l4⟩
  refine M.imp (P := fun x => ∃ (jj : Nat) (S' : Hd), x = (.ret (.ref jj), [some (.ref p), some (beltsD zs), some (zoneD os sp), some (.int (b - a)), some (.ref j), some (.ref k), none, none], S') ∧ S4.length ≤ jj ∧ S'[jj]? = some (.lst ((ys.map fun (y : Int) => (if (if y < 100000 then y else 100000) > -100000 then (if y < 100000 then y else 100000) else -100000)).map .int)) ∧ Lq S4 S') (ret_M (M_lcx ys .int (fun _ => true) (fun (y : Int) => .int (if (if y < 100000 then y else 100000) > -100000 then (if y < 100000 then y else 100000) else -100000)) (by decide) ?_ (by omega) (fun y S2 hy l2 => ⟨_, rfl, ?_⟩) fun jj S2 hj gj l2 => ⟨jj, S2, rfl, hj, by rw [filt_true] at gj; rw [List.map_map]; exact gj, l2⟩)) ?_
  · simp_all? only []
    exact ⟨_, _, rfl, Lq.refl _, fun S2 l2 => q_seqL (l2 _ _ gk)⟩
  · simp_all? only [wipeD]
    exact ⟨trivial, Lq.refl _, fun _ => ⟨trivial, Lq.refl _⟩⟩
  rintro _ ⟨jj, S', rfl, hj, gj', l5⟩
  simp? only []
  have sl := l4.len b4.lt
  refine ⟨jj, _, S', rfl, by omega, gj', by rw [List.length_map]; exact yl, fun m hm' => ?_, (b4.lq l5).mono (by omega), l4.trans l5.le⟩
  obtain ⟨y, _, rfl⟩ := List.mem_map.mp hm'
  constructor
  · split <;> split <;> omega
  · split <;> split <;> omega
end Lw

namespace Lw
open PySem L2 Ix
/-! ### the words of a row -/
def strOf : D → Str
  | .str z => z
  | .int i => toString i
  | _ => ""
def Part (d : D) : Prop := (∃ z : Str, d = .str z ∧ z.length ≤ 20) ∨ ∃ i : Int, d = .int i ∧ i.natAbs < 10 ^ 12
def joinP (xs : List D) : Str := Txt.join " " (xs.map strOf)
theorem part_len {d : D} (h : Part d) : (strOf d).length ≤ 20 := by
  rcases h with ⟨z, rfl, h⟩ | ⟨i, rfl, h⟩
  · exact h
  · have := PyData.shown_int_le h
    exact Nat.le_trans this (by decide)
theorem sum_le {xs : List Nat} {b : Nat} (h : ∀ x ∈ xs, x ≤ b) : xs.sum ≤ xs.length * b := by
  induction xs with
  | nil => simp
  | cons x xs ih =>
    have h1 := h x List.mem_cons_self
    have h2 := ih fun y hy => h y (List.mem_cons_of_mem _ hy)
    rw [List.sum_cons, List.length_cons, Nat.succ_mul]
    omega
theorem joinP_len {xs : List D} (h : ∀ x ∈ xs, Part x) : ((xs.map strOf).map (·.length)).sum ≤ xs.length * 20 := by
  have := sum_le (xs := (xs.map strOf).map (·.length)) (b := 20) fun x hx => by
    obtain ⟨y, hy, rfl⟩ := List.mem_map.mp hx
    obtain ⟨d, hd, rfl⟩ := List.mem_map.mp hy
    exact part_len (h d hd)
  simpa using this
theorem joinP_le {xs : List D} (h : ∀ x ∈ xs, Part x) : (joinP xs).length ≤ xs.length * 21 := by
  unfold joinP
  rw [TL.join_eq]
  have a := PySem.StrLaws.join_length_le " " (xs.map strOf)
  have b := joinP_len h
  have e : ((" " : Str)).length = 1 := rfl
  rw [e, List.length_map] at a
  omega
theorem str_part {S : Hd} {d : D} (h : Part d) : bltD .str_ [d] S = some (.str (strOf d), S) := by
  rcases h with ⟨z, rfl, _⟩ | ⟨i, rfl, h⟩
  · rfl
  · have : i.natAbs.log2 < 1920 := by
      have := log2_le (n := i.natAbs) 64 (Nat.lt_of_lt_of_le h (by decide)) (by decide)
      omega
    exact if_pos this
/-- ' '.join([str(x) for x in row]) -/
theorem join_row {n iv k : Nat} {xs : List D} {env : Sl} {S : Hd} {Q : D × Hd → Prop} (hv : env[iv]? = some (some (.tup xs))) (hk : k < env.length) (h : ∀ x ∈ xs, Part x) (hl : xs.length ≤ 20) (hq : ∀ S', Lq S S' → Q (.str (joinP xs), S')) :
    M (ev (run T n) (.joinS " " (.lc .seq (.cons (.var iv) .nil) (.name k) (.c (.bl true)) (.blt .str_ (.cons (.var k) (.nil))) [k])) env S) Q := by
  have hm := most_big
  rw [show ∀ (z : Str) (a : E) env S, ev (run T n) (.joinS z a) env S = (ev (run T n) a env S).bind fun x => joinD z x.1 x.2 from fun _ _ _ _ => rfl, M_bind]
  refine M_lcx xs id (fun _ => true) (fun d => .str (strOf d)) (by simp [gOk]) ?_ (by omega) (fun d S2 hd l2 => ⟨_, rfl, ?_⟩) fun j S2 hj gj l2 => ?_
  · simp_all? only [hv]
    exact ⟨_, _, rfl, Lq.refl _, fun S2 _ => by rw [List.map_id]; rfl⟩
  · have gk : (((wipeD env [k]).set k (some (id d)))[k]? : Option (Option D)) = some (some d) := List.getElem?_set_self (by show k < (env.set k none).length; rw [List.length_set]; exact hk)
    simp_all? only []
    refine ⟨trivial, Lq.refl _, fun _ => ?_⟩
    simp only [gk, str_part (h d hd), M_some]
    exact ⟨trivial, Lq.refl _⟩
  · rw [filt_true] at gj
    have gj' : S2[j]? = some (.lst ((xs.map strOf).map .str)) := by rw [gj, List.map_map]; rfl
    have jl := joinP_len h
    simp only [joinD, q_seqL gj', Option.bind_some, strsD_map]
    rw [if_pos (by rw [List.length_map]; have e : ((" " : Str)).length = 1 := rfl; rw [e]; omega), M_some]
    exact hq S2 l2
theorem text_of_ok {n : Nat} {xs : List D} {S : Hd} (h : ∀ x ∈ xs, Part x) (hl : xs.length ≤ 20) : Pu (run T (n + 1) 113 [.tup xs] S) (.str (joinP xs)) S := by
  refine Pu.run T_text_of rfl ?_
  show M (ex (run T n) b_text_of [some (.tup xs), none] S) _
  unfold b_text_of
  refine ret_M (join_row rfl (by simp) h hl fun S' l => ?_)
  simp? only []
  exact ⟨trivial, l⟩
def partsD (d : Dd) : List D := .str (wd d) :: restD d
theorem foldS_part (i : Nat) : Part (foldS i) := .inl (by
  match i with
  | 0 => exact ⟨_, rfl, by decide⟩
  | 1 => exact ⟨_, rfl, by decide⟩
  | _ + 2 => exact ⟨_, rfl, by decide⟩)
theorem gapS_part (i : Nat) : Part (gapS i) := .inl (by
  match i with
  | 0 => exact ⟨_, rfl, by decide⟩
  | 1 => exact ⟨_, rfl, by decide⟩
  | _ + 2 => exact ⟨_, rfl, by decide⟩)
theorem nat_part {v b : Nat} (h : v < b) (hb : b ≤ 1000) : Part (.int (v : Int)) := .inr ⟨_, rfl, by rw [Int.natAbs_natCast]; exact Nat.lt_of_lt_of_le h (Nat.le_trans hb (by decide))⟩
theorem int_part {m : Int} (h0 : -1000000 ≤ m) (h : m ≤ 1000000) : Part (.int m) := .inr ⟨_, rfl, by
  have : (10 : Nat) ^ 12 = 1000000000000 := by decide
  omega⟩
theorem lt_get {β : Type} {ks : List β} {v : Nat} {k : β} (h : ks[v]? = some k) : v < ks.length := (List.getElem?_eq_some_iff.mp h).1
theorem parts_ok {nz : Nat} {ks : List Str} {d : Dd} (h : okD nz ks d) (hk : ks.length ≤ 20) (hz : nz ≤ 2) : ∀ x ∈ partsD d, Part x := by
  have w : Part (.str (wd d)) := .inl ⟨_, rfl, by cases d <;> (simp only [wd]; decide)⟩
  intro x hx
  rcases List.mem_cons.mp hx with rfl | hx
  · exact w
  cases d with
  | add v m =>
    obtain ⟨⟨k, hk1, _⟩, m0, m1⟩ := h
    simp only [restD, List.mem_cons, List.not_mem_nil, or_false] at hx
    rcases hx with rfl | rfl
    · exact nat_part (lt_get hk1) (by omega)
    · exact int_part (by omega) (by omega)
  | plus v s =>
    simp only [restD, List.mem_cons, List.not_mem_nil, or_false] at hx
    rcases hx with rfl | rfl
    · exact nat_part (lt_get h.1) (by omega)
    · exact nat_part (lt_get h.2) (by omega)
  | less v s =>
    simp only [restD, List.mem_cons, List.not_mem_nil, or_false] at hx
    rcases hx with rfl | rfl
    · exact nat_part (lt_get h.1) (by omega)
    · exact nat_part (lt_get h.2) (by omega)
  | read v s =>
    simp only [restD, List.mem_cons, List.not_mem_nil, or_false] at hx
    rcases hx with rfl | rfl
    · exact nat_part (lt_get h.1) (by omega)
    · exact nat_part h.2 (by omega)
  | offset v s =>
    simp only [restD, List.mem_cons, List.not_mem_nil, or_false] at hx
    rcases hx with rfl | rfl
    · exact nat_part (lt_get h.1) (by omega)
    · exact nat_part h.2 (by omega)
  | edition v s =>
    simp only [restD, List.mem_cons, List.not_mem_nil, or_false] at hx
    rcases hx with rfl | rfl
    · exact nat_part (lt_get h.1) (by omega)
    · exact nat_part h.2 (by omega)
  | find v s i j =>
    simp only [restD, List.mem_cons, List.not_mem_nil, or_false] at hx
    rcases hx with rfl | rfl | rfl | rfl
    · exact nat_part (lt_get h.1) (by omega)
    · exact nat_part h.2 (by omega)
    · exact foldS_part i
    · exact gapS_part j
theorem parts_len (d : Dd) : (partsD d).length ≤ 5 := by cases d <;> simp [partsD, restD]
theorem plan_parts {nz : Nat} {plan : List Dd} (hv : Valid nz plan) (hz : nz ≤ 2) : ∀ d ∈ plan, ∀ x ∈ partsD d, Part x := fun d hd => by
  obtain ⟨t, ht, e⟩ := List.getElem_of_mem hd
  have h := hv.ok t d (by rw [List.getElem?_eq_getElem ht, e])
  have h8 := hv.short
  exact parts_ok h (by rw [rowOf_len, List.length_take]; omega) hz
/-- the words of a tale -/
def textF (plan : List Dd) : Str := if plan = [] then "-" else Txt.join " then " (plan.map fun d => joinP (partsD d))
theorem textF_sum {nz : Nat} {plan : List Dd} (hv : Valid nz plan) (hz : nz ≤ 2) : ((plan.map fun d => joinP (partsD d)).map (·.length)).sum + (plan.map fun d => joinP (partsD d)).length * ((" then " : Str)).length ≤ 16777216 := by
  have h8 := hv.short
  have a := sum_le (xs := (plan.map fun d => joinP (partsD d)).map (·.length)) (b := 105) fun x hx => by
    obtain ⟨y, hy, rfl⟩ := List.mem_map.mp hx
    obtain ⟨d, hd, rfl⟩ := List.mem_map.mp hy
    have := joinP_le (plan_parts hv hz d hd)
    have := parts_len d
    omega
  have e : ((" then " : Str)).length = 6 := rfl
  rw [List.length_map, List.length_map] at a
  rw [List.length_map, e]
  omega
theorem write_program_ok {n : Nat} {S : Hd} {zs : Zs} {plan : List Dd} (hz : Belts zs) (hv : Valid zs.length plan) : Pu (run T (n + 8) 114 [beltsD zs, planD plan] S) (.str (textF plan)) S := by
  have hm := most_big
  have h8 := hv.short
  refine Pu.run T_write_program rfl ?_
  show M (ex (run T (n + 7)) b_write_program [some (beltsD zs), some (planD plan), none] S) _
  unfold b_write_program
  refine seq_M (fun env S1 => env = [some (beltsD zs), some (planD plan), none] ∧ Lq S S1) ?_ ?_
  · simp? only []
    refine (check_zones_ok (n := n + 1) hz).use fun S1 l1 => ?_
    exact ⟨trivial, trivial, l1⟩
  rintro _ S1 ⟨rfl, l1⟩
  refine seq_M (fun env S2 => env = [some (beltsD zs), some (planD plan), none] ∧ Lq S S2) ?_ ?_
  · simp? only []
    refine (check_program_ok (n := n) hv).use fun S2 l2 => ?_
    exact ⟨trivial, trivial, l1.trans l2⟩
  rintro _ S2 ⟨rfl, l2⟩
  have et : tru S2 (planD plan) = some (!(plan.map ddD).isEmpty) := rfl
  cases hp : plan with
  | nil =>
    subst hp
    refine seq_Mx (ite_M ?_)
    simp_all? only [et, List.map_nil, List.isEmpty_nil]
    simp? only []
    exact ⟨by simp [textF], l2⟩
  | cons d0 pl0 =>
    rw [← hp]
    have ne : (plan.map ddD).isEmpty = false := by rw [hp]; rfl
    refine seq_Mx (ite_M ?_)
    simp_all? only [et, ne]
    rw [show ∀ env, ex (run T (n + 7)) .skip env S2 = some (.nx, env, S2) from fun _ => rfl]
    simp only [M_some]
    refine M.imp (P := fun x => ∃ S', x = (.ret (.str (textF plan)), [some (beltsD zs), some (planD plan), none], S') ∧ Lq S S') (ret_M ?_) ?_
    · rw [show ∀ (z : Str) (a : E) env S, ev (run T (n + 7)) (.joinS z a) env S = (ev (run T (n + 7)) a env S).bind fun x => joinD z x.1 x.2 from fun _ _ _ _ => rfl, M_bind]
      refine M_lcx plan ddD (fun _ => true) (fun d => .str (joinP (partsD d))) (by decide) ?_ (by omega) (fun d S3 hd l3 => ⟨_, rfl, ?_⟩) fun j S3 hj gj l3 => ?_
      · simp_all? only []
        exact ⟨_, _, rfl, Lq.refl _, fun S2 _ => rfl⟩
      · simp_all? only [wipeD]
        refine ⟨trivial, Lq.refl _, fun _ => ?_⟩
        rw [dd_rest]
        refine (text_of_ok (n := n + 6) (xs := partsD d) (plan_parts hv hz.l2 d hd) (by have := parts_len d; omega)).use fun S4 l4 => ?_
        exact ⟨rfl, l4⟩
      · rw [filt_true] at gj
        have gj' : S3[j]? = some (.lst ((plan.map fun d => joinP (partsD d)).map .str)) := by rw [gj, List.map_map]; rfl
        simp only [joinD, q_seqL gj', Option.bind_some, strsD_map]
        rw [if_pos (textF_sum hv hz.l2), M_some]
        have e : textF plan = Txt.join " then " (plan.map fun d => joinP (partsD d)) := by
          unfold textF
          rw [if_neg (by rw [hp]; simp)]
        rw [e]
        exact ⟨S3, rfl, l2.trans l3⟩
    rintro _ ⟨S', rfl, l⟩
    simp? only []
    exact ⟨trivial, l⟩
theorem eqd_tupnil {S : Hd} {plan : List Dd} : cmpdD .eq (planD plan) (.tup []) S = some (.bl (decide (plan = [])), S) := by
  have p1 : py 9 S (planD plan) = some (.tuple (plan.map ddP)) := by
    unfold planD
    simp only [py, pyL_dd (n := 6), Option.map_some]
  have p2 : py 9 S (.tup []) = some (.tuple []) := rfl
  have s1 : SeqAt.shaped (.tuple (plan.map ddP)) = true := by
    show (PyData.canLay0 (.tuple (plan.map ddP)) && decide (PyData.depth (.tuple (plan.map ddP)) ≤ 64)) = true
    have := dds_shape plan
    rw [Bool.and_eq_true]
    refine ⟨by simp only [PyData.canLay0]; exact this.1, decide_eq_true ?_⟩
    simp only [PyData.depth]
    omega
  have s2 : SeqAt.shaped (.tuple []) = true := by
    show (PyData.canLay0 (.tuple []) && decide (PyData.depth (.tuple []) ≤ 64)) = true
    simp [PyData.canLay0, PyData.canLayAll0, PyData.depth, PyData.depthAll]
  have e : PyData.eqv (.tuple (plan.map ddP)) (.tuple []) = decide (plan = []) := by
    cases plan with
    | nil => simp [PyData.eqv, PyData.eqvAll]
    | cons d ds => simp [PyData.eqv, PyData.eqvAll]
  simp only [cmpdD, p1, p2, Option.bind_some, s1, s2, and_self, if_true, e]
theorem text_ok {n nz : Nat} {S : Hd} {plan : List Dd} (hv : Valid nz plan) (hz : nz ≤ 2) : Pu (run T (n + 1) 132 [planD plan] S) (.str (textF plan)) S := by
  have hm := most_big
  have h8 := hv.short
  refine Pu.run T_text rfl ?_
  show M (ex (run T n) b_text [some (planD plan), none, none, none] S) _
  unfold b_text
  refine seq_Mx (ite_B (B := decide (plan = [])) (by simp_all? only [show (0 : Nat) ≤ most by decide, eqd_tupnil]) (fun h => ?_) fun h => ?_)
  · simp only [decide_eq_true_eq] at h
    subst h
    simp? only []
    exact ⟨by simp [textF], Lq.refl _⟩
  simp only [decide_eq_false_iff_not] at h
  rw [show ∀ env, ex (run T n) .skip env S = some (.nx, env, S) from fun _ => rfl]
  simp only [M_some]
  refine seq_M (fun env S1 => env = [some (planD plan), some (.ref S.length), none, none] ∧ S1 = S ++ [.lst []]) ?_ ?_
  · simp? only [show (0 : Nat) ≤ most by decide]
    exact ⟨trivial, trivial, trivial⟩
  rintro _ _ ⟨rfl, rfl⟩
  have ep : ∀ S2, seqOf S2 (planD plan) = some (plan.map ddD) := fun _ => rfl
  refine seq_M (fun env S1 => ∃ v2 v3 : Option D, env = [some (planD plan), some (.ref S.length), v2, v3] ∧ S1[S.length]? = some (.lst ((plan.map fun d => joinP (partsD d)).map .str)) ∧ Lq S S1) ?_ ?_
  · refine for_M ?_
    simp_all? only []
    refine ⟨_, _, rfl, ep (S ++ [.lst []]), ?_⟩
    refine M_loopS (m := 0) (fun i env S2 => ∃ v2 v3 : Option D, env = [some (planD plan), some (.ref S.length), v2, v3] ∧ S2[S.length]? = some (.lst (((plan.take i).map fun d => joinP (partsD d)).map .str)) ∧ Lq S S2) ⟨none, none, rfl, by rw [get_new]; rfl, Lq.app _ _⟩ ?_ ?_
    · rintro i x env S2 hi ⟨v2, v3, rfl, g, l⟩
      obtain ⟨d, hd, hdm, rfl⟩ := map_get hi
      simp only [Nat.zero_add] at g ⊢
      simp only [asgG, Option.bind_some, List.set_cons_succ, List.set_cons_zero]
      rw [dd_rest]
      refine drop_M (M_app rfl (q_isL g) (join_row (xs := partsD d) rfl (by simp) (plan_parts hv hz d hdm) (by have := parts_len d; omega) fun S3 l3 => ?_))
      have g3 := l3 _ _ g
      rw [q_app g3 (by rw [List.length_map, List.length_map, List.length_take]; omega), M_some]
      refine ⟨ep (S3.set S.length (O.lst [])), _, _, rfl, ?_, ((l.trans l3).set (Nat.le_refl _))⟩
      rw [List.take_add_one, hd, List.map_append, List.map_append]
      exact List.getElem?_set_self (lt_of_get g3)
    · rintro env S2 ⟨v2, v3, rfl, g, l⟩
      rw [Nat.zero_add, List.length_map, List.take_length] at g
      exact ⟨rfl, v2, v3, rfl, g, l⟩
  rintro _ S1 ⟨v2, v3, rfl, g, l⟩
  have e : textF plan = Txt.join " then " (plan.map fun d => joinP (partsD d)) := by
    unfold textF
    rw [if_neg h]
  simp? only [joinD, q_seqL g, strsD_map]
  rw [if_pos (textF_sum hv hz), e]
  simp? only []
  exact ⟨trivial, l⟩
end Lw

namespace Lw
open PySem L2 Ix
/-! ### wishes -/
inductive Ww where
  | found | same (i j : Nat) | order (i j : Nat) | near (i j : Nat) (m : Int)
def wPs : Ww → List D
  | .found => [.str "found"]
  | .same i j => [.str "same", .int (i : Int), .int (j : Int)]
  | .order i j => [.str "order", .int (i : Int), .int (j : Int)]
  | .near i j m => [.str "near", .int (i : Int), .int (j : Int), .int m]
def wD (w : Ww) : D := .tup (wPs w)
def tIx (ks : List Str) (v : Nat) : Prop := ∃ k, ks[v]? = some k ∧ k ≠ "span"
def okW (ks : List Str) : Ww → Prop
  | .found => True
  | .same i j => tIx ks i ∧ tIx ks j
  | .order i j => tIx ks i ∧ tIx ks j
  | .near i j m => tIx ks i ∧ tIx ks j ∧ 0 ≤ m ∧ m ≤ 1000000
theorem tIx_part {ks : List Str} {v : Nat} (h : tIx ks v) (hk : ks.length ≤ 20) : Part (.int (v : Int)) := let ⟨_, e, _⟩ := h; nat_part (lt_get e) (by omega)
theorem w_parts {ks : List Str} {w : Ww} (h : okW ks w) (hk : ks.length ≤ 20) : ∀ x ∈ wPs w, Part x := by
  cases w with
  | found =>
    simp only [wPs, List.mem_cons, List.not_mem_nil, or_false]
    rintro x rfl
    exact .inl ⟨_, rfl, by decide⟩
  | same i j =>
    simp only [wPs, List.mem_cons, List.not_mem_nil, or_false]
    rintro x (rfl | rfl | rfl)
    · exact .inl ⟨_, rfl, by decide⟩
    · exact tIx_part h.1 hk
    · exact tIx_part h.2 hk
  | order i j =>
    simp only [wPs, List.mem_cons, List.not_mem_nil, or_false]
    rintro x (rfl | rfl | rfl)
    · exact .inl ⟨_, rfl, by decide⟩
    · exact tIx_part h.1 hk
    · exact tIx_part h.2 hk
  | near i j m =>
    simp only [wPs, List.mem_cons, List.not_mem_nil, or_false]
    rintro x (rfl | rfl | rfl | rfl)
    · exact .inl ⟨_, rfl, by decide⟩
    · exact tIx_part h.1 hk
    · exact tIx_part h.2.1 hk
    · exact int_part (by have := h.2.2; omega) h.2.2.2
theorem w_len (w : Ww) : (wPs w).length ≤ 4 := by cases w <;> simp [wPs]
theorem draw_want_ok {n p c h : Nat} {S : Hd} {ks : List Str} {L : List Nat} (hS : Bag p c S) (hc : c ≤ 800000) (hp : h ≠ p) (g : S[h]? = some (.lst (L.map fun (v : Nat) => .int (v : Int)))) (hL : ∀ v ∈ L, tIx ks v) (l0 : 0 < L.length) (l9 : L.length ≤ 20) :
    M (run T (n + 2) 131 [.ref p, .ref h] S) fun x => ∃ (w : Ww) (S' : Hd), x = (wD w, S') ∧ okW ks w ∧ Bag p (c + 10) S' ∧ Le p S S' := by
  have hm := most_big
  refine run_M T_draw_want rfl ?_
  show M (ex (run T (n + 1)) b_draw_want [some (.ref p), some (.ref h), none, none, none] S) _
  unfold b_draw_want
  refine seq_M (fun env S1 => ∃ w : Str, (w = "found" ∨ w = "same" ∨ w = "order" ∨ w = "near") ∧ env = [some (.ref p), some (.ref h), some (.str w), none, none] ∧ Bag p (c + 1) S1 ∧ Le p S S1) ?_ ?_
  · refine asg_M (pickL (xs := ([("found" : Str), "same", "order", "near"] : List Str).map .str) rfl hS (by simp_all? only []; rfl) rfl (by decide) (by decide) (by omega) fun z d S1 hz b1 l1 => ?_)
    obtain ⟨w, _, wm, rfl⟩ := map_get hz
    simp only [List.mem_cons, List.not_mem_nil, or_false] at wm
    exact ⟨rfl, w, wm, rfl, b1, l1⟩
  rintro _ S1 ⟨w, hw, rfl, b1, l1⟩
  refine seq_Mx (ite_B (B := decide (w = "found")) (by simp_all? only [q_eqS]) (fun e => ?_) fun nf => ?_)
  · simp only [decide_eq_true_eq] at e
    subst e
    simp? only [show (1 : Nat) ≤ most by decide]
    exact ⟨.found, S1, rfl, trivial, b1.mono (by omega), l1⟩
  simp only [decide_eq_false_iff_not] at nf
  rw [show ∀ env, ex (run T (n + 1)) .skip env S1 = some (.nx, env, S1) from fun _ => rfl]
  simp only [M_some]
  refine seq_M (fun env S2 => ∃ i j : Nat, env = [some (.ref p), some (.ref h), some (.str w), some (.tup [.str w, .int (i : Int), .int (j : Int)]), none] ∧ tIx ks i ∧ tIx ks j ∧ Bag p (c + 3) S2 ∧ Le p S S2) ?_ ?_
  · have at_ : ∀ {z : Int}, 0 ≤ z → z < L.length → ∃ v : Nat, tIx ks v ∧ atI (L.map fun (v : Nat) => D.int (v : Int)) z = some (.int (v : Int)) := fun {z} z0 z1 => by
      have hz : z.toNat < L.length := by omega
      refine ⟨L[z.toNat], hL _ (List.getElem_mem hz), ?_⟩
      rw [atI_lt z0 (by rw [List.length_map]; omega), List.getElem?_map, List.getElem?_eq_getElem hz]
      rfl
    have g1 := l1.at hp g
    simp? only [q_len (q_seqL g1), List.length_map]
    refine (pick2_ok b1 (by omega) (by omega) (by omega)).imp ?_
    rintro _ ⟨y, S2, rfl, y0, y1, b2, l2⟩
    obtain ⟨i, ti, ai⟩ := at_ y0 y1
    have g2 := l2.at hp g1
    simp? only [q_ixL g2, ai, q_len (q_seqL g2), List.length_map]
    refine (pick2_ok b2 (by omega) (by omega) (by omega)).imp ?_
    rintro _ ⟨z, S3, rfl, z0, z1, b3, l3⟩
    obtain ⟨j, tj, aj⟩ := at_ z0 z1
    have g3 := l3.at hp g2
    simp? only [q_ixL g3, aj, show (3 : Nat) ≤ most by decide]
    exact ⟨trivial, i, j, rfl, ti, tj, b3, l1.trans (l2.trans l3)⟩
  rintro _ S2 ⟨i, j, rfl, ti, tj, b2, l2⟩
  refine seq_Mx (ite_B (B := !decide (w = "near")) (by simp_all? only [q_neS]) (fun e => ?_) fun e => ?_)
  · simp only [Bool.not_eq_true', decide_eq_false_iff_not] at e
    simp? only []
    rcases hw with rfl | rfl | rfl | rfl
    · exact absurd rfl nf
    · exact ⟨.same i j, S2, rfl, ⟨ti, tj⟩, b2.mono (by omega), l2⟩
    · exact ⟨.order i j, S2, rfl, ⟨ti, tj⟩, b2.mono (by omega), l2⟩
    · exact absurd rfl e
  simp only [Bool.not_eq_false', decide_eq_true_eq] at e
  subst e
  rw [show ∀ env, ex (run T (n + 1)) .skip env S2 = some (.nx, env, S2) from fun _ => rfl]
  simp only [M_some]
  refine seq_M (fun env S3 => ∃ (k : Nat) (xs : List Int), env = [some (.ref p), some (.ref h), some (.str "near"), some (.tup [.str "near", .int (i : Int), .int (j : Int)]), some (.ref k)] ∧ k ≠ p ∧ S3[k]? = some (.lst (xs.map .int)) ∧ xs.length = 7 ∧ (∀ x ∈ xs, 0 ≤ x ∧ x ≤ 1000000) ∧ Bag p (c + 5) S3 ∧ Le p S S3) ?_ ?_
  · simp? only []
    refine (pick2_ok b2 (by omega) (by decide) (by decide)).imp ?_
    rintro _ ⟨y, S3, rfl, y0, y1, b3, l3⟩
    simp? only []
    refine (pick2_ok b3 (by omega) (by decide) (by decide)).imp ?_
    rintro _ ⟨z, S4, rfl, z0, z1, b4, l4⟩
    simp? only [show (7 : Nat) ≤ most by decide]
    refine ⟨trivial, _, [0, 1, 1000000, 60, y, z, 1801], rfl, b4.ne, get_new, rfl, ?_, b4.app _, l2.trans (l3.trans (l4.trans (Le.app _ _ _)))⟩
    simp only [List.mem_cons, List.not_mem_nil, or_false]
    omega
  rintro _ S3 ⟨k, xs, rfl, kp, gk, xl, xb, b3, l3⟩
  simp? only []
  refine (pick2_ok b3 (by omega) (by decide) (by decide)).imp ?_
  rintro _ ⟨z, S4, rfl, z0, z1, b4, l4⟩
  obtain ⟨x, _, xm, hx⟩ := atI_ints (ns := xs) z0 (by omega)
  have xbb := xb x xm
  simp? only [q_ixL (l4.at kp gk), hx, show (1 : Nat) ≤ most by decide]
  rw [q_addT (xs := [.str "near", .int (i : Int), .int (j : Int)]) (ys := [.int x]) (show 3 + 1 ≤ most by decide)]
  simp? only []
  exact ⟨.near i j x, S4, rfl, ⟨ti, tj, xbb.1, xbb.2⟩, b4.mono (by omega), l3.trans l4⟩
/-! ### checks of wishes -/
theorem fits_time {n r v : Nat} {S : Hd} {ks : List Str} (g : S[r]? = some (.lst (ks.map .str))) (h : tIx ks v) : Pu (run T (n + 4) 110 [.ref r, .str "time", .int (v : Int)] S) (.bl true) S := by
  obtain ⟨k, hk, hs⟩ := h
  refine Pu.run T_fits_wish_role rfl ?_
  show M (ex (run T (n + 3)) b_fits_wish_role [some (.ref r), some (.str "time"), some (.int (v : Int))] S) _
  unfold b_fits_wish_role
  refine seq_Mx (ite_B (B := false) (by simp_all? only [q_eqS]; rw [decide_eq_false (by decide)]) (fun h => by cases h) fun _ => ?_)
  rw [show ∀ env, ex (run T (n + 3)) .skip env S = some (.nx, env, S) from fun _ => rfl]
  simp? only [M_some]
  refine (is_time_ok g hk hs).use fun S1 l1 => ?_
  simp? only []
  exact ⟨trivial, l1⟩
theorem fits_most {n r : Nat} {m : Int} {S : Hd} (h0 : 0 ≤ m) (h1 : m ≤ 1000000) : Pu (run T (n + 4) 110 [.ref r, .str "most", .int m] S) (.bl true) S := by
  refine Pu.run T_fits_wish_role rfl ?_
  show M (ex (run T (n + 3)) b_fits_wish_role [some (.ref r), some (.str "most"), some (.int m)] S) _
  unfold b_fits_wish_role
  refine seq_Mx (ite_B (B := true) (by simp_all? only [q_eqS, decide_true]) (fun _ => ?_) (fun h => by cases h))
  simp? only []
  refine is_number_ok.use fun S1 l1 => ?_
  simp? only [h0, h1, decide_true]
  exact ⟨trivial, l1⟩
abbrev wishT : List (Str × D) := [("found", .tup []), ("same", .tup [.str "time", .str "time"]), ("order", .tup [.str "time", .str "time"]), ("near", .tup [.str "time", .str "time", .str "most"])]
def wWord : Ww → Str
  | .found => "found" | .same _ _ => "same" | .order _ _ => "order" | .near _ _ _ => "near"
def wRoles : Ww → List Str
  | .found => [] | .same _ _ => ["time", "time"] | .order _ _ => ["time", "time"] | .near _ _ _ => ["time", "time", "most"]
def wRest : Ww → List D
  | .found => []
  | .same i j => [.int (i : Int), .int (j : Int)]
  | .order i j => [.int (i : Int), .int (j : Int)]
  | .near i j m => [.int (i : Int), .int (j : Int), .int m]
theorem wPs_eq (w : Ww) : wPs w = .str (wWord w) :: wRest w := by cases w <;> rfl
theorem wRoles_len (w : Ww) : (wRoles w).length = (wRest w).length ∧ (wRest w).length ≤ 3 := by cases w <;> exact ⟨rfl, by simp [wRest]⟩
theorem wish_look (w : Ww) : lookC wishT (wWord w) = some (.tup ((wRoles w).map .str)) := by cases w <;> rfl
theorem first_word_w {n : Nat} {S : Hd} (w : Ww) : Pu (run T (n + 1) 84 [wD w] S) (.str (wWord w)) S := by
  refine Pu.run T_first_word rfl ?_
  show M (ex (run T n) b_first_word [some (wD w)] S) _
  unfold b_first_word wD
  rw [wPs_eq]
  have el : ∀ S, bltD .len [D.tup (.str (wWord w) :: wRest w)] S = some (.int (((wRest w).length + 1 : Nat) : Int), S) := fun S => by rw [q_len q_seqT]; rfl
  refine seq_Mx (ite_B (B := true) (and_ev (x := true) (y := true) (by simp_all? only []) (and_ev (x := true) (y := true) (by simp_all? only [el]; rw [decide_eq_true (by omega)]) (by simp_all? only [isi_ss]))) (fun _ => ?_) (fun h => by cases h))
  simp? only []
  exact ⟨trivial, Lq.refl _⟩
theorem role_w {n r : Nat} {S : Hd} {ks : List Str} {w : Ww} (g : S[r]? = some (.lst (ks.map .str))) (h : okW ks w) : ∀ (i : Nat) (role : Str) (item : D), (wRoles w)[i]? = some role → (wRest w)[i]? = some item → Pu (run T (n + 4) 110 [.ref r, .str role, item] S) (.bl true) S := fun i role item h1 h2 => by
  cases w with
  | found => simp [wRoles] at h1
  | same a b =>
    match i, h1, h2 with
    | 0, h1, h2 => cases h1; cases h2; exact fits_time g h.1
    | 1, h1, h2 => cases h1; cases h2; exact fits_time g h.2
    | _ + 2, h1, _ => cases h1
  | order a b =>
    match i, h1, h2 with
    | 0, h1, h2 => cases h1; cases h2; exact fits_time g h.1
    | 1, h1, h2 => cases h1; cases h2; exact fits_time g h.2
    | _ + 2, h1, _ => cases h1
  | near a b m =>
    match i, h1, h2 with
    | 0, h1, h2 => cases h1; cases h2; exact fits_time g h.1
    | 1, h1, h2 => cases h1; cases h2; exact fits_time g h.2.1
    | 2, h1, h2 => cases h1; cases h2; exact fits_most h.2.2.1 h.2.2.2
    | _ + 3, h1, _ => cases h1
theorem fits_as_wish_ok {n nz : Nat} {S : Hd} {plan : List Dd} {w : Ww} (hv : Valid nz plan) (h : okW (rowOf plan) w) : Pu (run T (n + 5) 111 [planD plan, wD w] S) (.bl true) S := by
  have hm := most_big
  obtain ⟨rl, r4⟩ := wRoles_len w
  refine Pu.run T_fits_as_wish rfl ?_
  show M (ex (run T (n + 4)) b_fits_as_wish [some (planD plan), some (wD w), none, none, none, none] S) _
  unfold b_fits_as_wish
  refine seq_M (fun env S1 => env = [some (planD plan), some (wD w), some (.tup ((wRoles w).map .str)), none, none, none] ∧ Lq S S1) ?_ ?_
  · simp? only []
    refine (first_word_w w).use fun S1 l1 => ?_
    refine M_is (v := (.tup ((wRoles w).map .str), S1)) ?_ ⟨trivial, rfl, l1⟩
    show some ((lookC wishT (wWord w)).getD .non, S1) = _
    rw [wish_look]
    rfl
  rintro _ S1 ⟨rfl, l1⟩
  have ln : ∀ S, bltD .len [wD w] S = some (.int ((wRest w).length + 1 : Nat), S) := fun S => by
    unfold wD
    rw [wPs_eq, q_len q_seqT]
    rfl
  have lr : ∀ S, bltD .len [D.tup ((wRoles w).map .str)] S = some (.int ((wRoles w).length : Nat), S) := fun S => by
    rw [q_len q_seqT, List.length_map]
  refine seq_Mx (ite_M (tst_M (M_or (M_is (v := (.bl false, S1)) (by simp_all? only []) (.inl ⟨rfl, M_is (v := (.bl false, S1)) (by simp_all? only [ln, lr, q_neI]; rw [decide_eq_true (by omega)]; rfl) ⟨false, rfl, ?_⟩⟩)))))
  simp only [Bool.false_eq_true, if_false]
  rw [show ∀ env, ex (run T (n + 4)) .skip env S1 = some (.nx, env, S1) from fun _ => rfl]
  simp only [M_some]
  refine seq_M (fun env S2 => ∃ r : Nat, env = [some (planD plan), some (wD w), some (.tup ((wRoles w).map .str)), some (.ref r), none, none] ∧ S2[r]? = some (.lst ((rowOf plan).map .str)) ∧ Lq S S2) ?_ ?_
  · refine asg_M (M_call1 (var_M rfl ?_))
    refine (kinds_of_values_ok (n := n + 2) hv).imp ?_
    rintro _ ⟨r, S2, rfl, _, g, l2⟩
    exact ⟨rfl, r, rfl, g, l1.trans l2⟩
  rintro _ S2 ⟨r, rfl, g, l2⟩
  have sl : ∀ S, slD (wD w) (some 1) none S = some (.tup (wRest w), S) := fun S => by
    unfold wD
    rw [wPs_eq, q_slT, cut_1]
    rfl
  have zl : (List.zipWith (fun a b => D.tup [a, b]) ((wRoles w).map .str) (wRest w)).length ≤ 4 := by rw [List.length_zipWith]; omega
  refine M.imp (P := fun x => ∃ S', x = (.ret (.bl true), [some (planD plan), some (wD w), some (.tup ((wRoles w).map .str)), some (.ref r), none, none], S') ∧ Lq S S') (ret_M (M_allT (S1 := S2) (ds := [.tup ((wRoles w).map .str), .tup (wRest w)]) (its := List.zipWith (fun a b => D.tup [a, b]) ((wRoles w).map .str) (wRest w)) (by decide) (by simp_all? only [sl]) (Lq.refl _) rfl (by omega) (fun i x S9 hi l9 => ?_) (fun _ _ => rfl) fun S9 l9 => ⟨S9, rfl, l2.trans l9⟩)) ?_
  · rw [List.getElem?_zipWith] at hi
    cases h1 : (wRoles w)[i]? with
    | none => simp [h1] at hi
    | some role =>
      cases h2 : (wRest w)[i]? with
      | none => simp [h1, h2] at hi
      | some item =>
        simp [h1, h2] at hi
        subst hi
        refine ⟨_, rfl, ?_⟩
        simp? only [wipeD]
        refine (role_w (n := n) (l9 _ _ g) h i role item h1 h2).use fun S10 l10 => ?_
        exact ⟨rfl, l10⟩
  rintro _ ⟨S', rfl, l⟩
  simp? only []
  exact ⟨trivial, l⟩
theorem check_wish_ok {n nz : Nat} {S : Hd} {plan : List Dd} {w : Ww} (hv : Valid nz plan) (h : okW (rowOf plan) w) : Pu (run T (n + 6) 112 [planD plan, wD w] S) .non S := by
  refine Pu.run T_check_wish rfl ?_
  show M (ex (run T (n + 5)) b_check_wish [some (planD plan), some (wD w)] S) _
  unfold b_check_wish
  refine ite_M (tst_M (M_not ?_))
  simp_all? only []
  refine (fits_as_wish_ok hv h).use fun S1 l1 => ?_
  refine ⟨true, rfl, _, rfl, ?_⟩
  simp only [Bool.not_true, Bool.false_eq_true, if_false]
  refine ⟨_, rfl, ?_⟩
  simp? only []
  exact ⟨trivial, l1⟩
theorem write_wish_ok {n : Nat} {S : Hd} {zs : Zs} {plan : List Dd} {w : Ww} (hz : Belts zs) (hv : Valid zs.length plan) (h : okW (rowOf plan) w) : Pu (run T (n + 8) 115 [beltsD zs, planD plan, wD w] S) (.str (joinP (wPs w))) S := by
  have h8 := hv.short
  have rl := rowOf_len plan
  refine Pu.run T_write_wish rfl ?_
  show M (ex (run T (n + 7)) b_write_wish [some (beltsD zs), some (planD plan), some (wD w)] S) _
  unfold b_write_wish
  simp? only []
  refine (check_zones_ok (n := n + 1) hz).use fun S1 l1 => ?_
  simp? only []
  refine (check_program_ok (n := n) hv).use fun S2 l2 => ?_
  simp? only []
  refine (check_wish_ok (n := n + 1) hv h).use fun S3 l3 => ?_
  simp? only []
  refine (text_of_ok (n := n + 6) (w_parts h (by omega)) (by have := w_len w; omega)).use fun S4 l4 => ?_
  simp? only []
  exact ⟨trivial, l1.trans (l2.trans (l3.trans l4))⟩
theorem long_tale_ok {n p c : Nat} {S : Hd} {zs : Zs} (hz : Belts zs) (hS : Bag p c S) (hc : c ≤ 600000) : M (run T (n + 5) 133 [.ref p, beltsD zs, .int 8] S) fun x => ∃ (plan : List Dd) (S' : Hd), x = (planD plan, S') ∧ Valid zs.length plan ∧ Bag p (c + 300) S' ∧ Le p S S' := by
  have hm := most_big
  have zl1 := hz.l1
  have zl2 := hz.l2
  refine run_M T_long_tale rfl ?_
  show M (ex (run T (n + 4)) b_long_tale [some (.ref p), some (beltsD zs), some (.int 8), none, none] S) _
  unfold b_long_tale
  refine seq_M (fun env S1 => ∃ k : Int, env = [some (.ref p), some (beltsD zs), some (.int 8), some (.int k), none] ∧ 0 ≤ k ∧ k ≤ 8 ∧ Bag p (c + 3) S1 ∧ Le p S S1) ?_ ?_
  · simp? only []
    refine (pick2_ok hS (by omega) (by decide) (by decide)).imp ?_
    rintro _ ⟨y, S1, rfl, y0, y1, b1, l1⟩
    simp? only []
    refine (pick2_ok b1 (by omega) (by decide) (by decide)).imp ?_
    rintro _ ⟨z, S2, rfl, z0, z1, b2, l2⟩
    simp? only [show (4 : Nat) ≤ most by decide]
    refine (pick2_ok (b2.app _) (by omega) (by decide) (by decide)).imp ?_
    rintro _ ⟨w, S3, rfl, w0, w1, b3, l3⟩
    have g := l3.at b2.ne get_new
    obtain ⟨x, _, xm, hx⟩ := atI_ints (ns := [y, 8, z, 8]) w0 w1
    simp only [List.map_cons, List.map_nil] at hx
    simp only [List.mem_cons, List.not_mem_nil, or_false] at xm
    simp? only [q_ixL g, hx]
    exact ⟨trivial, x, rfl, by omega, by omega, b3, l1.trans (l2.trans ((Le.app _ _ _).trans l3))⟩
  rintro _ S1 ⟨k, rfl, k0, k1, b1, l1⟩
  refine seq_M (fun env S2 => ∃ (j : Nat) (ms : List Int), env = [some (.ref p), some (beltsD zs), some (.int 8), some (.int k), some (.ref j)] ∧ j ≠ p ∧ S2[j]? = some (.lst (ms.map .int)) ∧ minsOk ms ∧ Bag p (c + 40) S2 ∧ Le p S S2) ?_ ?_
  · refine asg_M (M_bin (M_call2 (var_M rfl (var_M rfl ?_))))
    refine (minutes2_ok (n := n + 2) hz b1 (by omega)).imp ?_
    rintro _ ⟨j, ms, S2, rfl, sj, gj, ml, mb, b2, l2⟩
    simp_all? only [show (2 : Nat) ≤ most by decide]
    have ee : ([D.int 100000, .int (-100000)] : List D) = ([100000, -100000] : List Int).map .int := rfl
    rw [ee, q_addL (Lq.app S2 [O.lst (([100000, -100000] : List Int).map .int)] _ _ gj) get_new (by simp; omega)]
    simp only [al_eq, M_some]
    have b3 := b2.app [O.lst (([100000, -100000] : List Int).map .int)]
    refine ⟨trivial, _, ms ++ [100000, -100000], rfl, b3.ne, by rw [get_new, List.map_append], ⟨by simp, by simp; omega, fun m hm' => ?_⟩, (b3.app _).mono (by omega), l1.trans (l2.trans ((Le.app _ _ _).trans (Le.app _ _ _)))⟩
    rcases List.mem_append.mp hm' with q | q
    · exact mb m q
    · simp only [List.mem_cons, List.not_mem_nil, or_false] at q
      omega
  rintro _ S2 ⟨j, ms, rfl, jp, gj, mo, b2, l2⟩
  have eb : ∀ S2, seqOf S2 (beltsD zs) = some (zs.map fun z => zoneD z.1 z.2) := fun S2 => rfl
  simp? only [q_len (eb _), List.length_map, show (0 : Nat) ≤ most by decide]
  refine (draw_tale_ok (n := n) (left := 8) b2 (by omega) jp gj mo hz.l1 hz.l2 k0 k1).imp ?_
  rintro _ ⟨plan, S3, rfl, hv, b3, l3⟩
  simp? only []
  exact ⟨plan, S3, rfl, hv, b3.mono (by omega), l2.trans l3⟩
end Lw

namespace Lw
open PySem L2 Ix
/-! ### numbers read -/
theorem tl_neg (m : Nat) : TL.tl (Str.ofString (toString (-((m + 1 : Nat) : Int)))) = 45 :: TL.numL (m + 1) := by
  show (Str.ofString (toString (-((m + 1 : Nat) : Int)))).cps.toList = _
  rw [PyProof.Rows.signs_ofString, Int.toString_eq_repr, Int.repr_eq_if, if_neg (by omega), String.toList_append, List.map_append]
  rw [Nat.toList_repr]
  have e : (-(-((m + 1 : Nat) : Int))).toNat = m + 1 := by omega
  rw [e]
  rfl
theorem sw1 {x y : Str} {c : Nat} (h : TL.tl y = [c]) : Txt.startswith x y = decide ((TL.tl x).head? = some c) := by
  have hy : y.length = 1 := by rw [TL.len_tl, h]; rfl
  show (decide (0 + y.length ≤ x.length) && PySem.Builtin.Str.subAt x y 0) = _
  rw [PySem.StrLaws.subAt_eq, hy, show y.cps.toList = [c] from h, TL.len_tl]
  show (decide (0 + 1 ≤ (TL.tl x).length) && ((TL.tl x).drop 0).take 1 == [c]) = _
  cases TL.tl x with
  | nil => simp
  | cons a l => simp [Bool.beq_eq_decide_eq]
theorem numL_head : ∀ (m : Nat), (TL.numL m).head? = some 48 → m = 0 := fun m => by
  induction m using Nat.strongRecOn with
  | _ m ih =>
    intro h
    by_cases h1 : m < 10
    · rw [TL.numL_lt h1] at h
      simp only [List.head?_cons, Option.some.injEq] at h
      omega
    · rw [TL.numL_step (by omega)] at h
      have : (TL.numL (m / 10)).head? = some 48 := by
        cases e : TL.numL (m / 10) with
        | nil => exact absurd e (TL.numL_ne _)
        | cons a l =>
          rw [e] at h
          exact h
      have := ih (m / 10) (by omega) this
      omega
/-- the signs of a number's digits -/
theorem q_slen {z : Str} {S : Hd} (h : z.length ≤ most) : bltD .slen [.str z] S = some (.int z.length, S) := if_pos h
theorem all_digit {c : Nat} (h : 48 ≤ c ∧ c ≤ 57) : c ∈ (("0123456789" : Str)).cps.toList := by
  have e : (("0123456789" : Str)).cps.toList = [48, 49, 50, 51, 52, 53, 54, 55, 56, 57] := by decide +kernel
  rw [e]
  simp only [List.mem_cons, List.not_mem_nil, or_false]
  omega
theorem int_cases (i : Int) : (∃ m : Nat, i = (m : Int)) ∨ ∃ m : Nat, i = -((m + 1 : Nat) : Int) := by
  cases i with
  | ofNat m => exact .inl ⟨m, rfl⟩
  | negSucc m => exact .inr ⟨m, rfl⟩
theorem minus1 : TL.tl ("-" : Str) = [45] := by decide +kernel
theorem zero1 : TL.tl ("0" : Str) = [48] := by decide +kernel
theorem M_iteB {Γ : Fs} {c a b : E} {env : Sl} {S : Hd} {B : Bool} {Q : D × Hd → Prop} (h : ev Γ c env S = some (.bl B, S)) (h1 : B = true → M (ev Γ a env S) Q) (h2 : B = false → M (ev Γ b env S) Q) : M (ev Γ (.ite c a b) env S) Q := by
  cases B with
  | true =>
    simp only [ev, M_bind, h, tst, Option.bind_some, M_map, M_some, u_bl, if_true]
    exact h1 rfl
  | false =>
    simp only [ev, M_bind, h, tst, Option.bind_some, M_map, M_some, u_bl, Bool.false_eq_true, if_false]
    exact h2 rfl
/-- what number_from does behind its cut -/
theorem from_digits {n : Nat} {S : Hd} {i : Int} {z dg : Str} {m : Nat} (ez : z = toString i) (ed : TL.tl dg = TL.numL m) (hm : m < 10 ^ 12) (h0 : m = 0 → i = 0) (hz : PySem.intText? z = some i) (lz : z.length ≤ 640)
    {Q : Out × Sl × Hd → Prop} (hq : ∀ env S', Lq S S' → Q (.ret (.int i), env, S')) :
    M (ex (run T n) (.seq (.ite (.or_ (.not_ (.chain .le .le (.c (.int 1)) (.blt .slen (.cons (.var 1) (.nil))) (.c (.int 12)))) (.not_ (.blt .all_ (.cons (.lc .chars (.cons (.var 1) .nil) (.name 2) (.c (.bl true)) (.sgn (.var 2) (.c (.str "0123456789"))) [2]) (.nil)))))
    (.ret (.c .non)) .skip)
    (.seq (.ite (.and_ (.stw (.var 1) "0") (.cmp .ne (.var 0) (.c (.str "0"))))
    (.ret (.c .non)) .skip)
    (.ret (.blt .sint (.cons (.var 0) (.nil)))))) [some (.str z), some (.str dg), none] S) Q := by
  have hmo := most_big
  have ld : dg.length = (TL.numL m).length := by rw [TL.len_tl, ed]
  have l1 : 1 ≤ (TL.numL m).length := List.length_pos_iff.mpr (TL.numL_ne m)
  have l2 : (TL.numL m).length ≤ 12 := TL.numL_len (by decide) hm
  refine seq_M (fun env S1 => env = [some (.str z), some (.str dg), none] ∧ Lq S S1) ?_ ?_
  · have hc : ev (run T n) (.chain .le .le (.c (.int 1)) (.blt .slen (.cons (.var 1) (.nil))) (.c (.int 12))) [some (.str z), some (.str dg), none] S = some (.bl true, S) := by
      simp_all? only [q_slen (show dg.length ≤ most by omega)]
      rw [decide_eq_true (by omega), decide_eq_true (by omega)]
    refine ite_M (tst_M (M_or (M_not (M_is hc ⟨true, rfl, .inl ⟨rfl, ?_⟩⟩))))
    refine M_not ?_
    refine M_allT (S1 := S) (ds := [.str dg]) (its := (TL.tl dg).map fun c => .str ⟨#[c]⟩) (by decide) (by simp_all? only []) (Lq.refl _) rfl (by rw [List.length_map, ed]; omega) (fun k x S9 hi l9 => ?_) (fun _ _ => rfl) fun S9 l9 => ⟨true, rfl, false, rfl, ?_⟩
    · obtain ⟨c, hc, hcm, rfl⟩ := map_get hi
      refine ⟨_, rfl, ?_⟩
      rw [ed] at hcm
      have hd := all_digit (TL.numL_digits m c hcm)
      simp_all? only [wipeD]
      refine ⟨?_, Lq.refl _⟩
      exact congrArg D.bl (decide_eq_true hd)
    · simp only [Bool.false_eq_true, if_false]
      exact ⟨_, rfl, rfl, rfl, l9⟩
  rintro _ S1 ⟨rfl, l⟩
  refine seq_M (fun env S2 => env = [some (.str z), some (.str dg), none] ∧ Lq S S2) ?_ ?_
  · refine ite_B (B := false) ?_ (fun h => by cases h) fun _ => ?_
    · have e : ev (run T n) (.stw (.var 1) "0") [some (.str z), some (.str dg), none] S1 = some (.bl (decide ((TL.tl dg).head? = some 48)), S1) := by
        simp_all? only [sw1 zero1]
      have e2 : ev (run T n) (.cmp .ne (.var 0) (.c (.str "0"))) [some (.str z), some (.str dg), none] S1 = some (.bl (!decide (z = "0")), S1) := by
        simp_all? only [q_neS]
      rw [and_ev e e2]
      by_cases h : (TL.tl dg).head? = some 48
      · rw [ed] at h
        have := h0 (numL_head m h)
        subst this
        rw [decide_eq_true (show z = "0" by rw [ez]; decide +kernel), Bool.not_true, Bool.and_false]
      · rw [decide_eq_false h, Bool.false_and]
    · exact ⟨_, rfl, rfl, rfl, l⟩
  rintro _ S2 ⟨rfl, l⟩
  simp? only []
  show M (if z.length ≤ 640 then (PySem.intText? z).map fun n => (D.int n, S2) else none) _
  rw [if_pos lz, hz, Option.map_some, M_some]
  exact hq _ _ l
theorem number_from_ok {n : Nat} {S : Hd} {i : Int} (h : i.natAbs < 10 ^ 12) : Pu (run T (n + 1) 139 [.str (toString i)] S) (.int i) S := by
  refine Pu.run T_number_from rfl ?_
  show M (ex (run T n) b_number_from [some (.str (toString i)), none, none] S) _
  unfold b_number_from
  have hmo := most_big
  rcases int_cases i with ⟨m, rfl⟩ | ⟨m, rfl⟩
  · have hm : m < 10 ^ 12 := by rw [Int.natAbs_natCast] at h; exact h
    have l2 : (TL.numL m).length ≤ 12 := TL.numL_len (by decide) hm
    have ez : TL.tl (Str.ofString (toString (m : Int))) = TL.numL m := TL.tl_num m
    refine seq_M (fun env S1 => env = [some (.str (toString (m : Int))), some (.str (toString (m : Int))), none] ∧ S1 = S) ?_ ?_
    · refine asg_M (M_iteB (B := false) ?_ (fun h => by cases h) fun _ => ?_)
      · simp_all? only [sw1 minus1, ez]
        rw [decide_eq_false]
        intro e
        cases e1 : TL.numL m with
        | nil => exact TL.numL_ne m e1
        | cons a l =>
          rw [e1] at e
          have := TL.numL_digits m a (by rw [e1]; exact List.mem_cons_self)
          simp only [List.head?_cons, Option.some.injEq] at e
          omega
      · simp_all? only []
        exact ⟨trivial, trivial, trivial⟩
    rintro _ _ ⟨rfl, rfl⟩
    refine from_digits (m := m) rfl ez hm (by omega) (TL.int_num (by omega)) (by rw [TL.len_tl, ez]; omega) fun env S' l => ?_
    simp? only []
    exact ⟨trivial, l⟩
  · have hm : m + 1 < 10 ^ 12 := by omega
    have l2 : (TL.numL (m + 1)).length ≤ 12 := TL.numL_len (by decide) hm
    have ez := tl_neg m
    have lz : (Str.ofString (toString (-((m + 1 : Nat) : Int)))).length = (TL.numL (m + 1)).length + 1 := by rw [TL.len_tl, ez]; rfl
    have ec : TL.tl (cutS (Str.ofString (toString (-((m + 1 : Nat) : Int)))) (some 1) none) = TL.numL (m + 1) := by
      show ((TL.tl (Str.ofString (toString (-((m + 1 : Nat) : Int))))).drop (HT.sIx _ 0 (some 1))).take _ = _
      rw [ez, lz]
      have e1 : HT.sIx ((TL.numL (m + 1)).length + 1) 0 (some 1) = 1 := by
        simp only [HT.sIx]
        rw [if_neg (by decide), show (1 : Int).toNat = 1 from rfl]
        omega
      have e2 : HT.sIx ((TL.numL (m + 1)).length + 1) ((TL.numL (m + 1)).length + 1) none = (TL.numL (m + 1)).length + 1 := rfl
      rw [e1, e2]
      show (TL.numL (m + 1)).take _ = _
      exact List.take_of_length_le (by omega)
    refine seq_M (fun env S1 => env = [some (.str (toString (-((m + 1 : Nat) : Int)))), some (.str (cutS (toString (-((m + 1 : Nat) : Int))) (some 1) none)), none] ∧ S1 = S) ?_ ?_
    · refine asg_M (M_iteB (B := true) ?_ (fun _ => ?_) (fun h => by cases h))
      · simp_all? only [sw1 minus1, ez]
        rw [decide_eq_true (by rfl)]
      · simp_all? only []
        show M (if (Str.ofString (toString (-((m + 1 : Nat) : Int)))).length ≤ most then _ else none) _
        rw [if_pos (by omega), M_some]
        exact ⟨trivial, rfl, rfl⟩
    rintro _ _ ⟨rfl, rfl⟩
    have ei : PySem.intText? (Str.ofString (toString (-((m + 1 : Nat) : Int)))) = some (-((m + 1 : Nat) : Int)) := by
      have := PySem.intText_neg (x := Str.ofString (toString (-((m + 1 : Nat) : Int)))) (cs := TL.numL (m + 1)) ez (TL.numL_digits _) (TL.numL_ne _) (by omega)
      rw [TL.numL_val] at this
      exact this
    refine from_digits (m := m + 1) rfl ec hm (by omega) ei (by omega) fun env S' l => ?_
    simp? only []
    exact ⟨trivial, l⟩
end Lw

namespace Lw
open PySem L2 Ix
/-! ### the words of a text, read -/
theorem word_at_ok {n q i : Nat} {S : Hd} {ws : List Str} {w : Str} (g : S[q]? = some (.lst (ws.map .str))) (h : ws[i]? = some w) : Pu (run T (n + 1) 137 [.ref q, .int (i : Int)] S) (.str w) S := by
  have hi := (List.getElem?_eq_some_iff.mp h).1
  refine Pu.run T_word_at rfl ?_
  show M (ex (run T n) b_word_at [some (.ref q), some (.int (i : Int))] S) _
  unfold b_word_at
  refine seq_Mx (ite_B (B := false) (by simp_all? only [q_len (q_seqL g), List.length_map]; rw [decide_eq_false (by omega)]) (fun h => by cases h) fun _ => ?_)
  rw [show ∀ env, ex (run T n) .skip env S = some (.nx, env, S) from fun _ => rfl]
  simp only [M_some, ex, ev, M_bind, M_map, M_some, M_ite, t_eq, a_tup, al_eq, List.getElem?_cons_zero, List.getElem?_cons_succ, Option.bind_some, Option.map_some, q_add, q_sub, q_lt, q_le, q_gt, q_ge, q_eqI, q_neI, q_eqB, q_neB, q_isN, q_notN, Ix.isNon, q_ixT, q_ixR, atI_0, atI_1, atI_2, atI_3, atI_4, atI_5, atI_6, atI_7, q_slT, q_slR, q_revT, q_seqT, q_int, q_intB, q_max, q_min, q_abs, q_tupT, n_tup, n_int, n_bl, n_non, n_str, isi_ii, isi_ib, isi_tt, isi_itl, isi_btl, isi_ttl, isi_tl, isi_bb, u_bl, u_int, u_non, u_tup, g_name, g_tup, g_nil, g_cons, o_ret, o_nx, i_seq, List.set_cons_zero, List.set_cons_succ, decide_eq_true_eq, Bool.not_eq_true', decide_eq_false_iff_not, evP, Bool.false_eq_true, if_true, if_false, ite_true, ite_false, reduceIte, Bool.not_true, Bool.not_false, Option.some.injEq, q_pow10, Int.reduceToNat, Int.reducePow, Int.reduceAdd, Int.reduceSub, Int.reduceMul, Int.reduceNeg, Int.reduceLT, Int.reduceLE, Nat.reducePow, Nat.reduceLT, Nat.reduceLeDiff, Nat.reduceAdd, List.length_cons, List.length_nil, Int.neg_neg, q_ixL g, str_at h]
  exact ⟨trivial, Lq.refl _⟩
theorem check_end_ok {n q i : Nat} {S : Hd} {ws : List Str} (g : S[q]? = some (.lst (ws.map .str))) (h : ws.length ≤ i) : Pu (run T (n + 1) 136 [.ref q, .int (i : Int)] S) .non S := by
  refine Pu.run T_check_end rfl ?_
  show M (ex (run T n) b_check_end [some (.ref q), some (.int (i : Int))] S) _
  unfold b_check_end
  refine ite_B (B := false) (by simp_all? only [q_len (q_seqL g), List.length_map]; rw [decide_eq_false (by omega)]) (fun h => by cases h) fun _ => ?_
  simp? only []
  exact ⟨trivial, Lq.refl _⟩
theorem in_tup {S : Hd} {ks : List Str} {kd : Str} : cmpD .in_ (.str kd) (.tup (ks.map .str)) S = some (.bl (decide (kd ∈ ks)), S) := by
  rw [q_in (x := .str kd) rfl q_seqT (by rw [List.all_map, List.all_eq_true]; intro _ _; rfl)]
  congr 3
  rw [List.any_map, Bool.eq_iff_iff, List.any_eq_true, decide_eq_true_iff]
  constructor
  · rintro ⟨x, hx, e⟩
    have : x = kd := by simpa [eqF] using e
    rw [← this]; exact hx
  · intro h
    exact ⟨kd, h, by simp [eqF]⟩
theorem fold_word (i : Nat) : D.str (strOf (foldS i)) = foldS i := by
  match i with
  | 0 => rfl
  | 1 => rfl
  | _ + 2 => rfl
theorem gap_word (i : Nat) : D.str (strOf (gapS i)) = gapS i := by
  match i with
  | 0 => rfl
  | 1 => rfl
  | _ + 2 => rfl
theorem item_word {n : Nat} {S : Hd} {role : Str} {d : D} (h : role = "fold" ∨ role = "gap") (e : D.str (strOf d) = d) : Pu (run T (n + 2) 140 [.str role, .str (strOf d)] S) d S := by
  refine Pu.run T_item_from rfl ?_
  show M (ex (run T (n + 1)) b_item_from [some (.str role), some (.str (strOf d))] S) _
  unfold b_item_from
  have e2 : ∀ S, cmpD .in_ (.str role) (.tup [.str "fold", .str "gap"]) S = some (.bl true, S) := fun S => by
    have := in_tup (S := S) (ks := ["fold", "gap"]) (kd := role)
    rw [decide_eq_true (by rcases h with rfl | rfl <;> simp)] at this
    exact this
  refine seq_Mx (ite_B (B := true) (by simp_all? only [show (2 : Nat) ≤ most by decide, e2]) (fun _ => ?_) (fun h => by cases h))
  simp? only []
  exact ⟨e, Lq.refl _⟩
theorem item_num {n : Nat} {S : Hd} {role : Str} {i : Int} (h : role ≠ "fold" ∧ role ≠ "gap") (hi : i.natAbs < 10 ^ 12) : Pu (run T (n + 2) 140 [.str role, .str (strOf (.int i))] S) (.int i) S := by
  refine Pu.run T_item_from rfl ?_
  show M (ex (run T (n + 1)) b_item_from [some (.str role), some (.str (strOf (.int i)))] S) _
  unfold b_item_from
  have e2 : ∀ S, cmpD .in_ (.str role) (.tup [.str "fold", .str "gap"]) S = some (.bl false, S) := fun S => by
    have := in_tup (S := S) (ks := ["fold", "gap"]) (kd := role)
    rw [decide_eq_false (by simp only [List.mem_cons, List.not_mem_nil, or_false, not_or]; exact h)] at this
    exact this
  refine seq_Mx (ite_B (B := false) (by simp_all? only [show (2 : Nat) ≤ most by decide, e2]) (fun h => by cases h) (fun _ => ?_))
  rw [show ∀ env, ex (run T (n + 1)) .skip env S = some (.nx, env, S) from fun _ => rfl]
  simp? only [M_some]
  refine (number_from_ok hi).use fun S1 l1 => ?_
  simp? only []
  exact ⟨trivial, l1⟩
theorem part_int {i : Int} (h : Part (.int i)) : i.natAbs < 10 ^ 12 := by
  rcases h with ⟨z, e, _⟩ | ⟨j, e, h⟩
  · cases e
  · cases e
    exact h
theorem item_from_ok {n nz : Nat} {S : Hd} {ks : List Str} {role : Str} {d : D} (h : RoleOk nz ks role d) (p : Part d) : Pu (run T (n + 2) 140 [.str role, .str (strOf d)] S) d S := by
  cases h with
  | fold i => exact item_word (.inl rfl) (fold_word i)
  | gap i => exact item_word (.inr rfl) (gap_word i)
  | place y h => exact item_num ⟨by decide, by decide⟩ (part_int p)
  | minutes m h1 h2 => exact item_num ⟨by decide, by decide⟩ (part_int p)
  | time v k h hk => exact item_num ⟨by decide, by decide⟩ (part_int p)
  | mom v h => exact item_num ⟨by decide, by decide⟩ (part_int p)
  | rea v h => exact item_num ⟨by decide, by decide⟩ (part_int p)
  | spa v h => exact item_num ⟨by decide, by decide⟩ (part_int p)
theorem roles_in {nz : Nat} {ks : List Str} {d : Dd} (h : okD nz ks d) : ∀ role ∈ rolesD d, role ∈ (["moment", "reading", "span"] : List Str) → role ∈ ks := fun role hr hk => by
  obtain ⟨i, hi, e⟩ := List.getElem_of_mem hr
  have rl := (roles_len d).1
  have r := role_ok h i role (restD d)[i] (by rw [List.getElem?_eq_getElem hi, e]) (List.getElem?_eq_getElem (by omega))
  generalize (restD d)[i] = it at r
  cases r with
  | mom v h => exact List.mem_of_getElem? h
  | rea v h => exact List.mem_of_getElem? h
  | spa v h => exact List.mem_of_getElem? h
  | _ => exact absurd hk (by decide)
theorem can_begin_ok {n r nz : Nat} {S : Hd} {plan : List Dd} {d : Dd} (g : S[r]? = some (.lst ((rowOf plan).map .str))) (h8 : plan.length ≤ 8) (h : okD nz (rowOf plan) d) (he : isEd d = true → plan.filter isEd = []) :
    Pu (run T (n + 1) 138 [.ref r, planD plan, .str (wd d)] S) (.bl true) S := by
  have hm := most_big
  refine Pu.run T_can_begin rfl ?_
  show M (ex (run T n) b_can_begin [some (.ref r), some (planD plan), some (.str (wd d)), none, none] S) _
  unfold b_can_begin
  have ep : ∀ S2, seqOf S2 (planD plan) = some (plan.map ddD) := fun _ => rfl
  refine seq_Mx (ite_B (B := false) ?_ (fun h => by cases h) fun _ => ?_)
  · show some (D.bl (!(lookC stepT (wd d)).isSome), S) = _
    rw [step_look]
    rfl
  rw [show ∀ env, ex (run T n) .skip env S = some (.nx, env, S) from fun _ => rfl]
  simp only [M_some]
  refine seq_M (fun env S1 => env = [some (.ref r), some (planD plan), some (.str (wd d)), none, none] ∧ Lq S S1) ?_ ?_
  · refine ite_M (tst_M (M_andb (M_is (v := (.bl (isEd d), S)) (by simp_all? only [q_eqS, wd_ed]) ?_)))
    cases hd : isEd d with
    | false => exact .inr ⟨rfl, false, rfl, by simp only [Bool.false_eq_true, if_false]; exact ⟨_, rfl, rfl, rfl, Lq.refl _⟩⟩
    | true =>
      refine .inl ⟨rfl, M_cmp (M_is (v := (.str (wd d), S)) (by simp_all? only []) ?_)⟩
      refine M_lcx plan ddD (fun _ => true) (fun d => .str (wd d)) (by decide) ?_ (by omega) (fun d S2 hd l2 => ⟨_, rfl, ?_⟩) fun j S2 hj g l2 => ?_
      · simp_all? only []
        exact ⟨_, _, rfl, Lq.refl _, fun S2 _ => ep S2⟩
      · simp_all? only [wipeD, dd_0]
        exact ⟨trivial, Lq.refl _, fun _ => ⟨trivial, Lq.refl _⟩⟩
      · rw [filt_true] at g
        have g' : S2[j]? = some (.lst ((plan.map wd).map .str)) := by rw [g, List.map_map]; rfl
        rw [in_strs g', decide_eq_false, M_some]
        · refine ⟨false, rfl, ?_⟩
          simp only [Bool.false_eq_true, if_false]
          exact ⟨_, rfl, rfl, rfl, l2⟩
        · intro hx
          obtain ⟨x, hx, e⟩ := List.mem_map.mp hx
          have ew : wd d = "edition" := by have := wd_ed d; rw [hd] at this; exact of_decide_eq_true this
          have : isEd x = true := by rw [← wd_ed, e, ew]; exact decide_eq_true rfl
          have : x ∈ plan.filter isEd := List.mem_filter.mpr ⟨hx, this⟩
          rw [he hd] at this
          cases this
  rintro _ S1 ⟨rfl, l1⟩
  have g1 := l1 _ _ g
  have r4 := roles_len d
  refine ret_M (M_blt1 (M_lcx (rolesD d) .str (fun x => decide (x ∈ (["moment", "reading", "span"] : List Str))) (fun _ => .bl true) (by decide) ?_ (by omega) (fun x S2 hx l2 => ⟨_, rfl, ?_⟩) fun j S2 hj g2 l2 => ?_))
  · refine M_args1 ?_
    refine M_is (v := (.tup ((rolesD d).map .str), S1)) ?_ ⟨_, _, rfl, Lq.refl _, fun S2 _ => rfl⟩
    show (lookC stepT (wd d)).map (fun x => (x, S1)) = _
    rw [step_look]
    rfl
  · have ek : ∀ S2, cmpD .in_ (.str x) (.tup [.str "moment", .str "reading", .str "span"]) S2 = some (.bl (decide (x ∈ (["moment", "reading", "span"] : List Str))), S2) := fun S2 => in_tup (ks := ["moment", "reading", "span"])
    simp_all? only [wipeD, ek, tst]
    refine ⟨trivial, Lq.refl _, fun hx2 => ?_⟩
    simp only [in_strs (l2 _ _ g1), M_some]
    rw [decide_eq_true (roles_in h x hx hx2)]
    exact ⟨rfl, Lq.refl _⟩
  · have g3 : S2[j]? = some (.lst ((((rolesD d).filter fun x => decide (x ∈ (["moment", "reading", "span"] : List Str))).map fun _ => true).map .bl)) := by rw [g2, List.map_map]; rfl
    simp? only [q_all g3, M_some]
    refine ⟨?_, l1.trans l2⟩
    congr 1
    rw [List.all_map, List.all_eq_true]
    intro _ _
    rfl
end Lw

namespace Lw
open PySem L2 Ix
theorem valid_take {nz : Nat} {plan : List Dd} (hv : Valid nz plan) (j : Nat) : Valid nz (plan.take j) where
  ok := fun t d h => by
    rw [List.getElem?_take] at h
    split at h
    · rename_i lt
      rw [List.take_take, Nat.min_eq_left (by omega)]
      exact hv.ok t d h
    · cases h
  short := by
    have := hv.short
    rw [List.length_take]
    omega
  one := Nat.le_trans ((List.take_sublist j plan).filter isEd).length_le hv.one
theorem ed_free {nz j : Nat} {plan : List Dd} {d : Dd} (hv : Valid nz plan) (h : plan[j]? = some d) (he : isEd d = true) : (plan.take j).filter isEd = [] := by
  have o := (valid_take hv (j + 1)).one
  rw [List.take_add_one, h, List.filter_append, List.length_append] at o
  have e : ((some d).toList.filter isEd).length = 1 := by simp [List.filter_cons, he]
  rw [e] at o
  exact List.eq_nil_of_length_eq_zero (by omega)
theorem step_from_ok {n q p : Nat} {S : Hd} {zs : Zs} {plan : List Dd} {d : Dd} {ws : List Str} (hv : Valid zs.length plan) (hd : okD zs.length (rowOf plan) d) (he : isEd d = true → plan.filter isEd = []) (hp : ∀ x ∈ partsD d, Part x) (g : S[q]? = some (.lst (ws.map .str)))
    (hw : ∀ (i : Nat) (x : D), (partsD d)[i]? = some x → ws[p + i]? = some (strOf x)) : Pu (run T (n + 5) 141 [beltsD zs, planD plan, .ref q, .int (p : Int)] S) (ddD d) S := by
  have hm := most_big
  obtain ⟨rl, r4⟩ := roles_len d
  refine Pu.run T_step_from rfl ?_
  show M (ex (run T (n + 4)) b_step_from [some (beltsD zs), some (planD plan), some (.ref q), some (.int (p : Int)), none, none, none, none, none, none] S) _
  unfold b_step_from
  refine seq_M (fun env S1 => ∃ r : Nat, env = [some (beltsD zs), some (planD plan), some (.ref q), some (.int (p : Int)), some (.ref r), none, none, none, none, none] ∧ S1[r]? = some (.lst ((rowOf plan).map .str)) ∧ Lq S S1) ?_ ?_
  · refine asg_M (M_call1 (var_M rfl ?_))
    refine (kinds_of_values_ok (n := n + 2) hv).imp ?_
    rintro _ ⟨r, S1, rfl, _, gr, l1⟩
    exact ⟨rfl, r, rfl, gr, l1⟩
  rintro _ S1 ⟨r, rfl, gr, l1⟩
  refine seq_M (fun env S2 => env = [some (beltsD zs), some (planD plan), some (.ref q), some (.int (p : Int)), some (.ref r), some (.str (wd d)), none, none, none, none] ∧ Lq S1 S2) ?_ ?_
  · refine asg_M (M_call2 (var_M rfl (var_M rfl ?_)))
    refine (word_at_ok (n := n + 3) (l1 _ _ g) (hw 0 (.str (wd d)) rfl)).use fun S2 l2 => ?_
    exact ⟨rfl, rfl, l2⟩
  rintro _ S2 ⟨rfl, l2⟩
  refine seq_M (fun env S3 => env = [some (beltsD zs), some (planD plan), some (.ref q), some (.int (p : Int)), some (.ref r), some (.str (wd d)), none, none, none, none] ∧ Lq S1 S3) ?_ ?_
  · refine ite_M (tst_M (M_not ?_))
    simp_all? only []
    refine (can_begin_ok (n := n + 3) (l2 _ _ gr) hv.short hd he).use fun S3 l3 => ?_
    refine ⟨true, rfl, _, rfl, ?_⟩
    simp only [Bool.not_true, Bool.false_eq_true, if_false]
    exact ⟨_, rfl, rfl, rfl, l2.trans l3⟩
  rintro _ S3 ⟨rfl, l3⟩
  refine seq_M (fun env S4 => env = [some (beltsD zs), some (planD plan), some (.ref q), some (.int (p : Int)), some (.ref r), some (.str (wd d)), some (.tup [.str (wd d)]), none, none, none] ∧ S3 = S4) ?_ ?_
  · simp? only [show (1 : Nat) ≤ most by decide]
    exact ⟨trivial, trivial, trivial⟩
  rintro _ _ ⟨rfl, rfl⟩
  have l03 := l1.trans l3
  refine seq_M (fun env S4 => ∃ v7 v8 v9 : Option D, env = [some (beltsD zs), some (planD plan), some (.ref q), some (.int (p : Int)), some (.ref r), some (.str (wd d)), some (.tup (.str (wd d) :: restD d)), v7, v8, v9] ∧ Lq S S4) ?_ ?_
  · refine for_M (M_args1 (M_is (v := (.tup ((rolesD d).map .str), S3)) ?_ ⟨_, _, rfl, rfl, ?_⟩))
    · show (lookC stepT (wd d)).map (fun x => (x, S3)) = _
      rw [step_look]
      rfl
    refine M_loopS (m := 0) (fun i env S4 => ∃ v7 v8 v9 : Option D, env = [some (beltsD zs), some (planD plan), some (.ref q), some (.int (p : Int)), some (.ref r), some (.str (wd d)), some (.tup (.str (wd d) :: (restD d).take i)), v7, v8, v9] ∧ Lq S3 S4) ⟨none, none, none, rfl, Lq.refl _⟩ ?_ ?_
    · rintro i x env S4 hi ⟨v7, v8, v9, rfl, l4⟩
      obtain ⟨role, hr, _, rfl⟩ := map_get hi
      have il := (List.getElem?_eq_some_iff.mp hr).1
      obtain ⟨item, hit⟩ : ∃ item, (restD d)[i]? = some item := ⟨_, List.getElem?_eq_getElem (by omega)⟩
      have ro := role_ok hd i role item hr hit
      have pi : (partsD d)[i + 1]? = some item := by
        unfold partsD
        rw [List.getElem?_cons_succ]
        exact hit
      have pp := hp item (List.mem_of_getElem? pi)
      have tl : ((restD d).take i).length = i := by rw [List.length_take]; omega
      simp only [Nat.zero_add]
      simp only [asgG, Option.bind_some, List.set_cons_succ, List.set_cons_zero]
      refine seq_M (fun env S5 => env = [some (beltsD zs), some (planD plan), some (.ref q), some (.int (p : Int)), some (.ref r), some (.str (wd d)), some (.tup (.str (wd d) :: (restD d).take i)), some (.str role), some (.int ((p + (i + 1) : Nat) : Int)), v9] ∧ S4 = S5) ?_ ?_
      · simp? only [q_len (q_seqT), List.length_cons, tl]
        refine ⟨trivial, ?_, trivial⟩
        rw [show (p : Int) + ((i + 1 : Nat) : Int) = ((p + (i + 1) : Nat) : Int) by omega]
      rintro _ _ ⟨rfl, rfl⟩
      refine seq_M (fun env S5 => env = [some (beltsD zs), some (planD plan), some (.ref q), some (.int (p : Int)), some (.ref r), some (.str (wd d)), some (.tup (.str (wd d) :: (restD d).take i)), some (.str role), some (.int ((p + (i + 1) : Nat) : Int)), some item] ∧ Lq S4 S5) ?_ ?_
      · refine asg_M (M_call2 (var_M rfl (M_call2 (var_M rfl (var_M rfl ?_)))))
        refine (word_at_ok (n := n + 3) (l4 _ _ (l03 _ _ g)) (hw (i + 1) item pi)).use fun S5 l5 => ?_
        refine (item_from_ok (n := n + 2) ro pp).use fun S6 l6 => ?_
        exact ⟨rfl, rfl, l5.trans l6⟩
      rintro _ S5 ⟨rfl, l5⟩
      refine seq_M (fun env S6 => env = [some (beltsD zs), some (planD plan), some (.ref q), some (.int (p : Int)), some (.ref r), some (.str (wd d)), some (.tup (.str (wd d) :: (restD d).take i)), some (.str role), some (.int ((p + (i + 1) : Nat) : Int)), some item] ∧ Lq S4 S6) ?_ ?_
      · refine ite_M (tst_M (M_not ?_))
        simp_all? only []
        refine (fits_role_ok (n := n) (l5 _ _ (l4 _ _ (l3 _ _ gr))) ro).use fun S6 l6 => ?_
        refine ⟨true, rfl, _, rfl, ?_⟩
        simp only [Bool.not_true, Bool.false_eq_true, if_false]
        exact ⟨_, rfl, rfl, rfl, l5.trans l6⟩
      rintro _ S6 ⟨rfl, l6⟩
      simp? only [show (1 : Nat) ≤ most by decide]
      rw [q_addT (by simp only [List.length_cons, List.length_nil, tl]; omega)]
      simp? only []
      refine ⟨trivial, some (.str role), some (.int ((p + (i + 1) : Nat) : Int)), some item, ?_, l4.trans l6⟩
      rw [List.take_add_one, hit]
      rfl
    · rintro env S4 ⟨v7, v8, v9, rfl, l4⟩
      rw [Nat.zero_add, List.length_map, rl, List.take_length]
      exact ⟨rfl, v7, v8, v9, rfl, l03.trans l4⟩
  rintro _ S4 ⟨v7, v8, v9, rfl, l4⟩
  simp? only []
  exact ⟨(dd_rest d).symm, l4⟩
end Lw

namespace Lw
open PySem L2 Ix
/-! ### a tale read back from its words -/
def wordsOf (d : Dd) : List Str := (partsD d).map strOf
def flat : List Dd → List Str
  | [] => []
  | [d] => wordsOf d
  | d :: e :: r => wordsOf d ++ ("then" : Str) :: flat (e :: r)
def flatT (plan : List Dd) : List Str := if plan = [] then ["-"] else flat plan
theorem words_ne (d : Dd) : wordsOf d ≠ [] := by simp [wordsOf, partsD]
theorem flat_app : ∀ {a b : List Dd}, a ≠ [] → b ≠ [] → flat (a ++ b) = flat a ++ ("then" : Str) :: flat b
  | [], _, h, _ => absurd rfl h
  | [x], [], _, h => absurd rfl h
  | [x], e :: r, _, _ => rfl
  | x :: y :: a, b, _, hb => by
    have ih := flat_app (a := y :: a) (by simp) hb
    show wordsOf x ++ ("then" : Str) :: flat (y :: a ++ b) = _
    rw [ih]
    show _ = (wordsOf x ++ ("then" : Str) :: flat (y :: a)) ++ ("then" : Str) :: flat b
    rw [List.append_assoc, List.cons_append]
theorem flat_cons (x : Dd) (r : List Dd) : ∃ t, flat (x :: r) = wordsOf x ++ t := by
  cases r with
  | nil => exact ⟨[], by rw [List.append_nil]; rfl⟩
  | cons e r => exact ⟨_, rfl⟩
theorem flat_ne : ∀ {plan : List Dd}, plan ≠ [] → flat plan ≠ []
  | [], h => absurd rfl h
  | x :: r, _ => by
    obtain ⟨t, e⟩ := flat_cons x r
    rw [e]
    intro h
    exact words_ne x (List.append_eq_nil_iff.mp h).1
theorem joinL_app {s : List Nat} : ∀ {a b : List (List Nat)}, a ≠ [] → b ≠ [] → TL.joinL s (a ++ b) = TL.joinL s a ++ s ++ TL.joinL s b
  | [], _, h, _ => absurd rfl h
  | [x], [], _, h => absurd rfl h
  | [x], e :: r, _, _ => by
    show x ++ (s ++ TL.joinL s (e :: r)) = x ++ s ++ TL.joinL s (e :: r)
    rw [List.append_assoc]
  | x :: y :: a, b, _, hb => by
    have ih := joinL_app (s := s) (a := y :: a) (by simp) hb
    show x ++ (s ++ TL.joinL s (y :: a ++ b)) = (x ++ (s ++ TL.joinL s (y :: a))) ++ s ++ TL.joinL s b
    rw [ih]
    simp only [List.append_assoc]
theorem then_tl : TL.tl (" then " : Str) = [32] ++ TL.tl ("then" : Str) ++ [32] := by decide +kernel
theorem blank_tl : TL.tl (" " : Str) = [32] := by decide +kernel
theorem tl_joinT (y : Str) (parts : List Str) : TL.tl (Txt.join y parts) = TL.joinL (TL.tl y) (parts.map TL.tl) := by rw [TL.join_eq, TL.tl_join]
theorem join_flat : ∀ {plan : List Dd}, plan ≠ [] → Txt.join " then " (plan.map fun d => joinP (partsD d)) = Txt.join " " (flat plan)
  | [], h => absurd rfl h
  | [d], _ => by
    refine TL.ext_tl ?_
    rw [tl_joinT, tl_joinT]
    show TL.tl (joinP (partsD d)) = _
    unfold joinP
    rw [tl_joinT]
    rfl
  | d :: e :: r, _ => by
    have ih := congrArg TL.tl (join_flat (plan := e :: r) (by simp))
    rw [tl_joinT, tl_joinT] at ih
    refine TL.ext_tl ?_
    rw [tl_joinT, tl_joinT]
    show TL.tl (joinP (partsD d)) ++ (TL.tl (" then " : Str) ++ TL.joinL (TL.tl (" then " : Str)) (((e :: r).map fun d => joinP (partsD d)).map TL.tl)) = TL.joinL (TL.tl (" " : Str)) ((wordsOf d ++ ("then" : Str) :: flat (e :: r)).map TL.tl)
    rw [ih]
    unfold joinP
    rw [tl_joinT, then_tl, blank_tl, List.map_append, joinL_app (by simp [partsD, wordsOf]) (by simp)]
    rw [List.map_cons, show TL.tl ("then" : Str) :: (flat (e :: r)).map TL.tl = [TL.tl ("then" : Str)] ++ (flat (e :: r)).map TL.tl from rfl, joinL_app (by simp) (by
      intro h
      exact flat_ne (plan := e :: r) (by simp) (List.map_eq_nil_iff.mp h))]
    show TL.joinL [32] ((wordsOf d).map TL.tl) ++ _ = TL.joinL [32] ((wordsOf d).map TL.tl) ++ [32] ++ (TL.tl ("then" : Str) ++ [32] ++ _)
    simp only [List.append_assoc]
theorem text_flat (plan : List Dd) : textF plan = Txt.join " " (flatT plan) := by
  unfold textF flatT
  split
  · refine TL.ext_tl ?_
    rw [tl_joinT]
    rfl
  · rename_i h
    exact join_flat h
def Free (w : Str) : Prop := 32 ∉ TL.tl w
theorem free_int (i : Int) : Free (strOf (.int i)) := PyProof.Rows.int_text_free' 32 ⟨by decide, by decide⟩ i
theorem free_fold (i : Nat) : Free (strOf (foldS i)) := by
  match i with
  | 0 => exact (by decide +kernel : 32 ∉ TL.tl ("early" : Str))
  | 1 => exact (by decide +kernel : 32 ∉ TL.tl ("late" : Str))
  | _ + 2 => exact (by decide +kernel : 32 ∉ TL.tl ("refuse" : Str))
theorem free_gap (i : Nat) : Free (strOf (gapS i)) := by
  match i with
  | 0 => exact (by decide +kernel : 32 ∉ TL.tl ("ahead" : Str))
  | 1 => exact (by decide +kernel : 32 ∉ TL.tl ("behind" : Str))
  | _ + 2 => exact (by decide +kernel : 32 ∉ TL.tl ("refuse" : Str))
theorem free_wd (d : Dd) : Free (wd d) := by
  cases d
  · exact (by decide +kernel : 32 ∉ TL.tl ("add" : Str))
  · exact (by decide +kernel : 32 ∉ TL.tl ("plus" : Str))
  · exact (by decide +kernel : 32 ∉ TL.tl ("less" : Str))
  · exact (by decide +kernel : 32 ∉ TL.tl ("read" : Str))
  · exact (by decide +kernel : 32 ∉ TL.tl ("offset" : Str))
  · exact (by decide +kernel : 32 ∉ TL.tl ("edition" : Str))
  · exact (by decide +kernel : 32 ∉ TL.tl ("find" : Str))
theorem free_words (d : Dd) : ∀ w ∈ wordsOf d, Free w := fun w hw => by
  obtain ⟨x, hx, rfl⟩ := List.mem_map.mp hw
  rcases List.mem_cons.mp hx with rfl | hx
  · exact free_wd d
  cases d <;> simp only [restD, List.mem_cons, List.not_mem_nil, or_false] at hx <;> rcases hx with rfl | hx
  all_goals first | exact free_int _ | skip
  all_goals first | (subst hx; exact free_int _) | skip
  rcases hx with rfl | rfl | rfl
  · exact free_int _
  · exact free_fold _
  · exact free_gap _
theorem free_then : Free "then" := (by decide +kernel : 32 ∉ TL.tl ("then" : Str))
theorem free_flat : ∀ (plan : List Dd), ∀ w ∈ flat plan, Free w
  | [], w, h => by cases h
  | [d], w, h => free_words d w h
  | d :: e :: r, w, h => by
    rcases List.mem_append.mp h with q | q
    · exact free_words d w q
    · rcases List.mem_cons.mp q with rfl | q
      · exact free_then
      · exact free_flat (e :: r) w q
theorem split_text (plan : List Dd) : Txt.split (textF plan) " " = flatT plan := by
  rw [text_flat]
  refine TL.split_join (s := 32) (S := []) blank_tl (by decide +kernel) ?_ ?_
  · unfold flatT
    split
    · simp
    · rename_i h
      exact flat_ne h
  · intro w hw
    unfold flatT at hw
    split at hw
    · rw [List.mem_singleton.mp hw]
      exact (by decide +kernel : 32 ∉ TL.tl ("-" : Str))
    · exact free_flat plan w hw
theorem words_len (d : Dd) : (wordsOf d).length = (partsD d).length := List.length_map _
theorem flat_len : ∀ plan : List Dd, (flat plan).length ≤ 6 * plan.length
  | [] => Nat.le_refl _
  | [d] => by
    have := parts_len d
    show (wordsOf d).length ≤ 6 * 1
    rw [words_len]
    omega
  | d :: e :: r => by
    have := parts_len d
    have ih := flat_len (e :: r)
    show (wordsOf d ++ ("then" : Str) :: flat (e :: r)).length ≤ _
    rw [List.length_append, List.length_cons, words_len, List.length_cons]
    omega
theorem flat_take {plan : List Dd} {j : Nat} (h0 : 0 < j) (h : j < plan.length) : flat plan = flat (plan.take j) ++ ("then" : Str) :: flat (plan.drop j) := by
  have := flat_app (a := plan.take j) (b := plan.drop j) (by intro e; have := congrArg List.length e; rw [List.length_take, List.length_nil] at this; omega) (by intro e; have := congrArg List.length e; rw [List.length_drop, List.length_nil] at this; omega)
  rwa [List.take_append_drop] at this
theorem flat_then {plan : List Dd} {j : Nat} (h0 : 0 < j) (h : j < plan.length) : (flat plan)[(flat (plan.take j)).length]? = some "then" := by
  rw [flat_take h0 h, List.getElem?_append_right (Nat.le_refl _), Nat.sub_self]
  rfl
theorem flat_step {plan : List Dd} {j i : Nat} {d : Dd} {x : D} (h0 : 0 < j) (h : plan[j]? = some d) (hx : (partsD d)[i]? = some x) : (flat plan)[(flat (plan.take j)).length + 1 + i]? = some (strOf x) := by
  have hl := (List.getElem?_eq_some_iff.mp h).1
  have ed : plan.drop j = d :: plan.drop (j + 1) := by
    rw [List.drop_eq_getElem_cons hl]
    congr 1
    exact (List.getElem?_eq_some_iff.mp h).2
  obtain ⟨t, et⟩ := flat_cons d (plan.drop (j + 1))
  rw [flat_take h0 hl, ed, et, List.getElem?_append_right (by omega), show (flat (plan.take j)).length + 1 + i - (flat (plan.take j)).length = i + 1 by omega, List.getElem?_cons_succ]
  have il : i < (wordsOf d).length := by
    rw [words_len]
    exact (List.getElem?_eq_some_iff.mp hx).1
  rw [List.getElem?_append_left il]
  unfold wordsOf
  rw [List.getElem?_map, hx]
  rfl
theorem flat_first {d : Dd} {r : List Dd} {i : Nat} {x : D} (hx : (partsD d)[i]? = some x) : (flat (d :: r))[0 + i]? = some (strOf x) := by
  obtain ⟨t, et⟩ := flat_cons d r
  have il : i < (wordsOf d).length := by
    rw [words_len]
    exact (List.getElem?_eq_some_iff.mp hx).1
  rw [et, Nat.zero_add, List.getElem?_append_left il]
  unfold wordsOf
  rw [List.getElem?_map, hx]
  rfl
theorem flat_more {plan : List Dd} {j : Nat} {d : Dd} (h0 : 0 < j) (h : plan[j]? = some d) : (flat (plan.take (j + 1))).length = (flat (plan.take j)).length + (1 + (partsD d).length) := by
  have hl := (List.getElem?_eq_some_iff.mp h).1
  rw [List.take_add_one, h]
  show (flat (plan.take j ++ [d])).length = _
  rw [flat_app (by intro e; have := congrArg List.length e; rw [List.length_take, List.length_nil] at this; omega) (by simp), List.length_append, List.length_cons]
  show _ + ((wordsOf d).length + 1) = _
  rw [words_len]
  omega
theorem textF_len {nz : Nat} {plan : List Dd} (hv : Valid nz plan) (hz : nz ≤ 2) : (textF plan).length ≤ 1000 := by
  unfold textF
  split
  · exact (by decide +kernel : ("-" : Str).length ≤ 1000)
  · have a := PySem.StrLaws.join_length_le " then " (plan.map fun d => joinP (partsD d))
    have h8 := hv.short
    have b := sum_le (xs := (plan.map fun d => joinP (partsD d)).map (·.length)) (b := 105) fun x hx => by
      obtain ⟨y, hy, rfl⟩ := List.mem_map.mp hx
      obtain ⟨d, hd, rfl⟩ := List.mem_map.mp hy
      have := joinP_le (plan_parts hv hz d hd)
      have := parts_len d
      omega
    have e : ((" then " : Str)).length = 6 := rfl
    rw [List.length_map, List.length_map] at b
    rw [List.length_map, e] at a
    rw [TL.join_eq]
    omega
end Lw

namespace Lw
open PySem L2 Ix
theorem ev_split {Γ : Fs} {k : Nat} {env : Sl} {S : Hd} {u : Str} {ws : List Str} (hk : env[k]? = some (some (.str u))) (hu : u.length ≤ 1000) (hs : Txt.split u " " = ws) (hw : ws.length ≤ 100) : ev Γ (.split (.var k) " ") env S = some (.ref S.length, S ++ [.lst (ws.map .str)]) := by
  have hm := most_big
  simp only [ev, hk, Option.bind_some]
  rw [if_pos ⟨by decide +kernel, by omega, by rw [hs]; omega⟩, hs]
  rfl
theorem flatT_len {nz : Nat} {plan : List Dd} (hv : Valid nz plan) : (flatT plan).length ≤ 100 := by
  have := hv.short
  have := flat_len plan
  unfold flatT
  split
  · simp
  · omega
theorem M_while {Γ : Fs} {c : E} {b : Sx} {env : Sl} {S : Hd} {Q : Out × Sl × Hd → Prop} (h : M (loopW (fun e S1 => tst (ev Γ c e S1)) (fun e S1 => ex Γ b e S1) most env S) Q) : M (ex Γ (.while_ c b) env S) Q := by
  simp only [ex]
  exact h
theorem read_program_ok {n : Nat} {S : Hd} {zs : Zs} {plan : List Dd} (hz : Belts zs) (hv : Valid zs.length plan) : Pu (run T (n + 7) 142 [beltsD zs, .str (textF plan)] S) (planD plan) S := by
  have hm := most_big
  have h8 := hv.short
  have z2 := hz.l2
  have tl := textF_len hv z2
  have fl := flatT_len hv
  refine Pu.run T_read_program rfl ?_
  show M (ex (run T (n + 6)) b_read_program [some (beltsD zs), some (.str (textF plan)), none, none, none, none] S) _
  unfold b_read_program
  refine seq_M (fun env S1 => env = [some (beltsD zs), some (.str (textF plan)), none, none, none, none] ∧ Lq S S1) ?_ ?_
  · simp? only []
    refine (check_zones_ok (n := n) hz).use fun S1 l1 => ?_
    exact ⟨trivial, trivial, l1⟩
  rintro _ S1 ⟨rfl, l1⟩
  refine seq_M (fun env S2 => ∃ q : Nat, env = [some (beltsD zs), some (.str (textF plan)), some (.ref q), none, none, none] ∧ S2[q]? = some (.lst ((flatT plan).map .str)) ∧ Lq S S2) ?_ ?_
  · refine asg_M (M_is (ev_split rfl tl (split_text plan) fl) ?_)
    exact ⟨rfl, _, rfl, get_new, l1.trans (Lq.app _ _)⟩
  rintro _ S2 ⟨q, rfl, g, l2⟩
  by_cases hp : plan = []
  · subst hp
    have g' : S2[q]? = some (.lst (([("-" : Str)]).map .str)) := g
    have e0 : ∀ S3 : Hd, S3[q]? = some (.lst (([("-" : Str)]).map .str)) → ixD (.ref q) (.int 0) S3 = some (.str "-", S3) := fun S3 g3 => by
      rw [q_ixL g3]
      rfl
    refine seq_Mx (ite_B (B := true) (by simp_all? only [e0 S2 g', q_eqS, decide_true]) (fun _ => ?_) (fun h => by cases h))
    refine seq_M (fun env S3 => env = [some (beltsD zs), some (.str (textF [])), some (.ref q), none, none, none] ∧ Lq S S3) ?_ ?_
    · simp? only []
      refine (check_end_ok (n := n + 5) (i := 1) g' (by simp)).use fun S3 l3 => ?_
      exact ⟨trivial, trivial, l2.trans l3⟩
    rintro _ S3 ⟨rfl, l3⟩
    simp? only []
    exact ⟨rfl, l3⟩
  obtain ⟨d0, r0, e0⟩ : ∃ d0 r0, plan = d0 :: r0 := by
    cases plan with
    | nil => exact absurd rfl hp
    | cons d r => exact ⟨d, r, rfl⟩
  have ef : flatT plan = flat plan := if_neg hp
  rw [ef] at g fl
  have p0 : plan[0]? = some d0 := by rw [e0]; rfl
  have k0 : (flat plan)[0]? = some (wd d0) := by
    have := flat_first (d := d0) (r := r0) (i := 0) (x := .str (wd d0)) rfl
    rw [e0]
    exact this
  have w0 : wd d0 ≠ "-" := by cases d0 <;> (simp only [wd]; decide)
  have at0 : ∀ S3 : Hd, S3[q]? = some (.lst ((flat plan).map .str)) → ixD (.ref q) (.int 0) S3 = some (.str (wd d0), S3) := fun S3 g3 => by
    have := str_at k0
    rw [q_ixL g3, show (0 : Int) = ((0 : Nat) : Int) from rfl, this]
    rfl
  refine seq_Mx (ite_B (B := false) (by simp_all? only [at0 S2 g, q_eqS]; rw [decide_eq_false w0]) (fun h => by cases h) fun _ => ?_)
  rw [show ∀ env, ex (run T (n + 6)) .skip env S2 = some (.nx, env, S2) from fun _ => rfl]
  simp only [M_some]
  have pp := plan_parts hv z2
  refine seq_M (fun env S3 => env = [some (beltsD zs), some (.str (textF plan)), some (.ref q), some (planD [d0]), none, none] ∧ Lq S2 S3) ?_ ?_
  · have vn : Valid zs.length [] := valid_take hv 0
    refine asg_M ?_
    have st := step_from_ok (n := n + 1) (p := 0) (plan := []) vn (hv.ok 0 d0 p0) (fun _ => rfl) (pp d0 (by rw [e0]; exact List.mem_cons_self)) g (by intro i x hx; rw [e0]; exact flat_first hx)
    simp_all? only [show (0 : Nat) ≤ most by decide]
    refine st.use fun S3 l3 => ?_
    simp_all? only [show (1 : Nat) ≤ most by decide]
    exact ⟨trivial, rfl, l3⟩
  rintro _ S3 ⟨rfl, l3⟩
  have ld : ∀ (d : Dd) (S : Hd), bltD .len [ddD d] S = some (.int ((partsD d).length : Nat), S) := fun d S => by
    rw [dd_rest, q_len q_seqT]
    rfl
  refine seq_M (fun env S4 => env = [some (beltsD zs), some (.str (textF plan)), some (.ref q), some (planD [d0]), some (.int ((flat (plan.take 1)).length : Nat)), none] ∧ S3 = S4) ?_ ?_
  · have ei : ∀ S, ixD (planD [d0]) (.int 0) S = some (ddD d0, S) := fun S => rfl
    simp? only [ei, ld]
    refine ⟨trivial, ?_, trivial⟩
    rw [e0]
    show _ = [_, _, _, _, some (D.int ((wordsOf d0).length : Nat)), _]
    rw [words_len]
  rintro _ _ ⟨rfl, rfl⟩
  have g3 := l3 _ _ g
  have lp : 0 < plan.length := List.length_pos_iff.mpr hp
  refine seq_M (fun env S4 => ∃ (v4 v5 : Option D), env = [some (beltsD zs), some (.str (textF plan)), some (.ref q), some (planD plan), v4, v5] ∧ Lq S3 S4) ?_ ?_
  · refine M_while (M_loopW (fun k env S4 => ∃ (j : Nat) (v5 : Option D), 0 < j ∧ j + k = plan.length ∧ env = [some (beltsD zs), some (.str (textF plan)), some (.ref q), some (planD (plan.take j)), some (.int ((flat (plan.take j)).length : Nat)), v5] ∧ Lq S3 S4) ?_ (n := plan.length - 1) (by omega) ⟨1, none, by omega, by omega, by rw [e0]; rfl, Lq.refl _⟩)
    rintro k env S4 ⟨j, v5, j0, jk, rfl, l4⟩
    have g4 := l4 _ _ g3
    have lw : ∀ S5 : Hd, S5[q]? = some (.lst ((flat plan).map .str)) → bltD .len [.ref q] S5 = some (.int ((flat plan).length : Nat), S5) := fun S5 g5 => by rw [q_len (q_seqL g5), List.length_map]
    by_cases hj : j < plan.length
    · obtain ⟨d, hd⟩ : ∃ d, plan[j]? = some d := ⟨_, List.getElem?_eq_getElem hj⟩
      have hlt : (flat (plan.take j)).length < (flat plan).length := (List.getElem?_eq_some_iff.mp (flat_then j0 hj)).1
      refine tst_M ?_
      simp_all? only [lw S4 g4]
      refine ⟨true, by rw [decide_eq_true (by omega)], ?_⟩
      simp only [if_true]
      refine ⟨k - 1, by omega, ?_⟩
      have lj : ∀ S5, bltD .len [planD (plan.take j)] S5 = some (.int (j : Nat), S5) := fun S5 => by
        unfold planD
        rw [q_len q_seqT, List.length_map, List.length_take, Nat.min_eq_left (by omega)]
      refine seq_Mx (ite_M (tst_M (M_or (M_is (v := (.bl false, S4)) (by simp_all? only [q_ixL g4, str_at (flat_then j0 hj), q_neS, decide_true, Bool.not_true]) (.inl ⟨rfl, M_is (v := (.bl false, S4)) (by simp_all? only [lj]; rw [decide_eq_false (by omega)]) ⟨false, rfl, ?_⟩⟩)))))
      simp only [Bool.false_eq_true, if_false]
      rw [show ∀ env, ex (run T (n + 6)) .skip env S4 = some (.nx, env, S4) from fun _ => rfl]
      simp only [M_some]
      refine seq_M (fun env S5 => env = [some (beltsD zs), some (.str (textF plan)), some (.ref q), some (planD (plan.take j)), some (.int ((flat (plan.take j)).length : Nat)), some (ddD d)] ∧ Lq S4 S5) ?_ ?_
      · have st := step_from_ok (n := n + 1) (p := (flat (plan.take j)).length + 1) (plan := plan.take j) (d := d) (valid_take hv j) (hv.ok j d hd) (ed_free hv hd) (pp d (List.mem_of_getElem? hd)) g4 (fun i x hx => flat_step j0 hd hx)
        refine asg_M ?_
        simp_all? only []
        refine Pu.use (v := ddD d) (S := S4) (by exact st) fun S5 l5 => ?_
        exact ⟨trivial, rfl, l5⟩
      rintro _ S5 ⟨rfl, l5⟩
      refine seq_M (fun env S6 => env = [some (beltsD zs), some (.str (textF plan)), some (.ref q), some (planD (plan.take (j + 1))), some (.int ((flat (plan.take j)).length : Nat)), some (ddD d)] ∧ S5 = S6) ?_ ?_
      · have ea : ∀ S6, binD .add (planD (plan.take j)) (.tup [ddD d]) S6 = some (planD (plan.take (j + 1)), S6) := fun S6 => by
          unfold planD
          rw [q_addT (by rw [List.length_map, List.length_take]; simp only [List.length_cons, List.length_nil]; omega), List.take_add_one, hd, List.map_append]
          rfl
        simp? only [show (1 : Nat) ≤ most by decide, ea]
        exact ⟨trivial, trivial, trivial⟩
      rintro _ _ ⟨rfl, rfl⟩
      simp? only [ld]
      refine ⟨j + 1, some (ddD d), by omega, by omega, ?_, l4.trans l5⟩
      rw [flat_more j0 hd]
      simp only [Int.natCast_add, Int.natCast_one]
    · refine tst_M ?_
      have ej : plan.take j = plan := List.take_of_length_le (by omega)
      simp_all? only [lw S4 g4, ej]
      refine ⟨false, by rw [decide_eq_false (by omega)], ?_⟩
      simp only [Bool.false_eq_true, if_false]
      exact ⟨trivial, _, _, rfl, l4⟩
  rintro _ S4 ⟨v4, v5, rfl, l4⟩
  simp? only []
  exact ⟨trivial, l2.trans (l3.trans l4)⟩
end Lw

namespace Lw
open PySem L2 Ix
/-! ### a wish read back -/
theorem wRest_int (w : Ww) : ∀ x ∈ wRest w, ∃ i : Int, x = .int i := by
  cases w <;> simp only [wRest, List.mem_cons, List.not_mem_nil, or_false] <;> intro x hx
  · cases hx
  · rcases hx with rfl | rfl <;> exact ⟨_, rfl⟩
  · rcases hx with rfl | rfl <;> exact ⟨_, rfl⟩
  · rcases hx with rfl | rfl | rfl <;> exact ⟨_, rfl⟩
theorem free_w (w : Ww) : ∀ x ∈ (wPs w).map strOf, Free x := fun x hx => by
  obtain ⟨d, hd, rfl⟩ := List.mem_map.mp hx
  rw [wPs_eq] at hd
  rcases List.mem_cons.mp hd with rfl | hd
  · cases w
    · exact (by decide +kernel : 32 ∉ TL.tl ("found" : Str))
    · exact (by decide +kernel : 32 ∉ TL.tl ("same" : Str))
    · exact (by decide +kernel : 32 ∉ TL.tl ("order" : Str))
    · exact (by decide +kernel : 32 ∉ TL.tl ("near" : Str))
  · obtain ⟨i, rfl⟩ := wRest_int w d hd
    exact free_int i
theorem split_w (w : Ww) : Txt.split (joinP (wPs w)) " " = (wPs w).map strOf := by
  unfold joinP
  exact TL.split_join (s := 32) (S := []) blank_tl (by decide +kernel) (by rw [wPs_eq]; simp) (free_w w)
theorem joinW_len {ks : List Str} {w : Ww} (h : okW ks w) (hk : ks.length ≤ 20) : (joinP (wPs w)).length ≤ 1000 := by
  have := joinP_le (w_parts h hk)
  have := w_len w
  omega
theorem read_wish_ok {n : Nat} {S : Hd} {zs : Zs} {plan : List Dd} {w : Ww} (hz : Belts zs) (hv : Valid zs.length plan) (h : okW (rowOf plan) w) : Pu (run T (n + 8) 143 [beltsD zs, planD plan, .str (joinP (wPs w))] S) (wD w) S := by
  have hm := most_big
  have h8 := hv.short
  have hk := rowOf_len plan
  have wp := w_parts h (by omega)
  have tl := joinW_len h (by omega)
  obtain ⟨rl, r3⟩ := wRoles_len w
  have wl := w_len w
  refine Pu.run T_read_wish rfl ?_
  show M (ex (run T (n + 7)) b_read_wish [some (beltsD zs), some (planD plan), some (.str (joinP (wPs w))), none, none, none, none, none] S) _
  unfold b_read_wish
  refine seq_M (fun env S1 => env = [some (beltsD zs), some (planD plan), some (.str (joinP (wPs w))), none, none, none, none, none] ∧ Lq S S1) ?_ ?_
  · simp? only []
    refine (check_zones_ok (n := n + 1) hz).use fun S1 l1 => ?_
    exact ⟨trivial, trivial, l1⟩
  rintro _ S1 ⟨rfl, l1⟩
  refine seq_M (fun env S2 => env = [some (beltsD zs), some (planD plan), some (.str (joinP (wPs w))), none, none, none, none, none] ∧ Lq S S2) ?_ ?_
  · simp? only []
    refine (check_program_ok (n := n) hv).use fun S2 l2 => ?_
    exact ⟨trivial, trivial, l1.trans l2⟩
  rintro _ S2 ⟨rfl, l2⟩
  refine seq_M (fun env S3 => ∃ q : Nat, env = [some (beltsD zs), some (planD plan), some (.str (joinP (wPs w))), some (.ref q), none, none, none, none] ∧ S3[q]? = some (.lst (((wPs w).map strOf).map .str)) ∧ Lq S S3) ?_ ?_
  · refine asg_M (M_is (ev_split rfl tl (split_w w) (by rw [List.length_map]; omega)) ?_)
    exact ⟨rfl, _, rfl, get_new, l2.trans (Lq.app _ _)⟩
  rintro _ S3 ⟨q, rfl, g3, l3⟩
  refine seq_M (fun env S4 => ∃ r : Nat, env = [some (beltsD zs), some (planD plan), some (.str (joinP (wPs w))), some (.ref q), some (.ref r), none, none, none] ∧ S4[r]? = some (.lst ((rowOf plan).map .str)) ∧ Lq S3 S4) ?_ ?_
  · refine asg_M (M_call1 (var_M rfl ?_))
    refine (kinds_of_values_ok (n := n + 5) hv).imp ?_
    rintro _ ⟨r, S4, rfl, _, gr, l4⟩
    exact ⟨rfl, r, rfl, gr, l4⟩
  rintro _ S4 ⟨r, rfl, gr, l4⟩
  have g4 := l4 _ _ g3
  have at0 : ixD (.ref q) (.int 0) S4 = some (.str (wWord w), S4) := by
    have k0 : ((wPs w).map strOf)[0]? = some (wWord w) := by rw [wPs_eq]; rfl
    rw [q_ixL g4, show (0 : Int) = ((0 : Nat) : Int) from rfl, str_at k0]
    rfl
  refine seq_Mx (ite_B (B := false) ?_ (fun h => by cases h) fun _ => ?_)
  · show ((ev (run T (n + 7)) (.ix (.var 3) (.c (.int 0))) _ S4).bind fun x => match x.1 with
      | .str z => some (D.bl (if true then !(lookC wishT z).isSome else (lookC wishT z).isSome), x.2)
      | _ => none) = _
    have e : ∀ env : Sl, env[3]? = some (some (.ref q)) → ev (run T (n + 7)) (.ix (.var 3) (.c (.int 0))) env S4 = some (.str (wWord w), S4) := fun env he => by simp_all? only [he, at0]
    rw [e _ rfl, Option.bind_some]
    show some (D.bl (!(lookC wishT (wWord w)).isSome), S4) = _
    rw [wish_look]
    rfl
  rw [show ∀ env, ex (run T (n + 7)) .skip env S4 = some (.nx, env, S4) from fun _ => rfl]
  simp only [M_some]
  refine seq_M (fun env S5 => env = [some (beltsD zs), some (planD plan), some (.str (joinP (wPs w))), some (.ref q), some (.ref r), some (.tup [.str (wWord w)]), none, none] ∧ S4 = S5) ?_ ?_
  · simp? only [at0, show (1 : Nat) ≤ most by decide]
    exact ⟨trivial, trivial, trivial⟩
  rintro _ _ ⟨rfl, rfl⟩
  refine seq_M (fun env S5 => ∃ v6 v7 : Option D, env = [some (beltsD zs), some (planD plan), some (.str (joinP (wPs w))), some (.ref q), some (.ref r), some (wD w), v6, v7] ∧ Lq S4 S5) ?_ ?_
  · refine for_M (M_args1 (M_is (v := (.tup ((wRoles w).map .str), S4)) ?_ ⟨_, _, rfl, rfl, ?_⟩))
    · have e : ∀ env : Sl, env[3]? = some (some (.ref q)) → ev (run T (n + 7)) (.ix (.var 3) (.c (.int 0))) env S4 = some (.str (wWord w), S4) := fun env he => by simp_all? only [he, at0]
      show ((ev (run T (n + 7)) (.ix (.var 3) (.c (.int 0))) _ S4).bind fun x => match x.1 with
        | .str z => (lookC wishT z).map fun d => (d, x.2)
        | _ => none) = _
      rw [e _ rfl, Option.bind_some]
      show (lookC wishT (wWord w)).map (fun x => (x, S4)) = _
      rw [wish_look]
      rfl
    refine M_loopS (m := 0) (fun i env S5 => ∃ v6 v7 : Option D, env = [some (beltsD zs), some (planD plan), some (.str (joinP (wPs w))), some (.ref q), some (.ref r), some (.tup (.str (wWord w) :: (wRest w).take i)), v6, v7] ∧ Lq S4 S5) ⟨none, none, rfl, Lq.refl _⟩ ?_ ?_
    · rintro i x env S5 hi ⟨v6, v7, rfl, l5⟩
      obtain ⟨role, hr, _, rfl⟩ := map_get hi
      have il := (List.getElem?_eq_some_iff.mp hr).1
      obtain ⟨item, hit⟩ : ∃ item, (wRest w)[i]? = some item := ⟨_, List.getElem?_eq_getElem (by omega)⟩
      obtain ⟨z, rfl⟩ := wRest_int w item (List.mem_of_getElem? hit)
      have pi : (wPs w)[i + 1]? = some (.int z) := by
        rw [wPs_eq, List.getElem?_cons_succ]
        exact hit
      have pz := part_int (wp _ (List.mem_of_getElem? pi))
      have tk : ((wRest w).take i).length = i := by rw [List.length_take]; omega
      have wi : ((wPs w).map strOf)[i + 1]? = some (strOf (.int z)) := by rw [List.getElem?_map, pi]; rfl
      have ln : ∀ S6, bltD .len [D.tup (.str (wWord w) :: (wRest w).take i)] S6 = some (.int ((i + 1 : Nat) : Int), S6) := fun S6 => by
        rw [q_len q_seqT, List.length_cons, tk]
      simp only [Nat.zero_add]
      simp only [asgG, Option.bind_some, List.set_cons_succ, List.set_cons_zero]
      refine seq_M (fun env S6 => env = [some (beltsD zs), some (planD plan), some (.str (joinP (wPs w))), some (.ref q), some (.ref r), some (.tup (.str (wWord w) :: (wRest w).take i)), some (.str role), some (.int z)] ∧ Lq S5 S6) ?_ ?_
      · refine asg_M (M_call1 (M_call2 (var_M rfl ?_)))
        simp_all? only [ln]
        refine (word_at_ok (n := n + 6) (l5 _ _ g4) wi).use fun S6 l6 => ?_
        refine (number_from_ok (n := n + 6) pz).use fun S7 l7 => ?_
        exact ⟨trivial, rfl, l6.trans l7⟩
      rintro _ S6 ⟨rfl, l6⟩
      refine seq_M (fun env S7 => env = [some (beltsD zs), some (planD plan), some (.str (joinP (wPs w))), some (.ref q), some (.ref r), some (.tup (.str (wWord w) :: (wRest w).take i)), some (.str role), some (.int z)] ∧ Lq S5 S7) ?_ ?_
      · refine ite_M (tst_M (M_not ?_))
        simp_all? only []
        refine (role_w (n := n + 3) (l6 _ _ (l5 _ _ gr)) h i role (.int z) hr hit).use fun S7 l7 => ?_
        refine ⟨true, rfl, _, rfl, ?_⟩
        simp only [Bool.not_true, Bool.false_eq_true, if_false]
        exact ⟨_, rfl, rfl, rfl, l6.trans l7⟩
      rintro _ S7 ⟨rfl, l7⟩
      simp? only [show (1 : Nat) ≤ most by decide]
      rw [q_addT (by simp only [List.length_cons, List.length_nil, tk]; omega)]
      simp? only []
      refine ⟨trivial, some (.str role), some (.int z), ?_, l5.trans l7⟩
      rw [List.take_add_one, hit]
      rfl
    · rintro env S5 ⟨v6, v7, rfl, l5⟩
      rw [Nat.zero_add, List.length_map, rl, List.take_length, ← wPs_eq]
      exact ⟨rfl, v6, v7, rfl, l5⟩
  rintro _ S5 ⟨v6, v7, rfl, l5⟩
  have lw : ∀ S6, bltD .len [wD w] S6 = some (.int ((wPs w).length : Nat), S6) := fun S6 => by
    unfold wD
    rw [q_len q_seqT]
  refine seq_M (fun env S6 => env = [some (beltsD zs), some (planD plan), some (.str (joinP (wPs w))), some (.ref q), some (.ref r), some (wD w), v6, v7] ∧ Lq S5 S6) ?_ ?_
  · simp? only [lw]
    refine (check_end_ok (n := n + 6) (l5 _ _ g4) (by rw [List.length_map]; exact Nat.le_refl _)).use fun S6 l6 => ?_
    exact ⟨trivial, trivial, l6⟩
  rintro _ S6 ⟨rfl, l6⟩
  simp? only []
  exact ⟨trivial, l3.trans (l4.trans (l5.trans l6))⟩
end Lw

namespace Lw
open PySem L2 Ix
/-! ### repr of tales and wishes -/
def pD : D → PyData
  | .str z => .str z
  | .int i => .int i
  | _ => .none
def Pw (d : D) : Prop := (∃ z : Str, d = .str z ∧ PyData.canLay0 (.str z) = true ∧ z.length ≤ 20) ∨ ∃ i : Int, d = .int i ∧ i.natAbs < 10 ^ 12
theorem pw_part {d : D} (h : Pw d) {n : Nat} {S : Hd} : py (n + 1) S d = some (pD d) ∧ PyData.canLay0 (pD d) = true ∧ PyData.weight (pD d) ≤ 60 ∧ PyData.depth (pD d) = 0 ∧ PyData.showable (pD d) = true ∧ PyData.hasDict (pD d) = false ∧ PyData.intsShort 13 (pD d) = true := by
  rcases h with ⟨z, rfl, h, hz⟩ | ⟨i, rfl, h⟩
  · exact ⟨rfl, h, by show z.cps.size ≤ 60; have : z.cps.size = z.length := rfl; omega, rfl, rfl, rfl, rfl⟩
  · have l : i.natAbs.log2 ≤ 40 := by
      have := log2_le (n := i.natAbs) 40 (Nat.lt_of_lt_of_le h (by decide)) (by decide)
      omega
    refine ⟨rfl, ?_, ?_, rfl, ?_, rfl, ?_⟩
    · simp only [pD, PyData.canLay0]
    · simp only [pD, PyData.weight]
      split <;> omega
    · simp only [pD, PyData.showable]
      exact decide_eq_true (by omega)
    · simp only [pD, PyData.intsShort]
      refine decide_eq_true ?_
      rw [PyData.shown_int]
      exact PyData.shown_int_le h
theorem row_part {n : Nat} {S : Hd} : ∀ {xs : List D}, (∀ x ∈ xs, Pw x) → pyL (py (n + 1) S) xs = some (xs.map pD) ∧ PyData.canLayAll0 (xs.map pD) = true ∧ PyData.weightAll (xs.map pD) ≤ 61 * xs.length ∧ PyData.depthAll (xs.map pD) = 0 ∧ PyData.showableAll (xs.map pD) = true ∧ PyData.hasDictAll (xs.map pD) = false ∧ PyData.intsShortAll 13 (xs.map pD) = true
  | [], _ => by simp [pyL, PyData.canLayAll0, PyData.weightAll, PyData.depthAll, PyData.showableAll, PyData.hasDictAll, PyData.intsShortAll]
  | x :: xs, h => by
    obtain ⟨a1, a2, a3, a4, a5, a6, a7⟩ := pw_part (n := n) (S := S) (h x List.mem_cons_self)
    obtain ⟨b1, b2, b3, b4, b5, b6, b7⟩ := row_part (n := n) (S := S) (xs := xs) fun y hy => h y (List.mem_cons_of_mem _ hy)
    simp only [List.map_cons, pyL, PyData.canLayAll0, PyData.weightAll, PyData.depthAll, PyData.showableAll, PyData.hasDictAll, PyData.intsShortAll, a1, a2, a4, a5, a6, a7, b1, b2, b4, b5, b6, b7, Option.bind_some, Option.map_some, Bool.and_self, Bool.or_self, Nat.max_self, List.length_cons]
    refine ⟨trivial, trivial, ?_, trivial, trivial, trivial, trivial⟩
    omega
theorem lay_of {d : PyData} (h1 : PyData.canLay0 d = true) (h2 : PyData.depth d ≤ 64) (h3 : PyData.weight d ≤ 2 ^ 20) : PyData.layable0 d = true := by
  show (PyData.canLay0 d && decide (PyData.depth d ≤ 64) && decide (PyData.weight d ≤ 2 ^ 20)) = true
  rw [h1, decide_eq_true h2, decide_eq_true h3]
  rfl
def rowP (xs : List D) : PyData := .tuple (xs.map pD)
theorem rows_part {n : Nat} {S : Hd} : ∀ {rs : List (List D)}, (∀ xs ∈ rs, (∀ x ∈ xs, Pw x) ∧ xs.length ≤ 5) → pyL (py (n + 2) S) (rs.map .tup) = some (rs.map rowP) ∧ PyData.canLayAll0 (rs.map rowP) = true ∧ PyData.weightAll (rs.map rowP) ≤ 306 * rs.length ∧ PyData.depthAll (rs.map rowP) ≤ 2 ∧ PyData.showableAll (rs.map rowP) = true ∧ PyData.hasDictAll (rs.map rowP) = false ∧ PyData.intsShortAll 13 (rs.map rowP) = true
  | [], _ => by simp [pyL, PyData.canLayAll0, PyData.weightAll, PyData.depthAll, PyData.showableAll, PyData.hasDictAll, PyData.intsShortAll]
  | xs :: rs, h => by
    obtain ⟨h1, h5⟩ := h xs List.mem_cons_self
    obtain ⟨a1, a2, a3, a4, a5, a6, a7⟩ := row_part (n := n) (S := S) h1
    obtain ⟨b1, b2, b3, b4, b5, b6, b7⟩ := rows_part (n := n) (S := S) (rs := rs) fun y hy => h y (List.mem_cons_of_mem _ hy)
    have e1 : py (n + 2) S (.tup xs) = some (rowP xs) := by simp only [py, a1, Option.map_some, rowP]
    simp only [List.map_cons, pyL, e1, b1, Option.bind_some, Option.map_some, PyData.canLayAll0, PyData.weightAll, PyData.depthAll, PyData.showableAll, PyData.hasDictAll, PyData.intsShortAll, b2, b5, b6, b7]
    simp only [rowP, PyData.canLay0, PyData.weight, PyData.depth, PyData.showable, PyData.hasDict, PyData.intsShort, a2, a4, a5, a6, a7, Bool.and_self, Bool.or_self, List.length_cons]
    refine ⟨trivial, trivial, ?_, ?_, trivial, trivial, trivial⟩
    · omega
    · omega
theorem rpr_row {S : Hd} {xs : List D} (h : ∀ x ∈ xs, Pw x) (hl : xs.length ≤ 5) : rprD (.tup xs) S = some (.str (PyData.shown (rowP xs)), S) := by
  obtain ⟨a1, a2, a3, a4, a5, a6, a7⟩ := row_part (n := 7) (S := S) h
  have e : py 9 S (.tup xs) = some (rowP xs) := by simp only [py, a1, Option.map_some, rowP]
  have dp : PyData.depth (rowP xs) ≤ 64 := by simp only [rowP, PyData.depth, a4]; omega
  have lay : PyData.layable0 (rowP xs) = true := lay_of (by simp only [rowP, PyData.canLay0]; exact a2) dp (by
    simp only [rowP, PyData.weight]
    exact Nat.le_trans a3 (Nat.le_trans (Nat.mul_le_mul_left 61 hl) (by decide)))
  have sl := PyData.shown_fits_of_layable0 (B := 13) (by decide) (by decide) lay (by simp only [rowP, PyData.intsShort]; exact a7)
  simp only [rprD, e, Option.bind_some]
  rw [if_pos ⟨by simp only [rowP, PyData.showable]; exact a5, by simp only [rowP, PyData.hasDict]; exact a6, dp, sl⟩]
theorem rpr_rows {S : Hd} {rs : List (List D)} (h : ∀ xs ∈ rs, (∀ x ∈ xs, Pw x) ∧ xs.length ≤ 5) (hl : rs.length ≤ 8) : rprD (.tup (rs.map .tup)) S = some (.str (PyData.shown (.tuple (rs.map rowP))), S) := by
  obtain ⟨a1, a2, a3, a4, a5, a6, a7⟩ := rows_part (n := 6) (S := S) h
  have e : py 9 S (.tup (rs.map .tup)) = some (.tuple (rs.map rowP)) := by simp only [py, a1, Option.map_some]
  have dp : PyData.depth (.tuple (rs.map rowP)) ≤ 64 := by simp only [PyData.depth]; omega
  have lay : PyData.layable0 (.tuple (rs.map rowP)) = true := lay_of (by simp only [PyData.canLay0]; exact a2) dp (by
    simp only [PyData.weight]
    exact Nat.le_trans a3 (Nat.le_trans (Nat.mul_le_mul_left 306 hl) (by decide)))
  have sl := PyData.shown_fits_of_layable0 (B := 13) (by decide) (by decide) lay (by simp only [PyData.intsShort]; exact a7)
  simp only [rprD, e, Option.bind_some]
  rw [if_pos ⟨by simp only [PyData.showable]; exact a5, by simp only [PyData.hasDict]; exact a6, dp, sl⟩]
theorem pw_int {i : Int} (h : Part (.int i)) : Pw (.int i) := .inr ⟨i, rfl, part_int h⟩
theorem pw_str {z : Str} (h : PyData.canLay0 (.str z) = true) (h2 : z.length ≤ 20) : Pw (.str z) := .inl ⟨z, rfl, h, h2⟩
theorem pw_fold (i : Nat) : Pw (foldS i) := by
  match i with
  | 0 => exact pw_str (by decide +kernel) (by decide)
  | 1 => exact pw_str (by decide +kernel) (by decide)
  | _ + 2 => exact pw_str (by decide +kernel) (by decide)
theorem pw_gap (i : Nat) : Pw (gapS i) := by
  match i with
  | 0 => exact pw_str (by decide +kernel) (by decide)
  | 1 => exact pw_str (by decide +kernel) (by decide)
  | _ + 2 => exact pw_str (by decide +kernel) (by decide)
theorem pw_wd (d : Dd) : Pw (.str (wd d)) := by cases d <;> (simp only [wd]; exact pw_str (by decide +kernel) (by decide))
theorem pw_ww (w : Ww) : Pw (.str (wWord w)) := by cases w <;> (simp only [wWord]; exact pw_str (by decide +kernel) (by decide))
theorem pw_words {d : Dd} (h : ∀ x ∈ partsD d, Part x) : ∀ x ∈ partsD d, Pw x := fun x hx => by
  have hp := h x hx
  rcases List.mem_cons.mp hx with rfl | hx
  · exact pw_wd d
  cases d <;> simp only [restD, List.mem_cons, List.not_mem_nil, or_false] at hx <;> rcases hx with rfl | hx
  all_goals first | exact pw_int hp | skip
  all_goals first | (subst hx; exact pw_int hp) | skip
  rcases hx with rfl | rfl | rfl
  · exact pw_int hp
  · exact pw_fold _
  · exact pw_gap _
theorem pw_w {ks : List Str} {w : Ww} (h : okW ks w) (hk : ks.length ≤ 20) : ∀ x ∈ wPs w, Pw x := fun x hx => by
  have hp := w_parts h hk x hx
  rw [wPs_eq] at hx
  rcases List.mem_cons.mp hx with rfl | hx
  · exact pw_ww w
  · obtain ⟨i, rfl⟩ := wRest_int w x hx
    exact pw_int hp
def planT (plan : List Dd) : Str := PyData.shown (.tuple ((plan.map partsD).map rowP))
theorem rpr_plan {nz : Nat} {S : Hd} {plan : List Dd} (hv : Valid nz plan) (hz : nz ≤ 2) : rprD (planD plan) S = some (.str (planT plan), S) := by
  have e : planD plan = .tup ((plan.map partsD).map .tup) := by
    unfold planD
    rw [List.map_map]
    exact congrArg D.tup (List.map_congr_left fun d _ => dd_rest d)
  rw [e]
  refine rpr_rows (fun xs hx => ?_) (by rw [List.length_map]; exact hv.short)
  obtain ⟨d, hd, rfl⟩ := List.mem_map.mp hx
  exact ⟨pw_words (plan_parts hv hz d hd), parts_len d⟩
theorem rpr_wish {ks : List Str} {S : Hd} {w : Ww} (h : okW ks w) (hk : ks.length ≤ 20) : rprD (wD w) S = some (.str (PyData.shown (rowP (wPs w))), S) := rpr_row (pw_w h hk) (by have := w_len w; omega)
end Lw

namespace Lw
open PySem L2 Ix
theorem right_ok {p : Nat} {S : Hd} (hS : Bag p 0 S) : M (run T 13 144 [.ref p] S) fun x => ∃ S', x = (.bl true, S') ∧ Le p S S' := by
  have hm := most_big
  refine run_M T_right_2 rfl ?_
  show M (ex (run T 12) b_right_2 [some (.ref p), none, none, none, none, none, none, none, none] S) _
  unfold b_right_2
  refine seq_M (fun env S1 => ∃ zs : Zs, env = [some (.ref p), some (beltsD zs), none, none, none, none, none, none, none] ∧ Belts zs ∧ Bag p 200 S1 ∧ Le p S S1) ?_ ?_
  · simp? only []
    refine (pick2_ok hS (by decide) (by decide) (by decide)).imp ?_
    rintro _ ⟨z, S1, rfl, z0, z1, b1, l1⟩
    simp? only []
    obtain ⟨N, hN⟩ : ∃ N : Nat, 1 + z = (N : Int) := ⟨(1 + z).toNat, by omega⟩
    rw [hN]
    refine (draw_fields_ok (n := 9) b1 (by decide) (by omega) (by omega)).imp ?_
    rintro _ ⟨zs, S2, rfl, hz, b2, l2⟩
    exact ⟨trivial, zs, rfl, hz, b2.mono (by decide), l1.trans l2⟩
  rintro _ S1 ⟨zs, rfl, hz, b1, l1⟩
  refine seq_M (fun env S2 => ∃ plan : List Dd, env = [some (.ref p), some (beltsD zs), some (planD plan), none, none, none, none, none, none] ∧ Valid zs.length plan ∧ Bag p 500 S2 ∧ Le p S S2) ?_ ?_
  · simp? only []
    refine (long_tale_ok (n := 7) hz b1 (by decide)).imp ?_
    rintro _ ⟨plan, S2, rfl, hv, b2, l2⟩
    exact ⟨trivial, plan, rfl, hv, b2.mono (by decide), l1.trans l2⟩
  rintro _ S2 ⟨plan, rfl, hv, b2, l2⟩
  have h8 := hv.short
  have rl := rowOf_len plan
  have z2 := hz.l2
  have ep : ∀ S, bltD .len [planD plan] S = some (.int (plan.length : Nat), S) := fun S => by
    unfold planD
    rw [q_len q_seqT, List.length_map]
  refine seq_M (fun env S3 => ∃ v3 v4 : Option D, env = [some (.ref p), some (beltsD zs), some (planD plan), v3, v4, none, none, none, none] ∧ Bag p 500 S3 ∧ Le p S S3) ?_ ?_
  · have ir : ∀ S2, items .range1 [.int ((plan.length + 1 : Nat) : Int)] S2 = some ((List.range (plan.length + 1)).map fun (i : Nat) => .int (0 + (i : Int))) := fun S2 => by rw [i_rng (by omega) (by omega), Int.toNat_natCast]
    refine for_M ?_
    simp_all? only [ep, show ((plan.length : Nat) : Int) + 1 = ((plan.length + 1 : Nat) : Int) from rfl]
    refine ⟨_, _, rfl, ir _, ?_⟩
    refine M_loopS (m := 0) (fun i env S6 => ∃ (v3 v4 : Option D), env = [some (.ref p), some (beltsD zs), some (planD plan), v3, v4, none, none, none, none] ∧ Bag p 500 S6 ∧ Le p S S6) ⟨none, none, rfl, b2, l2⟩ ?_ ?_
    · rintro i x env S6 hi ⟨v3, v4, rfl, b6, l6⟩
      obtain ⟨i', hi', _, rfl⟩ := map_get hi
      have il := (List.getElem?_eq_some_iff.mp hi').1
      rw [List.length_range] at il
      simp only [asgG, Option.bind_some, List.set_cons_succ, List.set_cons_zero]
      have hs := valid_take hv i'
      have sl : ∀ S, slD (planD plan) none (some (i' : Int)) S = some (planD (plan.take i'), S) := fun S => by
        unfold planD
        rw [q_slT, cut_to, List.map_take]
      have z0 : (0 : Int) + (i' : Int) = (i' : Int) := by omega
      rw [z0]
      refine seq_M (fun env S7 => env = [some (.ref p), some (beltsD zs), some (planD plan), some (.int (i' : Int)), some (planD (plan.take i')), none, none, none, none] ∧ S6 = S7) ?_ ?_
      · simp? only [sl]
        exact ⟨trivial, trivial, trivial⟩
      rintro _ _ ⟨rfl, rfl⟩
      refine seq_M (fun env S7 => env = [some (.ref p), some (beltsD zs), some (planD plan), some (.int (i' : Int)), some (planD (plan.take i')), none, none, none, none] ∧ Bag p 500 S7 ∧ Le p S S7) ?_ ?_
      · refine ite_M (tst_M (M_cmp ?_))
        simp_all? only []
        refine (write_program_ok (n := 4) hz hs).use fun S7 l7 => ?_
        refine (read_program_ok (n := 5) hz hs).use fun S8 l8 => ?_
        simp only [rpr_plan hs z2, M_some, q_neS, decide_true, Bool.not_true]
        refine ⟨false, rfl, ?_⟩
        simp only [Bool.false_eq_true, if_false]
        exact ⟨_, rfl, rfl, rfl, b6.lq (l7.trans l8), l6.trans (l7.trans l8).le⟩
      rintro _ S7 ⟨rfl, b7, l7⟩
      refine ite_M (tst_M (M_cmp ?_))
      simp_all? only [permV, List.nil_append, List.filterMap_cons, List.filterMap_nil]
      refine (text_ok (n := 11) hs z2).use fun S8 l8 => ?_
      simp_all? only [permV, List.nil_append, List.filterMap_cons, List.filterMap_nil]
      refine (read_program_ok (n := 5) hz hs).use fun S9 l9 => ?_
      simp only [rpr_plan hs z2, M_some, q_neS, decide_true, Bool.not_true]
      refine ⟨false, rfl, ?_⟩
      simp only [Bool.false_eq_true, if_false]
      exact ⟨_, rfl, ir _, _, _, rfl, b7.lq (l8.trans l9), l7.trans (l8.trans l9).le⟩
    · rintro env S6 ⟨v3, v4, rfl, b6, l6⟩
      exact ⟨rfl, v3, v4, rfl, b6, l6⟩
  rintro _ S5 ⟨v3, v4, rfl, b5, l5⟩
  refine seq_M (fun env S6 => Le p S S6) ?_ ?_
  · have ir : ∀ S2, items .range1 [.int 8] S2 = some ((List.range 8).map fun (i : Nat) => .int (0 + (i : Int))) := fun S2 => by rw [show (8 : Int) = ((8 : Nat) : Int) from rfl, i_rng (by omega) (by omega), Int.toNat_natCast]
    refine for_M ?_
    simp_all? only []
    refine ⟨_, _, rfl, ir _, ?_⟩
    refine M_loopS (m := 0) (fun i env S6 => ∃ (v5 v6 v7 v8 : Option D), env = [some (.ref p), some (beltsD zs), some (planD plan), v3, v4, v5, v6, v7, v8] ∧ Bag p (500 + 20 * i) S6 ∧ Le p S S6) ⟨none, none, none, none, rfl, b5, l5⟩ ?_ ?_
    · rintro i x env S6 hi ⟨v5, v6, v7, v8, rfl, b6, l6⟩
      obtain ⟨i', hi', _, rfl⟩ := map_get hi
      have il := (List.getElem?_eq_some_iff.mp hi').1
      rw [List.length_range] at il
      simp only [Nat.zero_add] at b6 ⊢
      simp only [asgG, Option.bind_some, List.set_cons_succ, List.set_cons_zero]
      refine seq_M (fun env S7 => ∃ w : Ww, env = [some (.ref p), some (beltsD zs), some (planD plan), v3, v4, some (.int (0 + (i' : Int))), some (wD w), v7, v8] ∧ okW (rowOf plan) w ∧ Bag p (500 + 20 * i + 10) S7 ∧ Le p S S7) ?_ ?_
      · simp? only []
        refine (hours_in_ok (n := 9) hv).imp ?_
        rintro _ ⟨j, L, S7, rfl, sj, gj, hL, l0, l9, l7⟩
        simp? only []
        have ps := b6.lt
        refine (draw_want_ok (n := 10) (b6.lq l7) (by omega) (show j ≠ p by omega) gj hL l0 (by omega)).imp ?_
        rintro _ ⟨w, S8, rfl, ow, b8, l8⟩
        exact ⟨trivial, w, rfl, ow, b8, l6.trans (l7.le.trans l8)⟩
      rintro _ S7 ⟨w, rfl, ow, b7, l7⟩
      have wp := w_parts ow (by omega)
      have wl := w_len w
      have rw_ := fun S => rpr_wish (S := S) ow (by omega)
      refine seq_M (fun env S8 => env = [some (.ref p), some (beltsD zs), some (planD plan), v3, v4, some (.int (0 + (i' : Int))), some (wD w), v7, v8] ∧ Bag p (500 + 20 * i + 10) S8 ∧ Le p S S8) ?_ ?_
      · refine ite_M (tst_M (M_cmp ?_))
        simp_all? only []
        refine (write_wish_ok (n := 4) hz hv ow).use fun S8 l8 => ?_
        refine (read_wish_ok (n := 4) hz hv ow).use fun S9 l9 => ?_
        simp only [rw_, M_some, q_neS, decide_true, Bool.not_true]
        refine ⟨false, rfl, ?_⟩
        simp only [Bool.false_eq_true, if_false]
        exact ⟨_, rfl, rfl, rfl, b7.lq (l8.trans l9), l7.trans (l8.trans l9).le⟩
      rintro _ S8 ⟨rfl, b8, l8⟩
      refine seq_M (fun env S9 => env = [some (.ref p), some (beltsD zs), some (planD plan), v3, v4, some (.int (0 + (i' : Int))), some (wD w), some (.str (joinP (wPs w))), v8] ∧ Bag p (500 + 20 * i + 10) S9 ∧ Le p S S9) ?_ ?_
      · refine asg_M (join_row (xs := wPs w) rfl (by simp) wp (by omega) fun S9 l9 => ?_)
        exact ⟨rfl, rfl, b8.lq l9, l8.trans l9.le⟩
      rintro _ S9 ⟨rfl, b9, l9⟩
      refine ite_M (tst_M (M_cmp ?_))
      simp_all? only [permV, List.nil_append, List.filterMap_cons, List.filterMap_nil]
      refine (read_wish_ok (n := 4) hz hv ow).use fun S10 l10 => ?_
      simp only [rw_, M_some, q_neS, decide_true, Bool.not_true]
      refine ⟨false, rfl, ?_⟩
      simp only [Bool.false_eq_true, if_false]
      exact ⟨_, rfl, ir _, _, _, _, _, rfl, (b9.lq l10).mono (by omega), l9.trans l10.le⟩
    · rintro env S6 ⟨v5, v6, v7, v8, rfl, b6, l6⟩
      exact ⟨rfl, l6⟩
  rintro env S6 l6
  simp? only []
  exact ⟨S6, rfl, l6⟩
def lev : Nat := 14
theorem law_true (ns : List Int) (hl : ns.length ≤ 63) (hb : ∀ z ∈ ns, Builtin.Int.intBits z ≤ 1048576) : ∃ S', run T lev 145 [.ro ns] [] = some (.bl true, S') := by
  suffices h : M (run T lev 145 [.ro ns] []) fun r => r.1 = .bl true by
    obtain ⟨⟨d, S'⟩, e, q⟩ := h
    have q : d = .bl true := q
    subst q
    exact ⟨S', e⟩
  refine run_M T_law_k63 rfl ?_
  show M (ex (run T 13) b_law_k63 [some (.ro ns), none] []) _
  unfold b_law_k63
  have hm := most_big
  refine seq_M (fun env S => True) ?_ ?_
  · have hcl : (cutD (ns.map D.int) none (some 6)).length ≤ 63 := Nat.le_trans cut_len (by simpa using hl)
    refine for_M (M.imp (P := fun x => ∃ A B, x = (.tup [.ref 2], [A, B, O.lst ([D.int 1600000000000000000000000000000000731] ++ cutD (ns.map .int) none (some 6))])) ?_ ?_)
    · simp_all? only []
      refine M.imp (P := fun x => ∃ A B, x = (.ref 2, [A, B, O.lst ([D.int 1600000000000000000000000000000000731] ++ cutD (ns.map .int) none (some 6))])) (run_M T_cells rfl ?_) ?_
      · show M (ex (run T 12) b_cells [some (.ro ns), some (.int 6)] []) _
        unfold b_cells
        simp? only [show (1 : Nat) ≤ most by decide, List.nil_append]
        rw [q_addL (xs := [.int 1600000000000000000000000000000000731]) (ys := cutD (ns.map .int) none (some 6)) rfl rfl (by simp; omega)]
        simp? only [al_eq, M_some]
        exact ⟨_, _, rfl⟩
      · rintro _ ⟨A, B, rfl⟩
        exact ⟨A, B, rfl⟩
    rintro _ ⟨A, B, rfl⟩
    refine ⟨_, _, rfl, rfl, ?_⟩
    refine M_loopS (m := 0) (fun i env S => (∃ v1 : Option D, env = [some (.ro ns), v1]) ∧ S[2]? = some (O.lst ([D.int 1600000000000000000000000000000000731] ++ cutD (ns.map .int) none (some 6)))) ⟨⟨_, rfl⟩, rfl⟩ ?_ ?_
    · rintro i d env S hi ⟨⟨v1, rfl⟩, g⟩
      obtain ⟨z, rfl⟩ := cell_get hi
      simp only [asgG, Option.bind_some, List.set_cons_succ, List.set_cons_zero]
      refine ite_M (tst_M (M_not ?_))
      simp_all? only []
      refine (make_pot_ok (n := 12) z).imp ?_
      rintro _ ⟨p, S1, rfl, hp, b, l⟩
      simp_all? only []
      refine (show M (run T 13 144 [.ref p] S1) (fun x => ∃ S', x = (.bl true, S') ∧ Le p S1 S') from right_ok b).imp ?_
      rintro _ ⟨S2, rfl, l2⟩
      refine ⟨true, rfl, false, rfl, ?_⟩
      simp only [Bool.false_eq_true, if_false]
      have ll : Lq S S2 := l.ple l2 (by omega)
      exact ⟨_, rfl, q_seqL (ll _ _ g), ⟨_, rfl⟩, ll _ _ g⟩
    · rintro env S _
      exact ⟨rfl, trivial⟩
  · rintro env S _
    simp? only []
end Lw

namespace Lw
open PySem L2 Ix
section
variable {P : Program} {w : World} {K : PySem.W.Frag} {mg : Str → Option Value} {base : Heap}
structure Fs0 (K : PySem.W.Frag) (mg : Str → Option Value) : Prop where
  f0 : ∃ fa fd, mg "is_number" = some (.ref fa) ∧ Fun K "is_number" "is_number" s_0 fa fd
  f1 : ∃ fa fd, mg "is_pair" = some (.ref fa) ∧ Fun K "is_pair" "is_pair" s_1 fa fd
  f84 : ∃ fa fd, mg "first_word" = some (.ref fa) ∧ Fun K "first_word" "first_word" s_84 fa fd
  f6 : ∃ fa fd, mg "is_zone" = some (.ref fa) ∧ Fun K "is_zone" "is_zone" s_6 fa fd
  f85 : ∃ fa fd, mg "is_zones" = some (.ref fa) ∧ Fun K "is_zones" "is_zones" s_85 fa fd
  f86 : ∃ fa fd, mg "check_zones" = some (.ref fa) ∧ Fun K "check_zones" "check_zones" s_86 fa fd
  f87 : ∃ fa fd, mg "is_place" = some (.ref fa) ∧ Fun K "is_place" "is_place" s_87 fa fd
  f65 : ∃ fa fd, mg "is_rule" = some (.ref fa) ∧ Fun K "is_rule" "is_rule" s_65 fa fd
  f3 : ∃ fa fd, mg "is_ascending" = some (.ref fa) ∧ Fun K "is_ascending" "is_ascending" s_3 fa fd
  f5 : ∃ fa fd, mg "_are_offsets" = some (.ref fa) ∧ Fun K "_are_offsets" "_are_offsets" s_5 fa fd
  f4 : ∃ fa fd, mg "_is_near" = some (.ref fa) ∧ Fun K "_is_near" "_is_near" s_4 fa fd
  f95 : ∃ fa fd, mg "check_program" = some (.ref fa) ∧ Fun K "check_program" "check_program" s_95 fa fd
  f93 : ∃ fa fd, mg "fits_as_program" = some (.ref fa) ∧ Fun K "fits_as_program" "fits_as_program" s_93 fa fd
  f96 : ∃ fa fd, mg "kinds_of_values" = some (.ref fa) ∧ Fun K "kinds_of_values" "kinds_of_values" s_96 fa fd
  f90 : ∃ fa fd, mg "fits_step_role" = some (.ref fa) ∧ Fun K "fits_step_role" "fits_step_role" s_90 fa fd
  f89 : ∃ fa fd, mg "is_time" = some (.ref fa) ∧ Fun K "is_time" "is_time" s_89 fa fd
  f91 : ∃ fa fd, mg "_is_step" = some (.ref fa) ∧ Fun K "_is_step" "_is_step" s_91 fa fd
  f88 : ∃ fa fd, mg "_is_index" = some (.ref fa) ∧ Fun K "_is_index" "_is_index" s_88 fa fd
  f92 : ∃ fa fd, mg "_made_kind" = some (.ref fa) ∧ Fun K "_made_kind" "_made_kind" s_92 fa fd
  f112 : ∃ fa fd, mg "check_wish" = some (.ref fa) ∧ Fun K "check_wish" "check_wish" s_112 fa fd
  f111 : ∃ fa fd, mg "fits_as_wish" = some (.ref fa) ∧ Fun K "fits_as_wish" "fits_as_wish" s_111 fa fd
  f110 : ∃ fa fd, mg "fits_wish_role" = some (.ref fa) ∧ Fun K "fits_wish_role" "fits_wish_role" s_110 fa fd
  f114 : ∃ fa fd, mg "write_program" = some (.ref fa) ∧ Fun K "write_program" "write_program" s_114 fa fd
  f142 : ∃ fa fd, mg "read_program" = some (.ref fa) ∧ Fun K "read_program" "read_program" s_142 fa fd
  f115 : ∃ fa fd, mg "write_wish" = some (.ref fa) ∧ Fun K "write_wish" "write_wish" s_115 fa fd
  f143 : ∃ fa fd, mg "read_wish" = some (.ref fa) ∧ Fun K "read_wish" "read_wish" s_143 fa fd
  f139 : ∃ fa fd, mg "number_from" = some (.ref fa) ∧ Fun K "number_from" "number_from" s_139 fa fd
  f113 : ∃ fa fd, mg "_text_of" = some (.ref fa) ∧ Fun K "_text_of" "_text_of" s_113 fa fd
  f141 : ∃ fa fd, mg "_step_from" = some (.ref fa) ∧ Fun K "_step_from" "_step_from" s_141 fa fd
  f138 : ∃ fa fd, mg "_can_begin" = some (.ref fa) ∧ Fun K "_can_begin" "_can_begin" s_138 fa fd
  f140 : ∃ fa fd, mg "_item_from" = some (.ref fa) ∧ Fun K "_item_from" "_item_from" s_140 fa fd
  f137 : ∃ fa fd, mg "_word_at" = some (.ref fa) ∧ Fun K "_word_at" "_word_at" s_137 fa fd
  f136 : ∃ fa fd, mg "_check_end" = some (.ref fa) ∧ Fun K "_check_end" "_check_end" s_136 fa fd
  f116 : ∃ fa fd, mg "_law_make_pot" = some (.ref fa) ∧ Fun K "_law_make_pot" "_law_make_pot" s_116 fa fd
  f117 : ∃ fa fd, mg "_law_pick" = some (.ref fa) ∧ Fun K "_law_pick" "_law_pick" s_117 fa fd
  f118 : ∃ fa fd, mg "_law_cells" = some (.ref fa) ∧ Fun K "_law_cells" "_law_cells" s_118 fa fd
  f119 : ∃ fa fd, mg "_law_draw_spot" = some (.ref fa) ∧ Fun K "_law_draw_spot" "_law_draw_spot" s_119 fa fd
  f120 : ∃ fa fd, mg "_law_sort_behind" = some (.ref fa) ∧ Fun K "_law_sort_behind" "_law_sort_behind" s_120 fa fd
  f121 : ∃ fa fd, mg "_law_kinds_in" = some (.ref fa) ∧ Fun K "_law_kinds_in" "_law_kinds_in" s_121 fa fd
  f122 : ∃ fa fd, mg "_law_rule" = some (.ref fa) ∧ Fun K "_law_rule" "_law_rule" s_122 fa fd
  f123 : ∃ fa fd, mg "_law_words_open" = some (.ref fa) ∧ Fun K "_law_words_open" "_law_words_open" s_123 fa fd
  f124 : ∃ fa fd, mg "_law_draw_step" = some (.ref fa) ∧ Fun K "_law_draw_step" "_law_draw_step" s_124 fa fd
  f125 : ∃ fa fd, mg "_law_draw_tale" = some (.ref fa) ∧ Fun K "_law_draw_tale" "_law_draw_tale" s_125 fa fd
  f126 : ∃ fa fd, mg "_law_hours_in" = some (.ref fa) ∧ Fun K "_law_hours_in" "_law_hours_in" s_126 fa fd
  f127 : ∃ fa fd, mg "_law_draw_shifts" = some (.ref fa) ∧ Fun K "_law_draw_shifts" "_law_draw_shifts" s_127 fa fd
  f128 : ∃ fa fd, mg "_law_draw_apart" = some (.ref fa) ∧ Fun K "_law_draw_apart" "_law_draw_apart" s_128 fa fd
  f129 : ∃ fa fd, mg "_law_draw_fields" = some (.ref fa) ∧ Fun K "_law_draw_fields" "_law_draw_fields" s_129 fa fd
  f130 : ∃ fa fd, mg "_law_minutes" = some (.ref fa) ∧ Fun K "_law_minutes" "_law_minutes" s_130 fa fd
  f131 : ∃ fa fd, mg "_law_draw_want" = some (.ref fa) ∧ Fun K "_law_draw_want" "_law_draw_want" s_131 fa fd
  f132 : ∃ fa fd, mg "_law_text" = some (.ref fa) ∧ Fun K "_law_text" "_law_text" s_132 fa fd
  f133 : ∃ fa fd, mg "_law_long_tale" = some (.ref fa) ∧ Fun K "_law_long_tale" "_law_long_tale" s_133 fa fd
  f144 : ∃ fa fd, mg "_law_right" = some (.ref fa) ∧ Fun K "_law_right" "_law_right" s_144 fa fd
  f145 : ∃ fa fd, mg "law" = some (.ref fa) ∧ Fun K "law" "law" s_145 fa fd
theorem bi_0 {fa : Addr} {fd : FuncData} (F : Fun K "is_number" "is_number" s_0 fa fd) : Binds K fd P_0 [] := F.binds fun _ _ _ _ _ _ us hl => match us, hl with | [_], _ => rfl
theorem bi_1 {fa : Addr} {fd : FuncData} (F : Fun K "is_pair" "is_pair" s_1 fa fd) : Binds K fd P_1 [] := F.binds fun _ _ _ _ _ _ us hl => match us, hl with | [_], _ => rfl
theorem bi_84 {fa : Addr} {fd : FuncData} (F : Fun K "first_word" "first_word" s_84 fa fd) : Binds K fd P_84 [] := F.binds fun _ _ _ _ _ _ us hl => match us, hl with | [_], _ => rfl
theorem bi_6 {fa : Addr} {fd : FuncData} (F : Fun K "is_zone" "is_zone" s_6 fa fd) : Binds K fd P_6 [] := F.binds fun _ _ _ _ _ _ us hl => match us, hl with | [_], _ => rfl
theorem bi_85 {fa : Addr} {fd : FuncData} (F : Fun K "is_zones" "is_zones" s_85 fa fd) : Binds K fd P_85 [] := F.binds fun _ _ _ _ _ _ us hl => match us, hl with | [_], _ => rfl
theorem bi_86 {fa : Addr} {fd : FuncData} (F : Fun K "check_zones" "check_zones" s_86 fa fd) : Binds K fd P_86 [] := F.binds fun _ _ _ _ _ _ us hl => match us, hl with | [_], _ => rfl
theorem bi_87 {fa : Addr} {fd : FuncData} (F : Fun K "is_place" "is_place" s_87 fa fd) : Binds K fd P_87 [] := F.binds fun _ _ _ _ _ _ us hl => match us, hl with | [_, _], _ => rfl
theorem bi_65 {fa : Addr} {fd : FuncData} (F : Fun K "is_rule" "is_rule" s_65 fa fd) : Binds K fd P_65 [] := F.binds fun _ _ _ _ _ _ us hl => match us, hl with | [_, _], _ => rfl
theorem bi_3 {fa : Addr} {fd : FuncData} (F : Fun K "is_ascending" "is_ascending" s_3 fa fd) : Binds K fd P_3 [] := F.binds fun _ _ _ _ _ _ us hl => match us, hl with | [_], _ => rfl
theorem bi_5 {fa : Addr} {fd : FuncData} (F : Fun K "_are_offsets" "_are_offsets" s_5 fa fd) : Binds K fd P_5 [] := F.binds fun _ _ _ _ _ _ us hl => match us, hl with | [_], _ => rfl
theorem bi_4 {fa : Addr} {fd : FuncData} (F : Fun K "_is_near" "_is_near" s_4 fa fd) : Binds K fd P_4 [] := F.binds fun _ _ _ _ _ _ us hl => match us, hl with | [_], _ => rfl
theorem bi_95 {fa : Addr} {fd : FuncData} (F : Fun K "check_program" "check_program" s_95 fa fd) : Binds K fd P_95 [] := F.binds fun _ _ _ _ _ _ us hl => match us, hl with | [_, _], _ => rfl
theorem bi_93 {fa : Addr} {fd : FuncData} (F : Fun K "fits_as_program" "fits_as_program" s_93 fa fd) : Binds K fd P_93 [] := F.binds fun _ _ _ _ _ _ us hl => match us, hl with | [_, _], _ => rfl
theorem bi_96 {fa : Addr} {fd : FuncData} (F : Fun K "kinds_of_values" "kinds_of_values" s_96 fa fd) : Binds K fd P_96 [] := F.binds fun _ _ _ _ _ _ us hl => match us, hl with | [_], _ => rfl
theorem bi_90 {fa : Addr} {fd : FuncData} (F : Fun K "fits_step_role" "fits_step_role" s_90 fa fd) : Binds K fd P_90 [] := F.binds fun _ _ _ _ _ _ us hl => match us, hl with | [_, _, _, _], _ => rfl
theorem bi_89 {fa : Addr} {fd : FuncData} (F : Fun K "is_time" "is_time" s_89 fa fd) : Binds K fd P_89 [] := F.binds fun _ _ _ _ _ _ us hl => match us, hl with | [_, _], _ => rfl
theorem bi_91 {fa : Addr} {fd : FuncData} (F : Fun K "_is_step" "_is_step" s_91 fa fd) : Binds K fd P_91 [] := F.binds fun _ _ _ _ _ _ us hl => match us, hl with | [_, _, _], _ => rfl
theorem bi_88 {fa : Addr} {fd : FuncData} (F : Fun K "_is_index" "_is_index" s_88 fa fd) : Binds K fd P_88 [] := F.binds fun _ _ _ _ _ _ us hl => match us, hl with | [_, _], _ => rfl
theorem bi_92 {fa : Addr} {fd : FuncData} (F : Fun K "_made_kind" "_made_kind" s_92 fa fd) : Binds K fd P_92 [] := F.binds fun _ _ _ _ _ _ us hl => match us, hl with | [_, _], _ => rfl
theorem bi_112 {fa : Addr} {fd : FuncData} (F : Fun K "check_wish" "check_wish" s_112 fa fd) : Binds K fd P_112 [] := F.binds fun _ _ _ _ _ _ us hl => match us, hl with | [_, _], _ => rfl
theorem bi_111 {fa : Addr} {fd : FuncData} (F : Fun K "fits_as_wish" "fits_as_wish" s_111 fa fd) : Binds K fd P_111 [] := F.binds fun _ _ _ _ _ _ us hl => match us, hl with | [_, _], _ => rfl
theorem bi_110 {fa : Addr} {fd : FuncData} (F : Fun K "fits_wish_role" "fits_wish_role" s_110 fa fd) : Binds K fd P_110 [] := F.binds fun _ _ _ _ _ _ us hl => match us, hl with | [_, _, _], _ => rfl
theorem bi_114 {fa : Addr} {fd : FuncData} (F : Fun K "write_program" "write_program" s_114 fa fd) : Binds K fd P_114 [] := F.binds fun _ _ _ _ _ _ us hl => match us, hl with | [_, _], _ => rfl
theorem bi_142 {fa : Addr} {fd : FuncData} (F : Fun K "read_program" "read_program" s_142 fa fd) : Binds K fd P_142 [] := F.binds fun _ _ _ _ _ _ us hl => match us, hl with | [_, _], _ => rfl
theorem bi_115 {fa : Addr} {fd : FuncData} (F : Fun K "write_wish" "write_wish" s_115 fa fd) : Binds K fd P_115 [] := F.binds fun _ _ _ _ _ _ us hl => match us, hl with | [_, _, _], _ => rfl
theorem bi_143 {fa : Addr} {fd : FuncData} (F : Fun K "read_wish" "read_wish" s_143 fa fd) : Binds K fd P_143 [] := F.binds fun _ _ _ _ _ _ us hl => match us, hl with | [_, _, _], _ => rfl
theorem bi_139 {fa : Addr} {fd : FuncData} (F : Fun K "number_from" "number_from" s_139 fa fd) : Binds K fd P_139 [] := F.binds fun _ _ _ _ _ _ us hl => match us, hl with | [_], _ => rfl
theorem bi_113 {fa : Addr} {fd : FuncData} (F : Fun K "_text_of" "_text_of" s_113 fa fd) : Binds K fd P_113 [] := F.binds fun _ _ _ _ _ _ us hl => match us, hl with | [_], _ => rfl
theorem bi_141 {fa : Addr} {fd : FuncData} (F : Fun K "_step_from" "_step_from" s_141 fa fd) : Binds K fd P_141 [] := F.binds fun _ _ _ _ _ _ us hl => match us, hl with | [_, _, _, _], _ => rfl
theorem bi_138 {fa : Addr} {fd : FuncData} (F : Fun K "_can_begin" "_can_begin" s_138 fa fd) : Binds K fd P_138 [] := F.binds fun _ _ _ _ _ _ us hl => match us, hl with | [_, _, _], _ => rfl
theorem bi_140 {fa : Addr} {fd : FuncData} (F : Fun K "_item_from" "_item_from" s_140 fa fd) : Binds K fd P_140 [] := F.binds fun _ _ _ _ _ _ us hl => match us, hl with | [_, _], _ => rfl
theorem bi_137 {fa : Addr} {fd : FuncData} (F : Fun K "_word_at" "_word_at" s_137 fa fd) : Binds K fd P_137 [] := F.binds fun _ _ _ _ _ _ us hl => match us, hl with | [_, _], _ => rfl
theorem bi_136 {fa : Addr} {fd : FuncData} (F : Fun K "_check_end" "_check_end" s_136 fa fd) : Binds K fd P_136 [] := F.binds fun _ _ _ _ _ _ us hl => match us, hl with | [_, _], _ => rfl
theorem bi_116 {fa : Addr} {fd : FuncData} (F : Fun K "_law_make_pot" "_law_make_pot" s_116 fa fd) : Binds K fd P_116 [] := F.binds fun _ _ _ _ _ _ us hl => match us, hl with | [_], _ => rfl
theorem bi_117 {fa : Addr} {fd : FuncData} (F : Fun K "_law_pick" "_law_pick" s_117 fa fd) : Binds K fd P_117 [] := F.binds fun _ _ _ _ _ _ us hl => match us, hl with | [_, _], _ => rfl
theorem bi_118 {fa : Addr} {fd : FuncData} (F : Fun K "_law_cells" "_law_cells" s_118 fa fd) : Binds K fd P_118 [] := F.binds fun _ _ _ _ _ _ us hl => match us, hl with | [_, _], _ => rfl
theorem bi_119 {fa : Addr} {fd : FuncData} (F : Fun K "_law_draw_spot" "_law_draw_spot" s_119 fa fd) : Binds K fd P_119 [] := F.binds fun _ _ _ _ _ _ us hl => match us, hl with | [_, _, _], _ => rfl
theorem bi_120 {fa : Addr} {fd : FuncData} (F : Fun K "_law_sort_behind" "_law_sort_behind" s_120 fa fd) : Binds K fd P_120 [] := F.binds fun _ _ _ _ _ _ us hl => match us, hl with | [_, _], _ => rfl
theorem bi_121 {fa : Addr} {fd : FuncData} (F : Fun K "_law_kinds_in" "_law_kinds_in" s_121 fa fd) : Binds K fd P_121 [] := F.binds fun _ _ _ _ _ _ us hl => match us, hl with | [_], _ => rfl
theorem bi_122 {fa : Addr} {fd : FuncData} (F : Fun K "_law_rule" "_law_rule" s_122 fa fd) : Binds K fd P_122 [] := F.binds fun _ _ _ _ _ _ us hl => match us, hl with | [_], _ => rfl
theorem bi_123 {fa : Addr} {fd : FuncData} (F : Fun K "_law_words_open" "_law_words_open" s_123 fa fd) : Binds K fd P_123 [] := F.binds fun _ _ _ _ _ _ us hl => match us, hl with | [_, _, _, _], _ => rfl
theorem bi_124 {fa : Addr} {fd : FuncData} (F : Fun K "_law_draw_step" "_law_draw_step" s_124 fa fd) : Binds K fd P_124 [] := F.binds fun _ _ _ _ _ _ us hl => match us, hl with | [_, _, _, _, _], _ => rfl
theorem bi_125 {fa : Addr} {fd : FuncData} (F : Fun K "_law_draw_tale" "_law_draw_tale" s_125 fa fd) : Binds K fd P_125 [] := F.binds fun _ _ _ _ _ _ us hl => match us, hl with | [_, _, _, _, _, _, _], _ => rfl
theorem bi_126 {fa : Addr} {fd : FuncData} (F : Fun K "_law_hours_in" "_law_hours_in" s_126 fa fd) : Binds K fd P_126 [] := F.binds fun _ _ _ _ _ _ us hl => match us, hl with | [_], _ => rfl
theorem bi_127 {fa : Addr} {fd : FuncData} (F : Fun K "_law_draw_shifts" "_law_draw_shifts" s_127 fa fd) : Binds K fd P_127 [] := F.binds fun _ _ _ _ _ _ us hl => match us, hl with | [_], _ => rfl
theorem bi_128 {fa : Addr} {fd : FuncData} (F : Fun K "_law_draw_apart" "_law_draw_apart" s_128 fa fd) : Binds K fd P_128 [] := F.binds fun _ _ _ _ _ _ us hl => match us, hl with | [_, _], _ => rfl
theorem bi_129 {fa : Addr} {fd : FuncData} (F : Fun K "_law_draw_fields" "_law_draw_fields" s_129 fa fd) : Binds K fd P_129 [] := F.binds fun _ _ _ _ _ _ us hl => match us, hl with | [_, _, _], _ => rfl
theorem bi_130 {fa : Addr} {fd : FuncData} (F : Fun K "_law_minutes" "_law_minutes" s_130 fa fd) : Binds K fd P_130 [] := F.binds fun _ _ _ _ _ _ us hl => match us, hl with | [_, _], _ => rfl
theorem bi_131 {fa : Addr} {fd : FuncData} (F : Fun K "_law_draw_want" "_law_draw_want" s_131 fa fd) : Binds K fd P_131 [] := F.binds fun _ _ _ _ _ _ us hl => match us, hl with | [_, _], _ => rfl
theorem bi_132 {fa : Addr} {fd : FuncData} (F : Fun K "_law_text" "_law_text" s_132 fa fd) : Binds K fd P_132 [] := F.binds fun _ _ _ _ _ _ us hl => match us, hl with | [_], _ => rfl
theorem bi_133 {fa : Addr} {fd : FuncData} (F : Fun K "_law_long_tale" "_law_long_tale" s_133 fa fd) : Binds K fd P_133 [] := F.binds fun _ _ _ _ _ _ us hl => match us, hl with | [_, _, _], _ => rfl
theorem bi_144 {fa : Addr} {fd : FuncData} (F : Fun K "_law_right" "_law_right" s_144 fa fd) : Binds K fd P_144 [] := F.binds fun _ _ _ _ _ _ us hl => match us, hl with | [_], _ => rfl
theorem bi_145 {fa : Addr} {fd : FuncData} (F : Fun K "law" "law" s_145 fa fd) : Binds K fd P_145 [] := F.binds fun _ _ _ _ _ _ us hl => match us, hl with | [_], _ => rfl
theorem all_ok (F : Fs0 K mg) (G : Gs w K mg) : ∀ n, Al P w K mg base n
  | 0 => ⟨(let ⟨fa, fd, h1, h2⟩ := F.f0; ⟨fa, fd, h1, h2, fn_ok0 h2 sc_0, bi_0 h2⟩), (let ⟨fa, fd, h1, h2⟩ := F.f1; ⟨fa, fd, h1, h2, fn_ok0 h2 sc_1, bi_1 h2⟩), (let ⟨fa, fd, h1, h2⟩ := F.f84; ⟨fa, fd, h1, h2, fn_ok0 h2 sc_84, bi_84 h2⟩), (let ⟨fa, fd, h1, h2⟩ := F.f6; ⟨fa, fd, h1, h2, fn_ok0 h2 sc_6, bi_6 h2⟩), (let ⟨fa, fd, h1, h2⟩ := F.f85; ⟨fa, fd, h1, h2, fn_ok0 h2 sc_85, bi_85 h2⟩), (let ⟨fa, fd, h1, h2⟩ := F.f86; ⟨fa, fd, h1, h2, fn_ok0 h2 sc_86, bi_86 h2⟩), (let ⟨fa, fd, h1, h2⟩ := F.f87; ⟨fa, fd, h1, h2, fn_ok0 h2 sc_87, bi_87 h2⟩), (let ⟨fa, fd, h1, h2⟩ := F.f65; ⟨fa, fd, h1, h2, fn_ok0 h2 sc_65, bi_65 h2⟩), (let ⟨fa, fd, h1, h2⟩ := F.f3; ⟨fa, fd, h1, h2, fn_ok0 h2 sc_3, bi_3 h2⟩), (let ⟨fa, fd, h1, h2⟩ := F.f5; ⟨fa, fd, h1, h2, fn_ok0 h2 sc_5, bi_5 h2⟩), (let ⟨fa, fd, h1, h2⟩ := F.f4; ⟨fa, fd, h1, h2, fn_ok0 h2 sc_4, bi_4 h2⟩), (let ⟨fa, fd, h1, h2⟩ := F.f95; ⟨fa, fd, h1, h2, fn_ok0 h2 sc_95, bi_95 h2⟩), (let ⟨fa, fd, h1, h2⟩ := F.f93; ⟨fa, fd, h1, h2, fn_ok0 h2 sc_93, bi_93 h2⟩), (let ⟨fa, fd, h1, h2⟩ := F.f96; ⟨fa, fd, h1, h2, fn_ok0 h2 sc_96, bi_96 h2⟩), (let ⟨fa, fd, h1, h2⟩ := F.f90; ⟨fa, fd, h1, h2, fn_ok0 h2 sc_90, bi_90 h2⟩), (let ⟨fa, fd, h1, h2⟩ := F.f89; ⟨fa, fd, h1, h2, fn_ok0 h2 sc_89, bi_89 h2⟩), (let ⟨fa, fd, h1, h2⟩ := F.f91; ⟨fa, fd, h1, h2, fn_ok0 h2 sc_91, bi_91 h2⟩), (let ⟨fa, fd, h1, h2⟩ := F.f88; ⟨fa, fd, h1, h2, fn_ok0 h2 sc_88, bi_88 h2⟩), (let ⟨fa, fd, h1, h2⟩ := F.f92; ⟨fa, fd, h1, h2, fn_ok0 h2 sc_92, bi_92 h2⟩), (let ⟨fa, fd, h1, h2⟩ := F.f112; ⟨fa, fd, h1, h2, fn_ok0 h2 sc_112, bi_112 h2⟩), (let ⟨fa, fd, h1, h2⟩ := F.f111; ⟨fa, fd, h1, h2, fn_ok0 h2 sc_111, bi_111 h2⟩), (let ⟨fa, fd, h1, h2⟩ := F.f110; ⟨fa, fd, h1, h2, fn_ok0 h2 sc_110, bi_110 h2⟩), (let ⟨fa, fd, h1, h2⟩ := F.f114; ⟨fa, fd, h1, h2, fn_ok0 h2 sc_114, bi_114 h2⟩), (let ⟨fa, fd, h1, h2⟩ := F.f142; ⟨fa, fd, h1, h2, fn_ok0 h2 sc_142, bi_142 h2⟩), (let ⟨fa, fd, h1, h2⟩ := F.f115; ⟨fa, fd, h1, h2, fn_ok0 h2 sc_115, bi_115 h2⟩), (let ⟨fa, fd, h1, h2⟩ := F.f143; ⟨fa, fd, h1, h2, fn_ok0 h2 sc_143, bi_143 h2⟩), (let ⟨fa, fd, h1, h2⟩ := F.f139; ⟨fa, fd, h1, h2, fn_ok0 h2 sc_139, bi_139 h2⟩), (let ⟨fa, fd, h1, h2⟩ := F.f113; ⟨fa, fd, h1, h2, fn_ok0 h2 sc_113, bi_113 h2⟩), (let ⟨fa, fd, h1, h2⟩ := F.f141; ⟨fa, fd, h1, h2, fn_ok0 h2 sc_141, bi_141 h2⟩), (let ⟨fa, fd, h1, h2⟩ := F.f138; ⟨fa, fd, h1, h2, fn_ok0 h2 sc_138, bi_138 h2⟩), (let ⟨fa, fd, h1, h2⟩ := F.f140; ⟨fa, fd, h1, h2, fn_ok0 h2 sc_140, bi_140 h2⟩), (let ⟨fa, fd, h1, h2⟩ := F.f137; ⟨fa, fd, h1, h2, fn_ok0 h2 sc_137, bi_137 h2⟩), (let ⟨fa, fd, h1, h2⟩ := F.f136; ⟨fa, fd, h1, h2, fn_ok0 h2 sc_136, bi_136 h2⟩), (let ⟨fa, fd, h1, h2⟩ := F.f116; ⟨fa, fd, h1, h2, fn_ok0 h2 sc_116, bi_116 h2⟩), (let ⟨fa, fd, h1, h2⟩ := F.f117; ⟨fa, fd, h1, h2, fn_ok0 h2 sc_117, bi_117 h2⟩), (let ⟨fa, fd, h1, h2⟩ := F.f118; ⟨fa, fd, h1, h2, fn_ok0 h2 sc_118, bi_118 h2⟩), (let ⟨fa, fd, h1, h2⟩ := F.f119; ⟨fa, fd, h1, h2, fn_ok0 h2 sc_119, bi_119 h2⟩), (let ⟨fa, fd, h1, h2⟩ := F.f120; ⟨fa, fd, h1, h2, fn_ok0 h2 sc_120, bi_120 h2⟩), (let ⟨fa, fd, h1, h2⟩ := F.f121; ⟨fa, fd, h1, h2, fn_ok0 h2 sc_121, bi_121 h2⟩), (let ⟨fa, fd, h1, h2⟩ := F.f122; ⟨fa, fd, h1, h2, fn_ok0 h2 sc_122, bi_122 h2⟩), (let ⟨fa, fd, h1, h2⟩ := F.f123; ⟨fa, fd, h1, h2, fn_ok0 h2 sc_123, bi_123 h2⟩), (let ⟨fa, fd, h1, h2⟩ := F.f124; ⟨fa, fd, h1, h2, fn_ok0 h2 sc_124, bi_124 h2⟩), (let ⟨fa, fd, h1, h2⟩ := F.f125; ⟨fa, fd, h1, h2, fn_ok0 h2 sc_125, bi_125 h2⟩), (let ⟨fa, fd, h1, h2⟩ := F.f126; ⟨fa, fd, h1, h2, fn_ok0 h2 sc_126, bi_126 h2⟩), (let ⟨fa, fd, h1, h2⟩ := F.f127; ⟨fa, fd, h1, h2, fn_ok0 h2 sc_127, bi_127 h2⟩), (let ⟨fa, fd, h1, h2⟩ := F.f128; ⟨fa, fd, h1, h2, fn_ok0 h2 sc_128, bi_128 h2⟩), (let ⟨fa, fd, h1, h2⟩ := F.f129; ⟨fa, fd, h1, h2, fn_ok0 h2 sc_129, bi_129 h2⟩), (let ⟨fa, fd, h1, h2⟩ := F.f130; ⟨fa, fd, h1, h2, fn_ok0 h2 sc_130, bi_130 h2⟩), (let ⟨fa, fd, h1, h2⟩ := F.f131; ⟨fa, fd, h1, h2, fn_ok0 h2 sc_131, bi_131 h2⟩), (let ⟨fa, fd, h1, h2⟩ := F.f132; ⟨fa, fd, h1, h2, fn_ok0 h2 sc_132, bi_132 h2⟩), (let ⟨fa, fd, h1, h2⟩ := F.f133; ⟨fa, fd, h1, h2, fn_ok0 h2 sc_133, bi_133 h2⟩), (let ⟨fa, fd, h1, h2⟩ := F.f144; ⟨fa, fd, h1, h2, fn_ok0 h2 sc_144, bi_144 h2⟩), (let ⟨fa, fd, h1, h2⟩ := F.f145; ⟨fa, fd, h1, h2, fn_ok0 h2 sc_145, bi_145 h2⟩)⟩
  | n + 1 => have A := all_ok F G n; ⟨(let ⟨fa, fd, h1, h2⟩ := F.f0; ⟨fa, fd, h1, h2, fn_ok h2 sc_0 rfl rfl rfl (fun cdv Ar outer s H E hr => d_0 A G fa cdv Ar outer s H E hr), bi_0 h2⟩),
    (let ⟨fa, fd, h1, h2⟩ := F.f1; ⟨fa, fd, h1, h2, fn_ok h2 sc_1 rfl rfl rfl (fun cdv Ar outer s H E hr => d_1 A G fa cdv Ar outer s H E hr), bi_1 h2⟩),
    (let ⟨fa, fd, h1, h2⟩ := F.f84; ⟨fa, fd, h1, h2, fn_ok h2 sc_84 rfl rfl rfl (fun cdv Ar outer s H E hr => d_84 A G fa cdv Ar outer s H E hr), bi_84 h2⟩),
    (let ⟨fa, fd, h1, h2⟩ := F.f6; ⟨fa, fd, h1, h2, fn_ok h2 sc_6 rfl rfl rfl (fun cdv Ar outer s H E hr => d_6 A G fa cdv Ar outer s H E hr), bi_6 h2⟩),
    (let ⟨fa, fd, h1, h2⟩ := F.f85; ⟨fa, fd, h1, h2, fn_ok h2 sc_85 rfl rfl rfl (fun cdv Ar outer s H E hr => d_85 A G fa cdv Ar outer s H E hr), bi_85 h2⟩),
    (let ⟨fa, fd, h1, h2⟩ := F.f86; ⟨fa, fd, h1, h2, fn_ok h2 sc_86 rfl rfl rfl (fun cdv Ar outer s H E hr => d_86 A G fa cdv Ar outer s H E hr), bi_86 h2⟩),
    (let ⟨fa, fd, h1, h2⟩ := F.f87; ⟨fa, fd, h1, h2, fn_ok h2 sc_87 rfl rfl rfl (fun cdv Ar outer s H E hr => d_87 A G fa cdv Ar outer s H E hr), bi_87 h2⟩),
    (let ⟨fa, fd, h1, h2⟩ := F.f65; ⟨fa, fd, h1, h2, fn_ok h2 sc_65 rfl rfl rfl (fun cdv Ar outer s H E hr => d_65 A G fa cdv Ar outer s H E hr), bi_65 h2⟩),
    (let ⟨fa, fd, h1, h2⟩ := F.f3; ⟨fa, fd, h1, h2, fn_ok h2 sc_3 rfl rfl rfl (fun cdv Ar outer s H E hr => d_3 A G fa cdv Ar outer s H E hr), bi_3 h2⟩),
    (let ⟨fa, fd, h1, h2⟩ := F.f5; ⟨fa, fd, h1, h2, fn_ok h2 sc_5 rfl rfl rfl (fun cdv Ar outer s H E hr => d_5 A G fa cdv Ar outer s H E hr), bi_5 h2⟩),
    (let ⟨fa, fd, h1, h2⟩ := F.f4; ⟨fa, fd, h1, h2, fn_ok h2 sc_4 rfl rfl rfl (fun cdv Ar outer s H E hr => d_4 A G fa cdv Ar outer s H E hr), bi_4 h2⟩),
    (let ⟨fa, fd, h1, h2⟩ := F.f95; ⟨fa, fd, h1, h2, fn_ok h2 sc_95 rfl rfl rfl (fun cdv Ar outer s H E hr => d_95 A G fa cdv Ar outer s H E hr), bi_95 h2⟩),
    (let ⟨fa, fd, h1, h2⟩ := F.f93; ⟨fa, fd, h1, h2, fn_ok h2 sc_93 rfl rfl rfl (fun cdv Ar outer s H E hr => d_93 A G fa cdv Ar outer s H E hr), bi_93 h2⟩),
    (let ⟨fa, fd, h1, h2⟩ := F.f96; ⟨fa, fd, h1, h2, fn_ok h2 sc_96 rfl rfl rfl (fun cdv Ar outer s H E hr => d_96 A G fa cdv Ar outer s H E hr), bi_96 h2⟩),
    (let ⟨fa, fd, h1, h2⟩ := F.f90; ⟨fa, fd, h1, h2, fn_ok h2 sc_90 rfl rfl rfl (fun cdv Ar outer s H E hr => d_90 A G fa cdv Ar outer s H E hr), bi_90 h2⟩),
    (let ⟨fa, fd, h1, h2⟩ := F.f89; ⟨fa, fd, h1, h2, fn_ok h2 sc_89 rfl rfl rfl (fun cdv Ar outer s H E hr => d_89 A G fa cdv Ar outer s H E hr), bi_89 h2⟩),
    (let ⟨fa, fd, h1, h2⟩ := F.f91; ⟨fa, fd, h1, h2, fn_ok h2 sc_91 rfl rfl rfl (fun cdv Ar outer s H E hr => d_91 A G fa cdv Ar outer s H E hr), bi_91 h2⟩),
    (let ⟨fa, fd, h1, h2⟩ := F.f88; ⟨fa, fd, h1, h2, fn_ok h2 sc_88 rfl rfl rfl (fun cdv Ar outer s H E hr => d_88 A G fa cdv Ar outer s H E hr), bi_88 h2⟩),
    (let ⟨fa, fd, h1, h2⟩ := F.f92; ⟨fa, fd, h1, h2, fn_ok h2 sc_92 rfl rfl rfl (fun cdv Ar outer s H E hr => d_92 A G fa cdv Ar outer s H E hr), bi_92 h2⟩),
    (let ⟨fa, fd, h1, h2⟩ := F.f112; ⟨fa, fd, h1, h2, fn_ok h2 sc_112 rfl rfl rfl (fun cdv Ar outer s H E hr => d_112 A G fa cdv Ar outer s H E hr), bi_112 h2⟩),
    (let ⟨fa, fd, h1, h2⟩ := F.f111; ⟨fa, fd, h1, h2, fn_ok h2 sc_111 rfl rfl rfl (fun cdv Ar outer s H E hr => d_111 A G fa cdv Ar outer s H E hr), bi_111 h2⟩),
    (let ⟨fa, fd, h1, h2⟩ := F.f110; ⟨fa, fd, h1, h2, fn_ok h2 sc_110 rfl rfl rfl (fun cdv Ar outer s H E hr => d_110 A G fa cdv Ar outer s H E hr), bi_110 h2⟩),
    (let ⟨fa, fd, h1, h2⟩ := F.f114; ⟨fa, fd, h1, h2, fn_ok h2 sc_114 rfl rfl rfl (fun cdv Ar outer s H E hr => d_114 A G fa cdv Ar outer s H E hr), bi_114 h2⟩),
    (let ⟨fa, fd, h1, h2⟩ := F.f142; ⟨fa, fd, h1, h2, fn_ok h2 sc_142 rfl rfl rfl (fun cdv Ar outer s H E hr => d_142 A G fa cdv Ar outer s H E hr), bi_142 h2⟩),
    (let ⟨fa, fd, h1, h2⟩ := F.f115; ⟨fa, fd, h1, h2, fn_ok h2 sc_115 rfl rfl rfl (fun cdv Ar outer s H E hr => d_115 A G fa cdv Ar outer s H E hr), bi_115 h2⟩),
    (let ⟨fa, fd, h1, h2⟩ := F.f143; ⟨fa, fd, h1, h2, fn_ok h2 sc_143 rfl rfl rfl (fun cdv Ar outer s H E hr => d_143 A G fa cdv Ar outer s H E hr), bi_143 h2⟩),
    (let ⟨fa, fd, h1, h2⟩ := F.f139; ⟨fa, fd, h1, h2, fn_ok h2 sc_139 rfl rfl rfl (fun cdv Ar outer s H E hr => d_139 A G fa cdv Ar outer s H E hr), bi_139 h2⟩),
    (let ⟨fa, fd, h1, h2⟩ := F.f113; ⟨fa, fd, h1, h2, fn_ok h2 sc_113 rfl rfl rfl (fun cdv Ar outer s H E hr => d_113 A G fa cdv Ar outer s H E hr), bi_113 h2⟩),
    (let ⟨fa, fd, h1, h2⟩ := F.f141; ⟨fa, fd, h1, h2, fn_ok h2 sc_141 rfl rfl rfl (fun cdv Ar outer s H E hr => d_141 A G fa cdv Ar outer s H E hr), bi_141 h2⟩),
    (let ⟨fa, fd, h1, h2⟩ := F.f138; ⟨fa, fd, h1, h2, fn_ok h2 sc_138 rfl rfl rfl (fun cdv Ar outer s H E hr => d_138 A G fa cdv Ar outer s H E hr), bi_138 h2⟩),
    (let ⟨fa, fd, h1, h2⟩ := F.f140; ⟨fa, fd, h1, h2, fn_ok h2 sc_140 rfl rfl rfl (fun cdv Ar outer s H E hr => d_140 A G fa cdv Ar outer s H E hr), bi_140 h2⟩),
    (let ⟨fa, fd, h1, h2⟩ := F.f137; ⟨fa, fd, h1, h2, fn_ok h2 sc_137 rfl rfl rfl (fun cdv Ar outer s H E hr => d_137 A G fa cdv Ar outer s H E hr), bi_137 h2⟩),
    (let ⟨fa, fd, h1, h2⟩ := F.f136; ⟨fa, fd, h1, h2, fn_ok h2 sc_136 rfl rfl rfl (fun cdv Ar outer s H E hr => d_136 A G fa cdv Ar outer s H E hr), bi_136 h2⟩),
    (let ⟨fa, fd, h1, h2⟩ := F.f116; ⟨fa, fd, h1, h2, fn_ok h2 sc_116 rfl rfl rfl (fun cdv Ar outer s H E hr => d_116 A G fa cdv Ar outer s H E hr), bi_116 h2⟩),
    (let ⟨fa, fd, h1, h2⟩ := F.f117; ⟨fa, fd, h1, h2, fn_ok h2 sc_117 rfl rfl rfl (fun cdv Ar outer s H E hr => d_117 A G fa cdv Ar outer s H E hr), bi_117 h2⟩),
    (let ⟨fa, fd, h1, h2⟩ := F.f118; ⟨fa, fd, h1, h2, fn_ok h2 sc_118 rfl rfl rfl (fun cdv Ar outer s H E hr => d_118 A G fa cdv Ar outer s H E hr), bi_118 h2⟩),
    (let ⟨fa, fd, h1, h2⟩ := F.f119; ⟨fa, fd, h1, h2, fn_ok h2 sc_119 rfl rfl rfl (fun cdv Ar outer s H E hr => d_119 A G fa cdv Ar outer s H E hr), bi_119 h2⟩),
    (let ⟨fa, fd, h1, h2⟩ := F.f120; ⟨fa, fd, h1, h2, fn_ok h2 sc_120 rfl rfl rfl (fun cdv Ar outer s H E hr => d_120 A G fa cdv Ar outer s H E hr), bi_120 h2⟩),
    (let ⟨fa, fd, h1, h2⟩ := F.f121; ⟨fa, fd, h1, h2, fn_ok h2 sc_121 rfl rfl rfl (fun cdv Ar outer s H E hr => d_121 A G fa cdv Ar outer s H E hr), bi_121 h2⟩),
    (let ⟨fa, fd, h1, h2⟩ := F.f122; ⟨fa, fd, h1, h2, fn_ok h2 sc_122 rfl rfl rfl (fun cdv Ar outer s H E hr => d_122 A G fa cdv Ar outer s H E hr), bi_122 h2⟩),
    (let ⟨fa, fd, h1, h2⟩ := F.f123; ⟨fa, fd, h1, h2, fn_ok h2 sc_123 rfl rfl rfl (fun cdv Ar outer s H E hr => d_123 A G fa cdv Ar outer s H E hr), bi_123 h2⟩),
    (let ⟨fa, fd, h1, h2⟩ := F.f124; ⟨fa, fd, h1, h2, fn_ok h2 sc_124 rfl rfl rfl (fun cdv Ar outer s H E hr => d_124 A G fa cdv Ar outer s H E hr), bi_124 h2⟩),
    (let ⟨fa, fd, h1, h2⟩ := F.f125; ⟨fa, fd, h1, h2, fn_ok h2 sc_125 rfl rfl rfl (fun cdv Ar outer s H E hr => d_125 A G fa cdv Ar outer s H E hr), bi_125 h2⟩),
    (let ⟨fa, fd, h1, h2⟩ := F.f126; ⟨fa, fd, h1, h2, fn_ok h2 sc_126 rfl rfl rfl (fun cdv Ar outer s H E hr => d_126 A G fa cdv Ar outer s H E hr), bi_126 h2⟩),
    (let ⟨fa, fd, h1, h2⟩ := F.f127; ⟨fa, fd, h1, h2, fn_ok h2 sc_127 rfl rfl rfl (fun cdv Ar outer s H E hr => d_127 A G fa cdv Ar outer s H E hr), bi_127 h2⟩),
    (let ⟨fa, fd, h1, h2⟩ := F.f128; ⟨fa, fd, h1, h2, fn_ok h2 sc_128 rfl rfl rfl (fun cdv Ar outer s H E hr => d_128 A G fa cdv Ar outer s H E hr), bi_128 h2⟩),
    (let ⟨fa, fd, h1, h2⟩ := F.f129; ⟨fa, fd, h1, h2, fn_ok h2 sc_129 rfl rfl rfl (fun cdv Ar outer s H E hr => d_129 A G fa cdv Ar outer s H E hr), bi_129 h2⟩),
    (let ⟨fa, fd, h1, h2⟩ := F.f130; ⟨fa, fd, h1, h2, fn_ok h2 sc_130 rfl rfl rfl (fun cdv Ar outer s H E hr => d_130 A G fa cdv Ar outer s H E hr), bi_130 h2⟩),
    (let ⟨fa, fd, h1, h2⟩ := F.f131; ⟨fa, fd, h1, h2, fn_ok h2 sc_131 rfl rfl rfl (fun cdv Ar outer s H E hr => d_131 A G fa cdv Ar outer s H E hr), bi_131 h2⟩),
    (let ⟨fa, fd, h1, h2⟩ := F.f132; ⟨fa, fd, h1, h2, fn_ok h2 sc_132 rfl rfl rfl (fun cdv Ar outer s H E hr => d_132 A G fa cdv Ar outer s H E hr), bi_132 h2⟩),
    (let ⟨fa, fd, h1, h2⟩ := F.f133; ⟨fa, fd, h1, h2, fn_ok h2 sc_133 rfl rfl rfl (fun cdv Ar outer s H E hr => d_133 A G fa cdv Ar outer s H E hr), bi_133 h2⟩),
    (let ⟨fa, fd, h1, h2⟩ := F.f144; ⟨fa, fd, h1, h2, fn_ok h2 sc_144 rfl rfl rfl (fun cdv Ar outer s H E hr => d_144 A G fa cdv Ar outer s H E hr), bi_144 h2⟩),
    (let ⟨fa, fd, h1, h2⟩ := F.f145; ⟨fa, fd, h1, h2, fn_ok h2 sc_145 rfl rfl rfl (fun cdv Ar outer s H E hr => d_145 A G fa cdv Ar outer s H E hr), bi_145 h2⟩)⟩
end
theorem all_mk {l : PySem.W.OpenLaw} {w : World} {K : PySem.W.Frag} {h : Heap} {mg : Str → Option Value} {fa f0 f1 f84 f6 f85 f86 f87 f65 f3 f5 f4 f95 f93 f96 f90 f89 f91 f88 f92 f112 f111 f110 f114 f142 f115 f143 f139 f113 f141 f138 f140 f137 f136 f116 f117 f118 f119 f120 f121 f122 f123 f124 f125 f126 f127 f128 f129 f130 f131 f132 f133 f144 f145 : Addr} (X : K.In h) (G : h.Ns mainGlobals mg) (hfa : mg "law" = some (.ref fa))
    {od0 an0 od1 an1 od84 an84 od6 an6 od85 an85 od86 an86 od87 an87 od65 an65 od3 an3 od5 an5 od4 an4 od95 an95 od93 an93 od96 an96 od90 an90 od89 an89 od91 an91 od88 an88 od92 an92 od112 an112 od111 an111 od110 an110 od114 an114 od142 an142 od115 an115 od143 an143 od139 an139 od113 an113 od141 an141 od138 an138 od140 an140 od137 an137 od136 an136 od116 an116 od117 an117 od118 an118 od119 an119 od120 an120 od121 an121 od122 an122 od123 an123 od124 an124 od125 an125 od126 an126 od127 an127 od128 an128 od129 an129 od130 an130 od131 an131 od132 an132 od133 an133 od144 an144 od145 an145 : Option Addr} {sl0 sl1 sl84 sl6 sl85 sl86 sl87 sl65 sl3 sl5 sl4 sl95 sl93 sl96 sl90 sl89 sl91 sl88 sl92 sl112 sl111 sl110 sl114 sl142 sl115 sl143 sl139 sl113 sl141 sl138 sl140 sl137 sl136 sl116 sl117 sl118 sl119 sl120 sl121 sl122 sl123 sl124 sl125 sl126 sl127 sl128 sl129 sl130 sl131 sl132 sl133 sl144 sl145 : Array (Option Value)} {oc0 kV0 dc0 pm0 cd0 ct0 oc1 kV1 dc1 pm1 cd1 ct1 oc84 kV84 dc84 pm84 cd84 ct84 oc6 kV6 dc6 pm6 cd6 ct6 oc85 kV85 dc85 pm85 cd85 ct85 oc86 kV86 dc86 pm86 cd86 ct86 oc87 kV87 dc87 pm87 cd87 ct87 oc65 kV65 dc65 pm65 cd65 ct65 oc3 kV3 dc3 pm3 cd3 ct3 oc5 kV5 dc5 pm5 cd5 ct5 oc4 kV4 dc4 pm4 cd4 ct4 oc95 kV95 dc95 pm95 cd95 ct95 oc93 kV93 dc93 pm93 cd93 ct93 oc96 kV96 dc96 pm96 cd96 ct96 oc90 kV90 dc90 pm90 cd90 ct90 oc89 kV89 dc89 pm89 cd89 ct89 oc91 kV91 dc91 pm91 cd91 ct91 oc88 kV88 dc88 pm88 cd88 ct88 oc92 kV92 dc92 pm92 cd92 ct92 oc112 kV112 dc112 pm112 cd112 ct112 oc111 kV111 dc111 pm111 cd111 ct111 oc110 kV110 dc110 pm110 cd110 ct110 oc114 kV114 dc114 pm114 cd114 ct114 oc142 kV142 dc142 pm142 cd142 ct142 oc115 kV115 dc115 pm115 cd115 ct115 oc143 kV143 dc143 pm143 cd143 ct143 oc139 kV139 dc139 pm139 cd139 ct139 oc113 kV113 dc113 pm113 cd113 ct113 oc141 kV141 dc141 pm141 cd141 ct141 oc138 kV138 dc138 pm138 cd138 ct138 oc140 kV140 dc140 pm140 cd140 ct140 oc137 kV137 dc137 pm137 cd137 ct137 oc136 kV136 dc136 pm136 cd136 ct136 oc116 kV116 dc116 pm116 cd116 ct116 oc117 kV117 dc117 pm117 cd117 ct117 oc118 kV118 dc118 pm118 cd118 ct118 oc119 kV119 dc119 pm119 cd119 ct119 oc120 kV120 dc120 pm120 cd120 ct120 oc121 kV121 dc121 pm121 cd121 ct121 oc122 kV122 dc122 pm122 cd122 ct122 oc123 kV123 dc123 pm123 cd123 ct123 oc124 kV124 dc124 pm124 cd124 ct124 oc125 kV125 dc125 pm125 cd125 ct125 oc126 kV126 dc126 pm126 cd126 ct126 oc127 kV127 dc127 pm127 cd127 ct127 oc128 kV128 dc128 pm128 cd128 ct128 oc129 kV129 dc129 pm129 cd129 ct129 oc130 kV130 dc130 pm130 cd130 ct130 oc131 kV131 dc131 pm131 cd131 ct131 oc132 kV132 dc132 pm132 cd132 ct132 oc133 kV133 dc133 pm133 cd133 ct133 oc144 kV144 dc144 pm144 cd144 ct144 oc145 kV145 dc145 pm145 cd145 ct145 : Value}
    (a0 : PySem.W.nsIn K mainGlobals "is_number" = some (some (.ref f0))) (l0 : K.lookup f0 = some ⟨oc0, od0, .func (PySem.W.fnOf "is_number" "is_number" (defArgs s_0) (defBody s_0) (defScope s_0) .none kV0 dc0 pm0 an0 cd0 ct0), sl0⟩) (c0 : PySem.W.codeIn K cd0 "is_number" = true) (k0 : PySem.W.keepIn K (.ref f0) = true)
    (a1 : PySem.W.nsIn K mainGlobals "is_pair" = some (some (.ref f1))) (l1 : K.lookup f1 = some ⟨oc1, od1, .func (PySem.W.fnOf "is_pair" "is_pair" (defArgs s_1) (defBody s_1) (defScope s_1) .none kV1 dc1 pm1 an1 cd1 ct1), sl1⟩) (c1 : PySem.W.codeIn K cd1 "is_pair" = true) (k1 : PySem.W.keepIn K (.ref f1) = true)
    (a84 : PySem.W.nsIn K mainGlobals "first_word" = some (some (.ref f84))) (l84 : K.lookup f84 = some ⟨oc84, od84, .func (PySem.W.fnOf "first_word" "first_word" (defArgs s_84) (defBody s_84) (defScope s_84) .none kV84 dc84 pm84 an84 cd84 ct84), sl84⟩) (c84 : PySem.W.codeIn K cd84 "first_word" = true) (k84 : PySem.W.keepIn K (.ref f84) = true)
    (a6 : PySem.W.nsIn K mainGlobals "is_zone" = some (some (.ref f6))) (l6 : K.lookup f6 = some ⟨oc6, od6, .func (PySem.W.fnOf "is_zone" "is_zone" (defArgs s_6) (defBody s_6) (defScope s_6) .none kV6 dc6 pm6 an6 cd6 ct6), sl6⟩) (c6 : PySem.W.codeIn K cd6 "is_zone" = true) (k6 : PySem.W.keepIn K (.ref f6) = true)
    (a85 : PySem.W.nsIn K mainGlobals "is_zones" = some (some (.ref f85))) (l85 : K.lookup f85 = some ⟨oc85, od85, .func (PySem.W.fnOf "is_zones" "is_zones" (defArgs s_85) (defBody s_85) (defScope s_85) .none kV85 dc85 pm85 an85 cd85 ct85), sl85⟩) (c85 : PySem.W.codeIn K cd85 "is_zones" = true) (k85 : PySem.W.keepIn K (.ref f85) = true)
    (a86 : PySem.W.nsIn K mainGlobals "check_zones" = some (some (.ref f86))) (l86 : K.lookup f86 = some ⟨oc86, od86, .func (PySem.W.fnOf "check_zones" "check_zones" (defArgs s_86) (defBody s_86) (defScope s_86) .none kV86 dc86 pm86 an86 cd86 ct86), sl86⟩) (c86 : PySem.W.codeIn K cd86 "check_zones" = true) (k86 : PySem.W.keepIn K (.ref f86) = true)
    (a87 : PySem.W.nsIn K mainGlobals "is_place" = some (some (.ref f87))) (l87 : K.lookup f87 = some ⟨oc87, od87, .func (PySem.W.fnOf "is_place" "is_place" (defArgs s_87) (defBody s_87) (defScope s_87) .none kV87 dc87 pm87 an87 cd87 ct87), sl87⟩) (c87 : PySem.W.codeIn K cd87 "is_place" = true) (k87 : PySem.W.keepIn K (.ref f87) = true)
    (a65 : PySem.W.nsIn K mainGlobals "is_rule" = some (some (.ref f65))) (l65 : K.lookup f65 = some ⟨oc65, od65, .func (PySem.W.fnOf "is_rule" "is_rule" (defArgs s_65) (defBody s_65) (defScope s_65) .none kV65 dc65 pm65 an65 cd65 ct65), sl65⟩) (c65 : PySem.W.codeIn K cd65 "is_rule" = true) (k65 : PySem.W.keepIn K (.ref f65) = true)
    (a3 : PySem.W.nsIn K mainGlobals "is_ascending" = some (some (.ref f3))) (l3 : K.lookup f3 = some ⟨oc3, od3, .func (PySem.W.fnOf "is_ascending" "is_ascending" (defArgs s_3) (defBody s_3) (defScope s_3) .none kV3 dc3 pm3 an3 cd3 ct3), sl3⟩) (c3 : PySem.W.codeIn K cd3 "is_ascending" = true) (k3 : PySem.W.keepIn K (.ref f3) = true)
    (a5 : PySem.W.nsIn K mainGlobals "_are_offsets" = some (some (.ref f5))) (l5 : K.lookup f5 = some ⟨oc5, od5, .func (PySem.W.fnOf "_are_offsets" "_are_offsets" (defArgs s_5) (defBody s_5) (defScope s_5) .none kV5 dc5 pm5 an5 cd5 ct5), sl5⟩) (c5 : PySem.W.codeIn K cd5 "_are_offsets" = true) (k5 : PySem.W.keepIn K (.ref f5) = true)
    (a4 : PySem.W.nsIn K mainGlobals "_is_near" = some (some (.ref f4))) (l4 : K.lookup f4 = some ⟨oc4, od4, .func (PySem.W.fnOf "_is_near" "_is_near" (defArgs s_4) (defBody s_4) (defScope s_4) .none kV4 dc4 pm4 an4 cd4 ct4), sl4⟩) (c4 : PySem.W.codeIn K cd4 "_is_near" = true) (k4 : PySem.W.keepIn K (.ref f4) = true)
    (a95 : PySem.W.nsIn K mainGlobals "check_program" = some (some (.ref f95))) (l95 : K.lookup f95 = some ⟨oc95, od95, .func (PySem.W.fnOf "check_program" "check_program" (defArgs s_95) (defBody s_95) (defScope s_95) .none kV95 dc95 pm95 an95 cd95 ct95), sl95⟩) (c95 : PySem.W.codeIn K cd95 "check_program" = true) (k95 : PySem.W.keepIn K (.ref f95) = true)
    (a93 : PySem.W.nsIn K mainGlobals "fits_as_program" = some (some (.ref f93))) (l93 : K.lookup f93 = some ⟨oc93, od93, .func (PySem.W.fnOf "fits_as_program" "fits_as_program" (defArgs s_93) (defBody s_93) (defScope s_93) .none kV93 dc93 pm93 an93 cd93 ct93), sl93⟩) (c93 : PySem.W.codeIn K cd93 "fits_as_program" = true) (k93 : PySem.W.keepIn K (.ref f93) = true)
    (a96 : PySem.W.nsIn K mainGlobals "kinds_of_values" = some (some (.ref f96))) (l96 : K.lookup f96 = some ⟨oc96, od96, .func (PySem.W.fnOf "kinds_of_values" "kinds_of_values" (defArgs s_96) (defBody s_96) (defScope s_96) .none kV96 dc96 pm96 an96 cd96 ct96), sl96⟩) (c96 : PySem.W.codeIn K cd96 "kinds_of_values" = true) (k96 : PySem.W.keepIn K (.ref f96) = true)
    (a90 : PySem.W.nsIn K mainGlobals "fits_step_role" = some (some (.ref f90))) (l90 : K.lookup f90 = some ⟨oc90, od90, .func (PySem.W.fnOf "fits_step_role" "fits_step_role" (defArgs s_90) (defBody s_90) (defScope s_90) .none kV90 dc90 pm90 an90 cd90 ct90), sl90⟩) (c90 : PySem.W.codeIn K cd90 "fits_step_role" = true) (k90 : PySem.W.keepIn K (.ref f90) = true)
    (a89 : PySem.W.nsIn K mainGlobals "is_time" = some (some (.ref f89))) (l89 : K.lookup f89 = some ⟨oc89, od89, .func (PySem.W.fnOf "is_time" "is_time" (defArgs s_89) (defBody s_89) (defScope s_89) .none kV89 dc89 pm89 an89 cd89 ct89), sl89⟩) (c89 : PySem.W.codeIn K cd89 "is_time" = true) (k89 : PySem.W.keepIn K (.ref f89) = true)
    (a91 : PySem.W.nsIn K mainGlobals "_is_step" = some (some (.ref f91))) (l91 : K.lookup f91 = some ⟨oc91, od91, .func (PySem.W.fnOf "_is_step" "_is_step" (defArgs s_91) (defBody s_91) (defScope s_91) .none kV91 dc91 pm91 an91 cd91 ct91), sl91⟩) (c91 : PySem.W.codeIn K cd91 "_is_step" = true) (k91 : PySem.W.keepIn K (.ref f91) = true)
    (a88 : PySem.W.nsIn K mainGlobals "_is_index" = some (some (.ref f88))) (l88 : K.lookup f88 = some ⟨oc88, od88, .func (PySem.W.fnOf "_is_index" "_is_index" (defArgs s_88) (defBody s_88) (defScope s_88) .none kV88 dc88 pm88 an88 cd88 ct88), sl88⟩) (c88 : PySem.W.codeIn K cd88 "_is_index" = true) (k88 : PySem.W.keepIn K (.ref f88) = true)
    (a92 : PySem.W.nsIn K mainGlobals "_made_kind" = some (some (.ref f92))) (l92 : K.lookup f92 = some ⟨oc92, od92, .func (PySem.W.fnOf "_made_kind" "_made_kind" (defArgs s_92) (defBody s_92) (defScope s_92) .none kV92 dc92 pm92 an92 cd92 ct92), sl92⟩) (c92 : PySem.W.codeIn K cd92 "_made_kind" = true) (k92 : PySem.W.keepIn K (.ref f92) = true)
    (a112 : PySem.W.nsIn K mainGlobals "check_wish" = some (some (.ref f112))) (l112 : K.lookup f112 = some ⟨oc112, od112, .func (PySem.W.fnOf "check_wish" "check_wish" (defArgs s_112) (defBody s_112) (defScope s_112) .none kV112 dc112 pm112 an112 cd112 ct112), sl112⟩) (c112 : PySem.W.codeIn K cd112 "check_wish" = true) (k112 : PySem.W.keepIn K (.ref f112) = true)
    (a111 : PySem.W.nsIn K mainGlobals "fits_as_wish" = some (some (.ref f111))) (l111 : K.lookup f111 = some ⟨oc111, od111, .func (PySem.W.fnOf "fits_as_wish" "fits_as_wish" (defArgs s_111) (defBody s_111) (defScope s_111) .none kV111 dc111 pm111 an111 cd111 ct111), sl111⟩) (c111 : PySem.W.codeIn K cd111 "fits_as_wish" = true) (k111 : PySem.W.keepIn K (.ref f111) = true)
    (a110 : PySem.W.nsIn K mainGlobals "fits_wish_role" = some (some (.ref f110))) (l110 : K.lookup f110 = some ⟨oc110, od110, .func (PySem.W.fnOf "fits_wish_role" "fits_wish_role" (defArgs s_110) (defBody s_110) (defScope s_110) .none kV110 dc110 pm110 an110 cd110 ct110), sl110⟩) (c110 : PySem.W.codeIn K cd110 "fits_wish_role" = true) (k110 : PySem.W.keepIn K (.ref f110) = true)
    (a114 : PySem.W.nsIn K mainGlobals "write_program" = some (some (.ref f114))) (l114 : K.lookup f114 = some ⟨oc114, od114, .func (PySem.W.fnOf "write_program" "write_program" (defArgs s_114) (defBody s_114) (defScope s_114) .none kV114 dc114 pm114 an114 cd114 ct114), sl114⟩) (c114 : PySem.W.codeIn K cd114 "write_program" = true) (k114 : PySem.W.keepIn K (.ref f114) = true)
    (a142 : PySem.W.nsIn K mainGlobals "read_program" = some (some (.ref f142))) (l142 : K.lookup f142 = some ⟨oc142, od142, .func (PySem.W.fnOf "read_program" "read_program" (defArgs s_142) (defBody s_142) (defScope s_142) .none kV142 dc142 pm142 an142 cd142 ct142), sl142⟩) (c142 : PySem.W.codeIn K cd142 "read_program" = true) (k142 : PySem.W.keepIn K (.ref f142) = true)
    (a115 : PySem.W.nsIn K mainGlobals "write_wish" = some (some (.ref f115))) (l115 : K.lookup f115 = some ⟨oc115, od115, .func (PySem.W.fnOf "write_wish" "write_wish" (defArgs s_115) (defBody s_115) (defScope s_115) .none kV115 dc115 pm115 an115 cd115 ct115), sl115⟩) (c115 : PySem.W.codeIn K cd115 "write_wish" = true) (k115 : PySem.W.keepIn K (.ref f115) = true)
    (a143 : PySem.W.nsIn K mainGlobals "read_wish" = some (some (.ref f143))) (l143 : K.lookup f143 = some ⟨oc143, od143, .func (PySem.W.fnOf "read_wish" "read_wish" (defArgs s_143) (defBody s_143) (defScope s_143) .none kV143 dc143 pm143 an143 cd143 ct143), sl143⟩) (c143 : PySem.W.codeIn K cd143 "read_wish" = true) (k143 : PySem.W.keepIn K (.ref f143) = true)
    (a139 : PySem.W.nsIn K mainGlobals "number_from" = some (some (.ref f139))) (l139 : K.lookup f139 = some ⟨oc139, od139, .func (PySem.W.fnOf "number_from" "number_from" (defArgs s_139) (defBody s_139) (defScope s_139) .none kV139 dc139 pm139 an139 cd139 ct139), sl139⟩) (c139 : PySem.W.codeIn K cd139 "number_from" = true) (k139 : PySem.W.keepIn K (.ref f139) = true)
    (a113 : PySem.W.nsIn K mainGlobals "_text_of" = some (some (.ref f113))) (l113 : K.lookup f113 = some ⟨oc113, od113, .func (PySem.W.fnOf "_text_of" "_text_of" (defArgs s_113) (defBody s_113) (defScope s_113) .none kV113 dc113 pm113 an113 cd113 ct113), sl113⟩) (c113 : PySem.W.codeIn K cd113 "_text_of" = true) (k113 : PySem.W.keepIn K (.ref f113) = true)
    (a141 : PySem.W.nsIn K mainGlobals "_step_from" = some (some (.ref f141))) (l141 : K.lookup f141 = some ⟨oc141, od141, .func (PySem.W.fnOf "_step_from" "_step_from" (defArgs s_141) (defBody s_141) (defScope s_141) .none kV141 dc141 pm141 an141 cd141 ct141), sl141⟩) (c141 : PySem.W.codeIn K cd141 "_step_from" = true) (k141 : PySem.W.keepIn K (.ref f141) = true)
    (a138 : PySem.W.nsIn K mainGlobals "_can_begin" = some (some (.ref f138))) (l138 : K.lookup f138 = some ⟨oc138, od138, .func (PySem.W.fnOf "_can_begin" "_can_begin" (defArgs s_138) (defBody s_138) (defScope s_138) .none kV138 dc138 pm138 an138 cd138 ct138), sl138⟩) (c138 : PySem.W.codeIn K cd138 "_can_begin" = true) (k138 : PySem.W.keepIn K (.ref f138) = true)
    (a140 : PySem.W.nsIn K mainGlobals "_item_from" = some (some (.ref f140))) (l140 : K.lookup f140 = some ⟨oc140, od140, .func (PySem.W.fnOf "_item_from" "_item_from" (defArgs s_140) (defBody s_140) (defScope s_140) .none kV140 dc140 pm140 an140 cd140 ct140), sl140⟩) (c140 : PySem.W.codeIn K cd140 "_item_from" = true) (k140 : PySem.W.keepIn K (.ref f140) = true)
    (a137 : PySem.W.nsIn K mainGlobals "_word_at" = some (some (.ref f137))) (l137 : K.lookup f137 = some ⟨oc137, od137, .func (PySem.W.fnOf "_word_at" "_word_at" (defArgs s_137) (defBody s_137) (defScope s_137) .none kV137 dc137 pm137 an137 cd137 ct137), sl137⟩) (c137 : PySem.W.codeIn K cd137 "_word_at" = true) (k137 : PySem.W.keepIn K (.ref f137) = true)
    (a136 : PySem.W.nsIn K mainGlobals "_check_end" = some (some (.ref f136))) (l136 : K.lookup f136 = some ⟨oc136, od136, .func (PySem.W.fnOf "_check_end" "_check_end" (defArgs s_136) (defBody s_136) (defScope s_136) .none kV136 dc136 pm136 an136 cd136 ct136), sl136⟩) (c136 : PySem.W.codeIn K cd136 "_check_end" = true) (k136 : PySem.W.keepIn K (.ref f136) = true)
    (a116 : PySem.W.nsIn K mainGlobals "_law_make_pot" = some (some (.ref f116))) (l116 : K.lookup f116 = some ⟨oc116, od116, .func (PySem.W.fnOf "_law_make_pot" "_law_make_pot" (defArgs s_116) (defBody s_116) (defScope s_116) .none kV116 dc116 pm116 an116 cd116 ct116), sl116⟩) (c116 : PySem.W.codeIn K cd116 "_law_make_pot" = true) (k116 : PySem.W.keepIn K (.ref f116) = true)
    (a117 : PySem.W.nsIn K mainGlobals "_law_pick" = some (some (.ref f117))) (l117 : K.lookup f117 = some ⟨oc117, od117, .func (PySem.W.fnOf "_law_pick" "_law_pick" (defArgs s_117) (defBody s_117) (defScope s_117) .none kV117 dc117 pm117 an117 cd117 ct117), sl117⟩) (c117 : PySem.W.codeIn K cd117 "_law_pick" = true) (k117 : PySem.W.keepIn K (.ref f117) = true)
    (a118 : PySem.W.nsIn K mainGlobals "_law_cells" = some (some (.ref f118))) (l118 : K.lookup f118 = some ⟨oc118, od118, .func (PySem.W.fnOf "_law_cells" "_law_cells" (defArgs s_118) (defBody s_118) (defScope s_118) .none kV118 dc118 pm118 an118 cd118 ct118), sl118⟩) (c118 : PySem.W.codeIn K cd118 "_law_cells" = true) (k118 : PySem.W.keepIn K (.ref f118) = true)
    (a119 : PySem.W.nsIn K mainGlobals "_law_draw_spot" = some (some (.ref f119))) (l119 : K.lookup f119 = some ⟨oc119, od119, .func (PySem.W.fnOf "_law_draw_spot" "_law_draw_spot" (defArgs s_119) (defBody s_119) (defScope s_119) .none kV119 dc119 pm119 an119 cd119 ct119), sl119⟩) (c119 : PySem.W.codeIn K cd119 "_law_draw_spot" = true) (k119 : PySem.W.keepIn K (.ref f119) = true)
    (a120 : PySem.W.nsIn K mainGlobals "_law_sort_behind" = some (some (.ref f120))) (l120 : K.lookup f120 = some ⟨oc120, od120, .func (PySem.W.fnOf "_law_sort_behind" "_law_sort_behind" (defArgs s_120) (defBody s_120) (defScope s_120) .none kV120 dc120 pm120 an120 cd120 ct120), sl120⟩) (c120 : PySem.W.codeIn K cd120 "_law_sort_behind" = true) (k120 : PySem.W.keepIn K (.ref f120) = true)
    (a121 : PySem.W.nsIn K mainGlobals "_law_kinds_in" = some (some (.ref f121))) (l121 : K.lookup f121 = some ⟨oc121, od121, .func (PySem.W.fnOf "_law_kinds_in" "_law_kinds_in" (defArgs s_121) (defBody s_121) (defScope s_121) .none kV121 dc121 pm121 an121 cd121 ct121), sl121⟩) (c121 : PySem.W.codeIn K cd121 "_law_kinds_in" = true) (k121 : PySem.W.keepIn K (.ref f121) = true)
    (a122 : PySem.W.nsIn K mainGlobals "_law_rule" = some (some (.ref f122))) (l122 : K.lookup f122 = some ⟨oc122, od122, .func (PySem.W.fnOf "_law_rule" "_law_rule" (defArgs s_122) (defBody s_122) (defScope s_122) .none kV122 dc122 pm122 an122 cd122 ct122), sl122⟩) (c122 : PySem.W.codeIn K cd122 "_law_rule" = true) (k122 : PySem.W.keepIn K (.ref f122) = true)
    (a123 : PySem.W.nsIn K mainGlobals "_law_words_open" = some (some (.ref f123))) (l123 : K.lookup f123 = some ⟨oc123, od123, .func (PySem.W.fnOf "_law_words_open" "_law_words_open" (defArgs s_123) (defBody s_123) (defScope s_123) .none kV123 dc123 pm123 an123 cd123 ct123), sl123⟩) (c123 : PySem.W.codeIn K cd123 "_law_words_open" = true) (k123 : PySem.W.keepIn K (.ref f123) = true)
    (a124 : PySem.W.nsIn K mainGlobals "_law_draw_step" = some (some (.ref f124))) (l124 : K.lookup f124 = some ⟨oc124, od124, .func (PySem.W.fnOf "_law_draw_step" "_law_draw_step" (defArgs s_124) (defBody s_124) (defScope s_124) .none kV124 dc124 pm124 an124 cd124 ct124), sl124⟩) (c124 : PySem.W.codeIn K cd124 "_law_draw_step" = true) (k124 : PySem.W.keepIn K (.ref f124) = true)
    (a125 : PySem.W.nsIn K mainGlobals "_law_draw_tale" = some (some (.ref f125))) (l125 : K.lookup f125 = some ⟨oc125, od125, .func (PySem.W.fnOf "_law_draw_tale" "_law_draw_tale" (defArgs s_125) (defBody s_125) (defScope s_125) .none kV125 dc125 pm125 an125 cd125 ct125), sl125⟩) (c125 : PySem.W.codeIn K cd125 "_law_draw_tale" = true) (k125 : PySem.W.keepIn K (.ref f125) = true)
    (a126 : PySem.W.nsIn K mainGlobals "_law_hours_in" = some (some (.ref f126))) (l126 : K.lookup f126 = some ⟨oc126, od126, .func (PySem.W.fnOf "_law_hours_in" "_law_hours_in" (defArgs s_126) (defBody s_126) (defScope s_126) .none kV126 dc126 pm126 an126 cd126 ct126), sl126⟩) (c126 : PySem.W.codeIn K cd126 "_law_hours_in" = true) (k126 : PySem.W.keepIn K (.ref f126) = true)
    (a127 : PySem.W.nsIn K mainGlobals "_law_draw_shifts" = some (some (.ref f127))) (l127 : K.lookup f127 = some ⟨oc127, od127, .func (PySem.W.fnOf "_law_draw_shifts" "_law_draw_shifts" (defArgs s_127) (defBody s_127) (defScope s_127) .none kV127 dc127 pm127 an127 cd127 ct127), sl127⟩) (c127 : PySem.W.codeIn K cd127 "_law_draw_shifts" = true) (k127 : PySem.W.keepIn K (.ref f127) = true)
    (a128 : PySem.W.nsIn K mainGlobals "_law_draw_apart" = some (some (.ref f128))) (l128 : K.lookup f128 = some ⟨oc128, od128, .func (PySem.W.fnOf "_law_draw_apart" "_law_draw_apart" (defArgs s_128) (defBody s_128) (defScope s_128) .none kV128 dc128 pm128 an128 cd128 ct128), sl128⟩) (c128 : PySem.W.codeIn K cd128 "_law_draw_apart" = true) (k128 : PySem.W.keepIn K (.ref f128) = true)
    (a129 : PySem.W.nsIn K mainGlobals "_law_draw_fields" = some (some (.ref f129))) (l129 : K.lookup f129 = some ⟨oc129, od129, .func (PySem.W.fnOf "_law_draw_fields" "_law_draw_fields" (defArgs s_129) (defBody s_129) (defScope s_129) .none kV129 dc129 pm129 an129 cd129 ct129), sl129⟩) (c129 : PySem.W.codeIn K cd129 "_law_draw_fields" = true) (k129 : PySem.W.keepIn K (.ref f129) = true)
    (a130 : PySem.W.nsIn K mainGlobals "_law_minutes" = some (some (.ref f130))) (l130 : K.lookup f130 = some ⟨oc130, od130, .func (PySem.W.fnOf "_law_minutes" "_law_minutes" (defArgs s_130) (defBody s_130) (defScope s_130) .none kV130 dc130 pm130 an130 cd130 ct130), sl130⟩) (c130 : PySem.W.codeIn K cd130 "_law_minutes" = true) (k130 : PySem.W.keepIn K (.ref f130) = true)
    (a131 : PySem.W.nsIn K mainGlobals "_law_draw_want" = some (some (.ref f131))) (l131 : K.lookup f131 = some ⟨oc131, od131, .func (PySem.W.fnOf "_law_draw_want" "_law_draw_want" (defArgs s_131) (defBody s_131) (defScope s_131) .none kV131 dc131 pm131 an131 cd131 ct131), sl131⟩) (c131 : PySem.W.codeIn K cd131 "_law_draw_want" = true) (k131 : PySem.W.keepIn K (.ref f131) = true)
    (a132 : PySem.W.nsIn K mainGlobals "_law_text" = some (some (.ref f132))) (l132 : K.lookup f132 = some ⟨oc132, od132, .func (PySem.W.fnOf "_law_text" "_law_text" (defArgs s_132) (defBody s_132) (defScope s_132) .none kV132 dc132 pm132 an132 cd132 ct132), sl132⟩) (c132 : PySem.W.codeIn K cd132 "_law_text" = true) (k132 : PySem.W.keepIn K (.ref f132) = true)
    (a133 : PySem.W.nsIn K mainGlobals "_law_long_tale" = some (some (.ref f133))) (l133 : K.lookup f133 = some ⟨oc133, od133, .func (PySem.W.fnOf "_law_long_tale" "_law_long_tale" (defArgs s_133) (defBody s_133) (defScope s_133) .none kV133 dc133 pm133 an133 cd133 ct133), sl133⟩) (c133 : PySem.W.codeIn K cd133 "_law_long_tale" = true) (k133 : PySem.W.keepIn K (.ref f133) = true)
    (a144 : PySem.W.nsIn K mainGlobals "_law_right" = some (some (.ref f144))) (l144 : K.lookup f144 = some ⟨oc144, od144, .func (PySem.W.fnOf "_law_right" "_law_right" (defArgs s_144) (defBody s_144) (defScope s_144) .none kV144 dc144 pm144 an144 cd144 ct144), sl144⟩) (c144 : PySem.W.codeIn K cd144 "_law_right" = true) (k144 : PySem.W.keepIn K (.ref f144) = true)
    (a145 : PySem.W.nsIn K mainGlobals "law" = some (some (.ref f145))) (l145 : K.lookup f145 = some ⟨oc145, od145, .func (PySem.W.fnOf "law" "law" (defArgs s_145) (defBody s_145) (defScope s_145) .none kV145 dc145 pm145 an145 cd145 ct145), sl145⟩) (c145 : PySem.W.codeIn K cd145 "law" = true) (k145 : PySem.W.keepIn K (.ref f145) = true)
    (n_all : PySem.W.nsIn K mainGlobals "all" = some none)
    (n_bool : PySem.W.nsIn K mainGlobals "bool" = some none)
    (n_int : PySem.W.nsIn K mainGlobals "int" = some none)
    (n_isinstance : PySem.W.nsIn K mainGlobals "isinstance" = some none)
    (n_len : PySem.W.nsIn K mainGlobals "len" = some none)
    (n_list : PySem.W.nsIn K mainGlobals "list" = some none)
    (n_max : PySem.W.nsIn K mainGlobals "max" = some none)
    (n_min : PySem.W.nsIn K mainGlobals "min" = some none)
    (n_range : PySem.W.nsIn K mainGlobals "range" = some none)
    (n_repr : PySem.W.nsIn K mainGlobals "repr" = some none)
    (n_str : PySem.W.nsIn K mainGlobals "str" = some none)
    (n_tuple : PySem.W.nsIn K mainGlobals "tuple" = some none)
    (n_zip : PySem.W.nsIn K mainGlobals "zip" = some none)
    {t_MOST_SPACING : Tok} (c_MOST_SPACING : PySem.W.nsIn K mainGlobals "MOST_SPACING" = some (some (.int 1000000 t_MOST_SPACING)))
    {t_MOST_ZONES : Tok} (c_MOST_ZONES : PySem.W.nsIn K mainGlobals "MOST_ZONES" = some (some (.int 2 t_MOST_ZONES)))
    {t_MOST_OFFSETS : Tok} (c_MOST_OFFSETS : PySem.W.nsIn K mainGlobals "MOST_OFFSETS" = some (some (.int 3 t_MOST_OFFSETS)))
    {t_FARTHEST_OFFSET : Tok} (c_FARTHEST_OFFSET : PySem.W.nsIn K mainGlobals "FARTHEST_OFFSET" = some (some (.int 900 t_FARTHEST_OFFSET)))
    {t_MOST_STEPS : Tok} (c_MOST_STEPS : PySem.W.nsIn K mainGlobals "MOST_STEPS" = some (some (.int 8 t_MOST_STEPS)))
    {t_FARTHEST_MINUTES : Tok} (c_FARTHEST_MINUTES : PySem.W.nsIn K mainGlobals "FARTHEST_MINUTES" = some (some (.int 100000 t_FARTHEST_MINUTES)))
    {a_GAP_RULES : Addr} {t_GAP_RULES0 t_GAP_RULES1 t_GAP_RULES2 : Tok} {od_GAP_RULES : Option Addr} {n_GAP_RULES : Nat} {sl_GAP_RULES : Array (Option Value)} (c_GAP_RULES : PySem.W.nsIn K mainGlobals "GAP_RULES" = some (some (.ref a_GAP_RULES))) (l_GAP_RULES : K.lookup a_GAP_RULES = some ⟨.type "tuple", od_GAP_RULES, .seq #[.str "ahead" t_GAP_RULES0, .str "behind" t_GAP_RULES1, .str "refuse" t_GAP_RULES2] n_GAP_RULES, sl_GAP_RULES⟩)
    {a_FOLD_RULES : Addr} {t_FOLD_RULES0 t_FOLD_RULES1 t_FOLD_RULES2 : Tok} {od_FOLD_RULES : Option Addr} {n_FOLD_RULES : Nat} {sl_FOLD_RULES : Array (Option Value)} (c_FOLD_RULES : PySem.W.nsIn K mainGlobals "FOLD_RULES" = some (some (.ref a_FOLD_RULES))) (l_FOLD_RULES : K.lookup a_FOLD_RULES = some ⟨.type "tuple", od_FOLD_RULES, .seq #[.str "early" t_FOLD_RULES0, .str "late" t_FOLD_RULES1, .str "refuse" t_FOLD_RULES2] n_FOLD_RULES, sl_FOLD_RULES⟩)
    {a_STEP_ROLES : Addr} {n_STEP_ROLES : Nat} {h_STEP_ROLES0 : Int} {t_STEP_ROLES0 : Tok} {u_STEP_ROLES0 : Addr} {od_STEP_ROLES0 : Option Addr} {n_STEP_ROLES0 : Nat} {sl_STEP_ROLES0 : Array (Option Value)} {s_STEP_ROLES0_0 : Tok} {s_STEP_ROLES0_1 : Tok} {h_STEP_ROLES1 : Int} {t_STEP_ROLES1 : Tok} {u_STEP_ROLES1 : Addr} {od_STEP_ROLES1 : Option Addr} {n_STEP_ROLES1 : Nat} {sl_STEP_ROLES1 : Array (Option Value)} {s_STEP_ROLES1_0 : Tok} {s_STEP_ROLES1_1 : Tok} {s_STEP_ROLES1_2 : Tok} {s_STEP_ROLES1_3 : Tok} {h_STEP_ROLES2 : Int} {t_STEP_ROLES2 : Tok} {u_STEP_ROLES2 : Addr} {od_STEP_ROLES2 : Option Addr} {n_STEP_ROLES2 : Nat} {sl_STEP_ROLES2 : Array (Option Value)} {s_STEP_ROLES2_0 : Tok} {s_STEP_ROLES2_1 : Tok} {h_STEP_ROLES3 : Int} {t_STEP_ROLES3 : Tok} {u_STEP_ROLES3 : Addr} {od_STEP_ROLES3 : Option Addr} {n_STEP_ROLES3 : Nat} {sl_STEP_ROLES3 : Array (Option Value)} {s_STEP_ROLES3_0 : Tok} {s_STEP_ROLES3_1 : Tok} {h_STEP_ROLES4 : Int} {t_STEP_ROLES4 : Tok} {u_STEP_ROLES4 : Addr} {od_STEP_ROLES4 : Option Addr} {n_STEP_ROLES4 : Nat} {sl_STEP_ROLES4 : Array (Option Value)} {s_STEP_ROLES4_0 : Tok} {s_STEP_ROLES4_1 : Tok} {h_STEP_ROLES5 : Int} {t_STEP_ROLES5 : Tok} {u_STEP_ROLES5 : Addr} {od_STEP_ROLES5 : Option Addr} {n_STEP_ROLES5 : Nat} {sl_STEP_ROLES5 : Array (Option Value)} {s_STEP_ROLES5_0 : Tok} {s_STEP_ROLES5_1 : Tok} {h_STEP_ROLES6 : Int} {t_STEP_ROLES6 : Tok} {u_STEP_ROLES6 : Addr} {od_STEP_ROLES6 : Option Addr} {n_STEP_ROLES6 : Nat} {sl_STEP_ROLES6 : Array (Option Value)} {s_STEP_ROLES6_0 : Tok} {s_STEP_ROLES6_1 : Tok} (c_STEP_ROLES : PySem.W.nsIn K mainGlobals "STEP_ROLES" = some (some (.ref a_STEP_ROLES))) (l_STEP_ROLES : K.lookup a_STEP_ROLES = some ⟨.type "dict", none, .dict #[⟨h_STEP_ROLES0, .str "read" t_STEP_ROLES0, .ref u_STEP_ROLES0⟩, ⟨h_STEP_ROLES1, .str "find" t_STEP_ROLES1, .ref u_STEP_ROLES1⟩, ⟨h_STEP_ROLES2, .str "offset" t_STEP_ROLES2, .ref u_STEP_ROLES2⟩, ⟨h_STEP_ROLES3, .str "edition" t_STEP_ROLES3, .ref u_STEP_ROLES3⟩, ⟨h_STEP_ROLES4, .str "plus" t_STEP_ROLES4, .ref u_STEP_ROLES4⟩, ⟨h_STEP_ROLES5, .str "less" t_STEP_ROLES5, .ref u_STEP_ROLES5⟩, ⟨h_STEP_ROLES6, .str "add" t_STEP_ROLES6, .ref u_STEP_ROLES6⟩] n_STEP_ROLES, #[]⟩) (q_STEP_ROLES : PySem.W.KeysLit w.params [⟨h_STEP_ROLES0, .str "read" t_STEP_ROLES0, .ref u_STEP_ROLES0⟩, ⟨h_STEP_ROLES1, .str "find" t_STEP_ROLES1, .ref u_STEP_ROLES1⟩, ⟨h_STEP_ROLES2, .str "offset" t_STEP_ROLES2, .ref u_STEP_ROLES2⟩, ⟨h_STEP_ROLES3, .str "edition" t_STEP_ROLES3, .ref u_STEP_ROLES3⟩, ⟨h_STEP_ROLES4, .str "plus" t_STEP_ROLES4, .ref u_STEP_ROLES4⟩, ⟨h_STEP_ROLES5, .str "less" t_STEP_ROLES5, .ref u_STEP_ROLES5⟩, ⟨h_STEP_ROLES6, .str "add" t_STEP_ROLES6, .ref u_STEP_ROLES6⟩]) (b_STEP_ROLES : (a_STEP_ROLES == sysModules) = false) (l_STEP_ROLES0 : K.lookup u_STEP_ROLES0 = some ⟨.type "tuple", od_STEP_ROLES0, .seq #[.str "moment" s_STEP_ROLES0_0, .str "place" s_STEP_ROLES0_1] n_STEP_ROLES0, sl_STEP_ROLES0⟩) (l_STEP_ROLES1 : K.lookup u_STEP_ROLES1 = some ⟨.type "tuple", od_STEP_ROLES1, .seq #[.str "reading" s_STEP_ROLES1_0, .str "place" s_STEP_ROLES1_1, .str "fold" s_STEP_ROLES1_2, .str "gap" s_STEP_ROLES1_3] n_STEP_ROLES1, sl_STEP_ROLES1⟩) (l_STEP_ROLES2 : K.lookup u_STEP_ROLES2 = some ⟨.type "tuple", od_STEP_ROLES2, .seq #[.str "moment" s_STEP_ROLES2_0, .str "place" s_STEP_ROLES2_1] n_STEP_ROLES2, sl_STEP_ROLES2⟩) (l_STEP_ROLES3 : K.lookup u_STEP_ROLES3 = some ⟨.type "tuple", od_STEP_ROLES3, .seq #[.str "moment" s_STEP_ROLES3_0, .str "place" s_STEP_ROLES3_1] n_STEP_ROLES3, sl_STEP_ROLES3⟩) (l_STEP_ROLES4 : K.lookup u_STEP_ROLES4 = some ⟨.type "tuple", od_STEP_ROLES4, .seq #[.str "moment" s_STEP_ROLES4_0, .str "span" s_STEP_ROLES4_1] n_STEP_ROLES4, sl_STEP_ROLES4⟩) (l_STEP_ROLES5 : K.lookup u_STEP_ROLES5 = some ⟨.type "tuple", od_STEP_ROLES5, .seq #[.str "reading" s_STEP_ROLES5_0, .str "span" s_STEP_ROLES5_1] n_STEP_ROLES5, sl_STEP_ROLES5⟩) (l_STEP_ROLES6 : K.lookup u_STEP_ROLES6 = some ⟨.type "tuple", od_STEP_ROLES6, .seq #[.str "time" s_STEP_ROLES6_0, .str "minutes" s_STEP_ROLES6_1] n_STEP_ROLES6, sl_STEP_ROLES6⟩)
    {a_MADE_KINDS : Addr} {n_MADE_KINDS : Nat} {h_MADE_KINDS0 : Int} {t_MADE_KINDS0 : Tok} {s_MADE_KINDS0 : Tok} {h_MADE_KINDS1 : Int} {t_MADE_KINDS1 : Tok} {s_MADE_KINDS1 : Tok} {h_MADE_KINDS2 : Int} {t_MADE_KINDS2 : Tok} {s_MADE_KINDS2 : Tok} {h_MADE_KINDS3 : Int} {t_MADE_KINDS3 : Tok} {s_MADE_KINDS3 : Tok} {h_MADE_KINDS4 : Int} {t_MADE_KINDS4 : Tok} {s_MADE_KINDS4 : Tok} {h_MADE_KINDS5 : Int} {t_MADE_KINDS5 : Tok} {s_MADE_KINDS5 : Tok} (c_MADE_KINDS : PySem.W.nsIn K mainGlobals "MADE_KINDS" = some (some (.ref a_MADE_KINDS))) (l_MADE_KINDS : K.lookup a_MADE_KINDS = some ⟨.type "dict", none, .dict #[⟨h_MADE_KINDS0, .str "read" t_MADE_KINDS0, .str "reading" s_MADE_KINDS0⟩, ⟨h_MADE_KINDS1, .str "find" t_MADE_KINDS1, .str "moment" s_MADE_KINDS1⟩, ⟨h_MADE_KINDS2, .str "offset" t_MADE_KINDS2, .str "span" s_MADE_KINDS2⟩, ⟨h_MADE_KINDS3, .str "edition" t_MADE_KINDS3, .str "moment" s_MADE_KINDS3⟩, ⟨h_MADE_KINDS4, .str "plus" t_MADE_KINDS4, .str "reading" s_MADE_KINDS4⟩, ⟨h_MADE_KINDS5, .str "less" t_MADE_KINDS5, .str "moment" s_MADE_KINDS5⟩] n_MADE_KINDS, #[]⟩) (q_MADE_KINDS : PySem.W.KeysLit w.params [⟨h_MADE_KINDS0, .str "read" t_MADE_KINDS0, .str "reading" s_MADE_KINDS0⟩, ⟨h_MADE_KINDS1, .str "find" t_MADE_KINDS1, .str "moment" s_MADE_KINDS1⟩, ⟨h_MADE_KINDS2, .str "offset" t_MADE_KINDS2, .str "span" s_MADE_KINDS2⟩, ⟨h_MADE_KINDS3, .str "edition" t_MADE_KINDS3, .str "moment" s_MADE_KINDS3⟩, ⟨h_MADE_KINDS4, .str "plus" t_MADE_KINDS4, .str "reading" s_MADE_KINDS4⟩, ⟨h_MADE_KINDS5, .str "less" t_MADE_KINDS5, .str "moment" s_MADE_KINDS5⟩]) (b_MADE_KINDS : (a_MADE_KINDS == sysModules) = false) 
    {a_WISH_ROLES : Addr} {n_WISH_ROLES : Nat} {h_WISH_ROLES0 : Int} {t_WISH_ROLES0 : Tok} {u_WISH_ROLES0 : Addr} {od_WISH_ROLES0 : Option Addr} {n_WISH_ROLES0 : Nat} {sl_WISH_ROLES0 : Array (Option Value)} {h_WISH_ROLES1 : Int} {t_WISH_ROLES1 : Tok} {u_WISH_ROLES1 : Addr} {od_WISH_ROLES1 : Option Addr} {n_WISH_ROLES1 : Nat} {sl_WISH_ROLES1 : Array (Option Value)} {s_WISH_ROLES1_0 : Tok} {s_WISH_ROLES1_1 : Tok} {h_WISH_ROLES2 : Int} {t_WISH_ROLES2 : Tok} {u_WISH_ROLES2 : Addr} {od_WISH_ROLES2 : Option Addr} {n_WISH_ROLES2 : Nat} {sl_WISH_ROLES2 : Array (Option Value)} {s_WISH_ROLES2_0 : Tok} {s_WISH_ROLES2_1 : Tok} {h_WISH_ROLES3 : Int} {t_WISH_ROLES3 : Tok} {u_WISH_ROLES3 : Addr} {od_WISH_ROLES3 : Option Addr} {n_WISH_ROLES3 : Nat} {sl_WISH_ROLES3 : Array (Option Value)} {s_WISH_ROLES3_0 : Tok} {s_WISH_ROLES3_1 : Tok} {s_WISH_ROLES3_2 : Tok} (c_WISH_ROLES : PySem.W.nsIn K mainGlobals "WISH_ROLES" = some (some (.ref a_WISH_ROLES))) (l_WISH_ROLES : K.lookup a_WISH_ROLES = some ⟨.type "dict", none, .dict #[⟨h_WISH_ROLES0, .str "found" t_WISH_ROLES0, .ref u_WISH_ROLES0⟩, ⟨h_WISH_ROLES1, .str "same" t_WISH_ROLES1, .ref u_WISH_ROLES1⟩, ⟨h_WISH_ROLES2, .str "order" t_WISH_ROLES2, .ref u_WISH_ROLES2⟩, ⟨h_WISH_ROLES3, .str "near" t_WISH_ROLES3, .ref u_WISH_ROLES3⟩] n_WISH_ROLES, #[]⟩) (q_WISH_ROLES : PySem.W.KeysLit w.params [⟨h_WISH_ROLES0, .str "found" t_WISH_ROLES0, .ref u_WISH_ROLES0⟩, ⟨h_WISH_ROLES1, .str "same" t_WISH_ROLES1, .ref u_WISH_ROLES1⟩, ⟨h_WISH_ROLES2, .str "order" t_WISH_ROLES2, .ref u_WISH_ROLES2⟩, ⟨h_WISH_ROLES3, .str "near" t_WISH_ROLES3, .ref u_WISH_ROLES3⟩]) (b_WISH_ROLES : (a_WISH_ROLES == sysModules) = false) (l_WISH_ROLES0 : K.lookup u_WISH_ROLES0 = some ⟨.type "tuple", od_WISH_ROLES0, .seq #[] n_WISH_ROLES0, sl_WISH_ROLES0⟩) (l_WISH_ROLES1 : K.lookup u_WISH_ROLES1 = some ⟨.type "tuple", od_WISH_ROLES1, .seq #[.str "time" s_WISH_ROLES1_0, .str "time" s_WISH_ROLES1_1] n_WISH_ROLES1, sl_WISH_ROLES1⟩) (l_WISH_ROLES2 : K.lookup u_WISH_ROLES2 = some ⟨.type "tuple", od_WISH_ROLES2, .seq #[.str "time" s_WISH_ROLES2_0, .str "time" s_WISH_ROLES2_1] n_WISH_ROLES2, sl_WISH_ROLES2⟩) (l_WISH_ROLES3 : K.lookup u_WISH_ROLES3 = some ⟨.type "tuple", od_WISH_ROLES3, .seq #[.str "time" s_WISH_ROLES3_0, .str "time" s_WISH_ROLES3_1, .str "most" s_WISH_ROLES3_2] n_WISH_ROLES3, sl_WISH_ROLES3⟩)
    {t_FARTHEST_NEAR : Tok} (c_FARTHEST_NEAR : PySem.W.nsIn K mainGlobals "FARTHEST_NEAR" = some (some (.int 1000000 t_FARTHEST_NEAR)))
    {t_NO_STEPS : Tok} (c_NO_STEPS : PySem.W.nsIn K mainGlobals "NO_STEPS" = some (some (.str "-" t_NO_STEPS)))
    {t_MOST_DIGITS : Tok} (c_MOST_DIGITS : PySem.W.nsIn K mainGlobals "MOST_DIGITS" = some (some (.int 12 t_MOST_DIGITS)))
    {t_DIGITS : Tok} (c_DIGITS : PySem.W.nsIn K mainGlobals "DIGITS" = some (some (.str "0123456789" t_DIGITS)))
    {a_KINDS : Addr} {t_KINDS0 t_KINDS1 t_KINDS2 : Tok} {od_KINDS : Option Addr} {n_KINDS : Nat} {sl_KINDS : Array (Option Value)} (c_KINDS : PySem.W.nsIn K mainGlobals "KINDS" = some (some (.ref a_KINDS))) (l_KINDS : K.lookup a_KINDS = some ⟨.type "tuple", od_KINDS, .seq #[.str "moment" t_KINDS0, .str "reading" t_KINDS1, .str "span" t_KINDS2] n_KINDS, sl_KINDS⟩)
    (n : Nat) : ∃ fd : FuncData, (∀ (s : Shared) (v : Value), BindsTo s fd ⟨[v], []⟩ [("_law_script", v)]) ∧ ∀ base : Heap, K.In base → base.Ns mainGlobals mg → FnG l.prog w K mg base n fa fd P_145 (spF K (run T n) 145) := by
  have F : Fs0 K mg := ⟨⟨f0, _, PySem.W.mg_of X G a0, fun_mk (st := s_0) l0 c0 k0⟩, ⟨f1, _, PySem.W.mg_of X G a1, fun_mk (st := s_1) l1 c1 k1⟩, ⟨f84, _, PySem.W.mg_of X G a84, fun_mk (st := s_84) l84 c84 k84⟩, ⟨f6, _, PySem.W.mg_of X G a6, fun_mk (st := s_6) l6 c6 k6⟩, ⟨f85, _, PySem.W.mg_of X G a85, fun_mk (st := s_85) l85 c85 k85⟩, ⟨f86, _, PySem.W.mg_of X G a86, fun_mk (st := s_86) l86 c86 k86⟩, ⟨f87, _, PySem.W.mg_of X G a87, fun_mk (st := s_87) l87 c87 k87⟩, ⟨f65, _, PySem.W.mg_of X G a65, fun_mk (st := s_65) l65 c65 k65⟩, ⟨f3, _, PySem.W.mg_of X G a3, fun_mk (st := s_3) l3 c3 k3⟩, ⟨f5, _, PySem.W.mg_of X G a5, fun_mk (st := s_5) l5 c5 k5⟩, ⟨f4, _, PySem.W.mg_of X G a4, fun_mk (st := s_4) l4 c4 k4⟩, ⟨f95, _, PySem.W.mg_of X G a95, fun_mk (st := s_95) l95 c95 k95⟩, ⟨f93, _, PySem.W.mg_of X G a93, fun_mk (st := s_93) l93 c93 k93⟩, ⟨f96, _, PySem.W.mg_of X G a96, fun_mk (st := s_96) l96 c96 k96⟩, ⟨f90, _, PySem.W.mg_of X G a90, fun_mk (st := s_90) l90 c90 k90⟩, ⟨f89, _, PySem.W.mg_of X G a89, fun_mk (st := s_89) l89 c89 k89⟩, ⟨f91, _, PySem.W.mg_of X G a91, fun_mk (st := s_91) l91 c91 k91⟩, ⟨f88, _, PySem.W.mg_of X G a88, fun_mk (st := s_88) l88 c88 k88⟩, ⟨f92, _, PySem.W.mg_of X G a92, fun_mk (st := s_92) l92 c92 k92⟩, ⟨f112, _, PySem.W.mg_of X G a112, fun_mk (st := s_112) l112 c112 k112⟩, ⟨f111, _, PySem.W.mg_of X G a111, fun_mk (st := s_111) l111 c111 k111⟩, ⟨f110, _, PySem.W.mg_of X G a110, fun_mk (st := s_110) l110 c110 k110⟩, ⟨f114, _, PySem.W.mg_of X G a114, fun_mk (st := s_114) l114 c114 k114⟩, ⟨f142, _, PySem.W.mg_of X G a142, fun_mk (st := s_142) l142 c142 k142⟩, ⟨f115, _, PySem.W.mg_of X G a115, fun_mk (st := s_115) l115 c115 k115⟩, ⟨f143, _, PySem.W.mg_of X G a143, fun_mk (st := s_143) l143 c143 k143⟩, ⟨f139, _, PySem.W.mg_of X G a139, fun_mk (st := s_139) l139 c139 k139⟩, ⟨f113, _, PySem.W.mg_of X G a113, fun_mk (st := s_113) l113 c113 k113⟩, ⟨f141, _, PySem.W.mg_of X G a141, fun_mk (st := s_141) l141 c141 k141⟩, ⟨f138, _, PySem.W.mg_of X G a138, fun_mk (st := s_138) l138 c138 k138⟩, ⟨f140, _, PySem.W.mg_of X G a140, fun_mk (st := s_140) l140 c140 k140⟩, ⟨f137, _, PySem.W.mg_of X G a137, fun_mk (st := s_137) l137 c137 k137⟩, ⟨f136, _, PySem.W.mg_of X G a136, fun_mk (st := s_136) l136 c136 k136⟩, ⟨f116, _, PySem.W.mg_of X G a116, fun_mk (st := s_116) l116 c116 k116⟩, ⟨f117, _, PySem.W.mg_of X G a117, fun_mk (st := s_117) l117 c117 k117⟩, ⟨f118, _, PySem.W.mg_of X G a118, fun_mk (st := s_118) l118 c118 k118⟩, ⟨f119, _, PySem.W.mg_of X G a119, fun_mk (st := s_119) l119 c119 k119⟩, ⟨f120, _, PySem.W.mg_of X G a120, fun_mk (st := s_120) l120 c120 k120⟩, ⟨f121, _, PySem.W.mg_of X G a121, fun_mk (st := s_121) l121 c121 k121⟩, ⟨f122, _, PySem.W.mg_of X G a122, fun_mk (st := s_122) l122 c122 k122⟩, ⟨f123, _, PySem.W.mg_of X G a123, fun_mk (st := s_123) l123 c123 k123⟩, ⟨f124, _, PySem.W.mg_of X G a124, fun_mk (st := s_124) l124 c124 k124⟩, ⟨f125, _, PySem.W.mg_of X G a125, fun_mk (st := s_125) l125 c125 k125⟩, ⟨f126, _, PySem.W.mg_of X G a126, fun_mk (st := s_126) l126 c126 k126⟩, ⟨f127, _, PySem.W.mg_of X G a127, fun_mk (st := s_127) l127 c127 k127⟩, ⟨f128, _, PySem.W.mg_of X G a128, fun_mk (st := s_128) l128 c128 k128⟩, ⟨f129, _, PySem.W.mg_of X G a129, fun_mk (st := s_129) l129 c129 k129⟩, ⟨f130, _, PySem.W.mg_of X G a130, fun_mk (st := s_130) l130 c130 k130⟩, ⟨f131, _, PySem.W.mg_of X G a131, fun_mk (st := s_131) l131 c131 k131⟩, ⟨f132, _, PySem.W.mg_of X G a132, fun_mk (st := s_132) l132 c132 k132⟩, ⟨f133, _, PySem.W.mg_of X G a133, fun_mk (st := s_133) l133 c133 k133⟩, ⟨f144, _, PySem.W.mg_of X G a144, fun_mk (st := s_144) l144 c144 k144⟩, ⟨f145, _, PySem.W.mg_of X G a145, fun_mk (st := s_145) l145 c145 k145⟩⟩
  have Gx : Gs w K mg := ⟨PySem.W.mg_none_of X G n_all, PySem.W.mg_none_of X G n_bool, PySem.W.mg_none_of X G n_int, PySem.W.mg_none_of X G n_isinstance, PySem.W.mg_none_of X G n_len, PySem.W.mg_none_of X G n_list, PySem.W.mg_none_of X G n_max, PySem.W.mg_none_of X G n_min, PySem.W.mg_none_of X G n_range, PySem.W.mg_none_of X G n_repr, PySem.W.mg_none_of X G n_str, PySem.W.mg_none_of X G n_tuple, PySem.W.mg_none_of X G n_zip, ⟨t_MOST_SPACING, PySem.W.mg_of X G c_MOST_SPACING⟩, ⟨t_MOST_ZONES, PySem.W.mg_of X G c_MOST_ZONES⟩, ⟨t_MOST_OFFSETS, PySem.W.mg_of X G c_MOST_OFFSETS⟩, ⟨t_FARTHEST_OFFSET, PySem.W.mg_of X G c_FARTHEST_OFFSET⟩, ⟨t_MOST_STEPS, PySem.W.mg_of X G c_MOST_STEPS⟩, ⟨t_FARTHEST_MINUTES, PySem.W.mg_of X G c_FARTHEST_MINUTES⟩, ⟨a_GAP_RULES, PySem.W.mg_of X G c_GAP_RULES, fun α H => have r : Rps K α H [D.str "ahead", D.str "behind", D.str "refuse"] [V.str "ahead", V.str "behind", V.str "refuse"] := (.cons (.str _) (.cons (.str _) (.cons (.str _) .nil))); .tup (vs := [V.str "ahead", V.str "behind", V.str "refuse"]) (.inr ⟨_, _, _, l_GAP_RULES, rfl, rfl, (show 3 ≤ sizeLine by decide), (.cons ⟨_, rfl⟩ (.cons ⟨_, rfl⟩ (.cons ⟨_, rfl⟩ .nil)))⟩) r.len r.at_⟩, ⟨a_FOLD_RULES, PySem.W.mg_of X G c_FOLD_RULES, fun α H => have r : Rps K α H [D.str "early", D.str "late", D.str "refuse"] [V.str "early", V.str "late", V.str "refuse"] := (.cons (.str _) (.cons (.str _) (.cons (.str _) .nil))); .tup (vs := [V.str "early", V.str "late", V.str "refuse"]) (.inr ⟨_, _, _, l_FOLD_RULES, rfl, rfl, (show 3 ≤ sizeLine by decide), (.cons ⟨_, rfl⟩ (.cons ⟨_, rfl⟩ (.cons ⟨_, rfl⟩ .nil)))⟩) r.len r.at_⟩, ⟨a_STEP_ROLES, PySem.W.mg_of X G c_STEP_ROLES, kt_of l_STEP_ROLES q_STEP_ROLES b_STEP_ROLES (.cons t_STEP_ROLES0 (.ref u_STEP_ROLES0) rfl rfl (fun α H => have r : Rps K α H [D.str "moment", D.str "place"] [V.str "moment", V.str "place"] := (.cons (.str _) (.cons (.str _) .nil)); .tup (vs := [V.str "moment", V.str "place"]) (.inr ⟨_, _, _, l_STEP_ROLES0, rfl, rfl, (show 2 ≤ sizeLine by decide), (.cons ⟨_, rfl⟩ (.cons ⟨_, rfl⟩ .nil))⟩) r.len r.at_) (.cons t_STEP_ROLES1 (.ref u_STEP_ROLES1) rfl rfl (fun α H => have r : Rps K α H [D.str "reading", D.str "place", D.str "fold", D.str "gap"] [V.str "reading", V.str "place", V.str "fold", V.str "gap"] := (.cons (.str _) (.cons (.str _) (.cons (.str _) (.cons (.str _) .nil)))); .tup (vs := [V.str "reading", V.str "place", V.str "fold", V.str "gap"]) (.inr ⟨_, _, _, l_STEP_ROLES1, rfl, rfl, (show 4 ≤ sizeLine by decide), (.cons ⟨_, rfl⟩ (.cons ⟨_, rfl⟩ (.cons ⟨_, rfl⟩ (.cons ⟨_, rfl⟩ .nil))))⟩) r.len r.at_) (.cons t_STEP_ROLES2 (.ref u_STEP_ROLES2) rfl rfl (fun α H => have r : Rps K α H [D.str "moment", D.str "place"] [V.str "moment", V.str "place"] := (.cons (.str _) (.cons (.str _) .nil)); .tup (vs := [V.str "moment", V.str "place"]) (.inr ⟨_, _, _, l_STEP_ROLES2, rfl, rfl, (show 2 ≤ sizeLine by decide), (.cons ⟨_, rfl⟩ (.cons ⟨_, rfl⟩ .nil))⟩) r.len r.at_) (.cons t_STEP_ROLES3 (.ref u_STEP_ROLES3) rfl rfl (fun α H => have r : Rps K α H [D.str "moment", D.str "place"] [V.str "moment", V.str "place"] := (.cons (.str _) (.cons (.str _) .nil)); .tup (vs := [V.str "moment", V.str "place"]) (.inr ⟨_, _, _, l_STEP_ROLES3, rfl, rfl, (show 2 ≤ sizeLine by decide), (.cons ⟨_, rfl⟩ (.cons ⟨_, rfl⟩ .nil))⟩) r.len r.at_) (.cons t_STEP_ROLES4 (.ref u_STEP_ROLES4) rfl rfl (fun α H => have r : Rps K α H [D.str "moment", D.str "span"] [V.str "moment", V.str "span"] := (.cons (.str _) (.cons (.str _) .nil)); .tup (vs := [V.str "moment", V.str "span"]) (.inr ⟨_, _, _, l_STEP_ROLES4, rfl, rfl, (show 2 ≤ sizeLine by decide), (.cons ⟨_, rfl⟩ (.cons ⟨_, rfl⟩ .nil))⟩) r.len r.at_) (.cons t_STEP_ROLES5 (.ref u_STEP_ROLES5) rfl rfl (fun α H => have r : Rps K α H [D.str "reading", D.str "span"] [V.str "reading", V.str "span"] := (.cons (.str _) (.cons (.str _) .nil)); .tup (vs := [V.str "reading", V.str "span"]) (.inr ⟨_, _, _, l_STEP_ROLES5, rfl, rfl, (show 2 ≤ sizeLine by decide), (.cons ⟨_, rfl⟩ (.cons ⟨_, rfl⟩ .nil))⟩) r.len r.at_) (.cons t_STEP_ROLES6 (.ref u_STEP_ROLES6) rfl rfl (fun α H => have r : Rps K α H [D.str "time", D.str "minutes"] [V.str "time", V.str "minutes"] := (.cons (.str _) (.cons (.str _) .nil)); .tup (vs := [V.str "time", V.str "minutes"]) (.inr ⟨_, _, _, l_STEP_ROLES6, rfl, rfl, (show 2 ≤ sizeLine by decide), (.cons ⟨_, rfl⟩ (.cons ⟨_, rfl⟩ .nil))⟩) r.len r.at_) .nil)))))))⟩, ⟨a_MADE_KINDS, PySem.W.mg_of X G c_MADE_KINDS, kt_of l_MADE_KINDS q_MADE_KINDS b_MADE_KINDS (.cons t_MADE_KINDS0 (.str "reading") rfl ⟨_, rfl⟩ (fun _ _ => .str _) (.cons t_MADE_KINDS1 (.str "moment") rfl ⟨_, rfl⟩ (fun _ _ => .str _) (.cons t_MADE_KINDS2 (.str "span") rfl ⟨_, rfl⟩ (fun _ _ => .str _) (.cons t_MADE_KINDS3 (.str "moment") rfl ⟨_, rfl⟩ (fun _ _ => .str _) (.cons t_MADE_KINDS4 (.str "reading") rfl ⟨_, rfl⟩ (fun _ _ => .str _) (.cons t_MADE_KINDS5 (.str "moment") rfl ⟨_, rfl⟩ (fun _ _ => .str _) .nil))))))⟩, ⟨a_WISH_ROLES, PySem.W.mg_of X G c_WISH_ROLES, kt_of l_WISH_ROLES q_WISH_ROLES b_WISH_ROLES (.cons t_WISH_ROLES0 (.ref u_WISH_ROLES0) rfl rfl (fun α H => have r : Rps K α H [] [] := .nil; .tup (vs := []) (.inr ⟨_, _, _, l_WISH_ROLES0, rfl, rfl, (show 0 ≤ sizeLine by decide), .nil⟩) r.len r.at_) (.cons t_WISH_ROLES1 (.ref u_WISH_ROLES1) rfl rfl (fun α H => have r : Rps K α H [D.str "time", D.str "time"] [V.str "time", V.str "time"] := (.cons (.str _) (.cons (.str _) .nil)); .tup (vs := [V.str "time", V.str "time"]) (.inr ⟨_, _, _, l_WISH_ROLES1, rfl, rfl, (show 2 ≤ sizeLine by decide), (.cons ⟨_, rfl⟩ (.cons ⟨_, rfl⟩ .nil))⟩) r.len r.at_) (.cons t_WISH_ROLES2 (.ref u_WISH_ROLES2) rfl rfl (fun α H => have r : Rps K α H [D.str "time", D.str "time"] [V.str "time", V.str "time"] := (.cons (.str _) (.cons (.str _) .nil)); .tup (vs := [V.str "time", V.str "time"]) (.inr ⟨_, _, _, l_WISH_ROLES2, rfl, rfl, (show 2 ≤ sizeLine by decide), (.cons ⟨_, rfl⟩ (.cons ⟨_, rfl⟩ .nil))⟩) r.len r.at_) (.cons t_WISH_ROLES3 (.ref u_WISH_ROLES3) rfl rfl (fun α H => have r : Rps K α H [D.str "time", D.str "time", D.str "most"] [V.str "time", V.str "time", V.str "most"] := (.cons (.str _) (.cons (.str _) (.cons (.str _) .nil))); .tup (vs := [V.str "time", V.str "time", V.str "most"]) (.inr ⟨_, _, _, l_WISH_ROLES3, rfl, rfl, (show 3 ≤ sizeLine by decide), (.cons ⟨_, rfl⟩ (.cons ⟨_, rfl⟩ (.cons ⟨_, rfl⟩ .nil)))⟩) r.len r.at_) .nil))))⟩, ⟨t_FARTHEST_NEAR, PySem.W.mg_of X G c_FARTHEST_NEAR⟩, ⟨t_NO_STEPS, PySem.W.mg_of X G c_NO_STEPS⟩, ⟨t_MOST_DIGITS, PySem.W.mg_of X G c_MOST_DIGITS⟩, ⟨t_DIGITS, PySem.W.mg_of X G c_DIGITS⟩, ⟨a_KINDS, PySem.W.mg_of X G c_KINDS, fun α H => have r : Rps K α H [D.str "moment", D.str "reading", D.str "span"] [V.str "moment", V.str "reading", V.str "span"] := (.cons (.str _) (.cons (.str _) (.cons (.str _) .nil))); .tup (vs := [V.str "moment", V.str "reading", V.str "span"]) (.inr ⟨_, _, _, l_KINDS, rfl, rfl, (show 3 ≤ sizeLine by decide), (.cons ⟨_, rfl⟩ (.cons ⟨_, rfl⟩ (.cons ⟨_, rfl⟩ .nil)))⟩) r.len r.at_⟩⟩
  have e := hfa.symm.trans (PySem.W.mg_of X G a145)
  cases e
  refine ⟨PySem.W.fnOf "law" "law" (defArgs s_145) (defBody s_145) (defScope s_145) .none kV145 dc145 pm145 an145 cd145 ct145, fun s v => .of_eq rfl, fun base _ _ => ?_⟩
  obtain ⟨fa', fd', h1, h2, h3, h4⟩ := (all_ok (P := l.prog) (w := w) (base := base) F Gx n).f145.ex
  have e2 := h1.symm.trans (PySem.W.mg_of X G a145)
  cases e2
  obtain ⟨oc, od, kV, doc, pm, an, cdv, ct, osl, e3, lk, hcd⟩ := h2.ex
  rw [lk] at l145
  have e4 := Option.some.inj l145
  injection e4 with e5 e6 e7 e8
  injection e7 with e9
  rw [← e9]
  exact h3
theorem walk {l : PySem.W.OpenLaw} {q : Program} {loose : List Str} {XP : (Str → Option Value) → Heap → Prop} {YP : World → Heap → Prop} {d : DefRec} {K : Params → PySem.W.Frag} (hn : l.most = some 63) (hdf : d.params.defaults = [])
    (hY : ∀ (w : World) (h : Heap), YP w h → (K w.params).In h)
    (F : ∀ (w : World) (mg : Str → Option Value) (fa : Addr) (h : Heap), (K w.params).In h → h.Ns mainGlobals mg → mg d.name = some (.ref fa) →
      ∃ fd : FuncData, (∀ (s : Shared) (u : Value), BindsTo s fd ⟨[u], []⟩ [("_law_script", u)]) ∧ ∀ base : Heap, (K w.params).In base → base.Ns mainGlobals mg → FnG l.prog w (K w.params) mg base lev fa fd P_145 (spF (K w.params) (run T lev) 145)) :
    PySem.W.WalkO q loose XP YP l.row.toRowW d [] (fun f vs => PySem.call f vs) :=
  walkG (n := 63) (k := lev) (x := "_law_script") (sp := fun w => spF (K w.params) (run T lev) 145) hn (by decide) hdf ⟨⟨rfl, by decide, by decide⟩, rfl⟩ hY F
    (fun w H a ns hl hb hO hS => by
      obtain ⟨S', e⟩ := law_true ns hl hb
      refine ⟨[], [], [.ro ns], .bl true, S', ⟨rfl, fun i j a h => by simp at h, fun k o a h => by simp at h⟩, Rps.one (.ro ?_), e, fun α' H' v _ _ r => by cases r; rfl⟩
      rcases hS with (h | h) | h
      · rcases hO a with z | ⟨o, xs, z⟩
        · rw [z] at h; cases h
        · rw [z] at h; cases h
      · exact .inl h
      · exact .inr h)
end Lw

open PySem PySem.W PyProof.Rows in
set_option maxRecDepth 100000 in
set_option maxHeartbeats 0 in
theorem PySem.Challenge.cw_hoursmeant_k63_whole_programs_read_back_holds : PySem.Challenge.rw_hoursmeant_k63_whole_programs_read_back.Holds := by
  w_on; o_law; k_head; (case hw => w_witness2)
  k_fill
  refine Lw.walk (l := PySem.Challenge.rw_hoursmeant_k63_whole_programs_read_back) rfl rfl (fun w h Y => PySem.W.kIn_of Y) ?F
  case F =>
    intro w mg fa h KX G hmg
    refine' Lw.all_mk KX G hmg ?a0 ?l0 ?c0 ?k0 ?a1 ?l1 ?c1 ?k1 ?a84 ?l84 ?c84 ?k84 ?a6 ?l6 ?c6 ?k6 ?a85 ?l85 ?c85 ?k85 ?a86 ?l86 ?c86 ?k86 ?a87 ?l87 ?c87 ?k87 ?a65 ?l65 ?c65 ?k65 ?a3 ?l3 ?c3 ?k3 ?a5 ?l5 ?c5 ?k5 ?a4 ?l4 ?c4 ?k4 ?a95 ?l95 ?c95 ?k95 ?a93 ?l93 ?c93 ?k93 ?a96 ?l96 ?c96 ?k96 ?a90 ?l90 ?c90 ?k90 ?a89 ?l89 ?c89 ?k89 ?a91 ?l91 ?c91 ?k91 ?a88 ?l88 ?c88 ?k88 ?a92 ?l92 ?c92 ?k92 ?a112 ?l112 ?c112 ?k112 ?a111 ?l111 ?c111 ?k111 ?a110 ?l110 ?c110 ?k110 ?a114 ?l114 ?c114 ?k114 ?a142 ?l142 ?c142 ?k142 ?a115 ?l115 ?c115 ?k115 ?a143 ?l143 ?c143 ?k143 ?a139 ?l139 ?c139 ?k139 ?a113 ?l113 ?c113 ?k113 ?a141 ?l141 ?c141 ?k141 ?a138 ?l138 ?c138 ?k138 ?a140 ?l140 ?c140 ?k140 ?a137 ?l137 ?c137 ?k137 ?a136 ?l136 ?c136 ?k136 ?a116 ?l116 ?c116 ?k116 ?a117 ?l117 ?c117 ?k117 ?a118 ?l118 ?c118 ?k118 ?a119 ?l119 ?c119 ?k119 ?a120 ?l120 ?c120 ?k120 ?a121 ?l121 ?c121 ?k121 ?a122 ?l122 ?c122 ?k122 ?a123 ?l123 ?c123 ?k123 ?a124 ?l124 ?c124 ?k124 ?a125 ?l125 ?c125 ?k125 ?a126 ?l126 ?c126 ?k126 ?a127 ?l127 ?c127 ?k127 ?a128 ?l128 ?c128 ?k128 ?a129 ?l129 ?c129 ?k129 ?a130 ?l130 ?c130 ?k130 ?a131 ?l131 ?c131 ?k131 ?a132 ?l132 ?c132 ?k132 ?a133 ?l133 ?c133 ?k133 ?a144 ?l144 ?c144 ?k144 ?a145 ?l145 ?c145 ?k145 ?n_all ?n_bool ?n_int ?n_isinstance ?n_len ?n_list ?n_max ?n_min ?n_range ?n_repr ?n_str ?n_tuple ?n_zip ?c_MOST_SPACING ?c_MOST_ZONES ?c_MOST_OFFSETS ?c_FARTHEST_OFFSET ?c_MOST_STEPS ?c_FARTHEST_MINUTES ?c_GAP_RULES ?l_GAP_RULES ?c_FOLD_RULES ?l_FOLD_RULES ?c_STEP_ROLES ?l_STEP_ROLES ?q_STEP_ROLES ?b_STEP_ROLES ?l_STEP_ROLES0 ?l_STEP_ROLES1 ?l_STEP_ROLES2 ?l_STEP_ROLES3 ?l_STEP_ROLES4 ?l_STEP_ROLES5 ?l_STEP_ROLES6 ?c_MADE_KINDS ?l_MADE_KINDS ?q_MADE_KINDS ?b_MADE_KINDS ?c_WISH_ROLES ?l_WISH_ROLES ?q_WISH_ROLES ?b_WISH_ROLES ?l_WISH_ROLES0 ?l_WISH_ROLES1 ?l_WISH_ROLES2 ?l_WISH_ROLES3 ?c_FARTHEST_NEAR ?c_NO_STEPS ?c_MOST_DIGITS ?c_DIGITS ?c_KINDS ?l_KINDS Lw.lev
    (case a0 => k_is)
    (case l0 => k_is)
    (case c0 => k_is)
    (case k0 => k_is)
    (case a1 => k_is)
    (case l1 => k_is)
    (case c1 => k_is)
    (case k1 => k_is)
    (case a84 => k_is)
    (case l84 => k_is)
    (case c84 => k_is)
    (case k84 => k_is)
    (case a6 => k_is)
    (case l6 => k_is)
    (case c6 => k_is)
    (case k6 => k_is)
    (case a85 => k_is)
    (case l85 => k_is)
    (case c85 => k_is)
    (case k85 => k_is)
    (case a86 => k_is)
    (case l86 => k_is)
    (case c86 => k_is)
    (case k86 => k_is)
    (case a87 => k_is)
    (case l87 => k_is)
    (case c87 => k_is)
    (case k87 => k_is)
    (case a65 => k_is)
    (case l65 => k_is)
    (case c65 => k_is)
    (case k65 => k_is)
    (case a3 => k_is)
    (case l3 => k_is)
    (case c3 => k_is)
    (case k3 => k_is)
    (case a5 => k_is)
    (case l5 => k_is)
    (case c5 => k_is)
    (case k5 => k_is)
    (case a4 => k_is)
    (case l4 => k_is)
    (case c4 => k_is)
    (case k4 => k_is)
    (case a95 => k_is)
    (case l95 => k_is)
    (case c95 => k_is)
    (case k95 => k_is)
    (case a93 => k_is)
    (case l93 => k_is)
    (case c93 => k_is)
    (case k93 => k_is)
    (case a96 => k_is)
    (case l96 => k_is)
    (case c96 => k_is)
    (case k96 => k_is)
    (case a90 => k_is)
    (case l90 => k_is)
    (case c90 => k_is)
    (case k90 => k_is)
    (case a89 => k_is)
    (case l89 => k_is)
    (case c89 => k_is)
    (case k89 => k_is)
    (case a91 => k_is)
    (case l91 => k_is)
    (case c91 => k_is)
    (case k91 => k_is)
    (case a88 => k_is)
    (case l88 => k_is)
    (case c88 => k_is)
    (case k88 => k_is)
    (case a92 => k_is)
    (case l92 => k_is)
    (case c92 => k_is)
    (case k92 => k_is)
    (case a112 => k_is)
    (case l112 => k_is)
    (case c112 => k_is)
    (case k112 => k_is)
    (case a111 => k_is)
    (case l111 => k_is)
    (case c111 => k_is)
    (case k111 => k_is)
    (case a110 => k_is)
    (case l110 => k_is)
    (case c110 => k_is)
    (case k110 => k_is)
    (case a114 => k_is)
    (case l114 => k_is)
    (case c114 => k_is)
    (case k114 => k_is)
    (case a142 => k_is)
    (case l142 => k_is)
    (case c142 => k_is)
    (case k142 => k_is)
    (case a115 => k_is)
    (case l115 => k_is)
    (case c115 => k_is)
    (case k115 => k_is)
    (case a143 => k_is)
    (case l143 => k_is)
    (case c143 => k_is)
    (case k143 => k_is)
    (case a139 => k_is)
    (case l139 => k_is)
    (case c139 => k_is)
    (case k139 => k_is)
    (case a113 => k_is)
    (case l113 => k_is)
    (case c113 => k_is)
    (case k113 => k_is)
    (case a141 => k_is)
    (case l141 => k_is)
    (case c141 => k_is)
    (case k141 => k_is)
    (case a138 => k_is)
    (case l138 => k_is)
    (case c138 => k_is)
    (case k138 => k_is)
    (case a140 => k_is)
    (case l140 => k_is)
    (case c140 => k_is)
    (case k140 => k_is)
    (case a137 => k_is)
    (case l137 => k_is)
    (case c137 => k_is)
    (case k137 => k_is)
    (case a136 => k_is)
    (case l136 => k_is)
    (case c136 => k_is)
    (case k136 => k_is)
    (case a116 => k_is)
    (case l116 => k_is)
    (case c116 => k_is)
    (case k116 => k_is)
    (case a117 => k_is)
    (case l117 => k_is)
    (case c117 => k_is)
    (case k117 => k_is)
    (case a118 => k_is)
    (case l118 => k_is)
    (case c118 => k_is)
    (case k118 => k_is)
    (case a119 => k_is)
    (case l119 => k_is)
    (case c119 => k_is)
    (case k119 => k_is)
    (case a120 => k_is)
    (case l120 => k_is)
    (case c120 => k_is)
    (case k120 => k_is)
    (case a121 => k_is)
    (case l121 => k_is)
    (case c121 => k_is)
    (case k121 => k_is)
    (case a122 => k_is)
    (case l122 => k_is)
    (case c122 => k_is)
    (case k122 => k_is)
    (case a123 => k_is)
    (case l123 => k_is)
    (case c123 => k_is)
    (case k123 => k_is)
    (case a124 => k_is)
    (case l124 => k_is)
    (case c124 => k_is)
    (case k124 => k_is)
    (case a125 => k_is)
    (case l125 => k_is)
    (case c125 => k_is)
    (case k125 => k_is)
    (case a126 => k_is)
    (case l126 => k_is)
    (case c126 => k_is)
    (case k126 => k_is)
    (case a127 => k_is)
    (case l127 => k_is)
    (case c127 => k_is)
    (case k127 => k_is)
    (case a128 => k_is)
    (case l128 => k_is)
    (case c128 => k_is)
    (case k128 => k_is)
    (case a129 => k_is)
    (case l129 => k_is)
    (case c129 => k_is)
    (case k129 => k_is)
    (case a130 => k_is)
    (case l130 => k_is)
    (case c130 => k_is)
    (case k130 => k_is)
    (case a131 => k_is)
    (case l131 => k_is)
    (case c131 => k_is)
    (case k131 => k_is)
    (case a132 => k_is)
    (case l132 => k_is)
    (case c132 => k_is)
    (case k132 => k_is)
    (case a133 => k_is)
    (case l133 => k_is)
    (case c133 => k_is)
    (case k133 => k_is)
    (case a144 => k_is)
    (case l144 => k_is)
    (case c144 => k_is)
    (case k144 => k_is)
    (case a145 => k_is)
    (case l145 => k_is)
    (case c145 => k_is)
    (case k145 => k_is)
    (case n_all => k_is)
    (case n_bool => k_is)
    (case n_int => k_is)
    (case n_isinstance => k_is)
    (case n_len => k_is)
    (case n_list => k_is)
    (case n_max => k_is)
    (case n_min => k_is)
    (case n_range => k_is)
    (case n_repr => k_is)
    (case n_str => k_is)
    (case n_tuple => k_is)
    (case n_zip => k_is)
    (case c_MOST_SPACING => k_is)
    (case c_MOST_ZONES => k_is)
    (case c_MOST_OFFSETS => k_is)
    (case c_FARTHEST_OFFSET => k_is)
    (case c_MOST_STEPS => k_is)
    (case c_FARTHEST_MINUTES => k_is)
    (case c_GAP_RULES => k_is)
    (case l_GAP_RULES => k_is)
    (case c_FOLD_RULES => k_is)
    (case l_FOLD_RULES => k_is)
    (case c_STEP_ROLES => k_is)
    (case l_STEP_ROLES => k_is)
    (case q_STEP_ROLES => (repeat' (first | exact trivial | refine ⟨⟨_, _, rfl, rfl⟩, ?_⟩)))
    (case b_STEP_ROLES => first | rfl | decide | (decide +kernel))
    (case l_STEP_ROLES0 => k_is)
    (case l_STEP_ROLES1 => k_is)
    (case l_STEP_ROLES2 => k_is)
    (case l_STEP_ROLES3 => k_is)
    (case l_STEP_ROLES4 => k_is)
    (case l_STEP_ROLES5 => k_is)
    (case l_STEP_ROLES6 => k_is)
    (case c_MADE_KINDS => k_is)
    (case l_MADE_KINDS => k_is)
    (case q_MADE_KINDS => (repeat' (first | exact trivial | refine ⟨⟨_, _, rfl, rfl⟩, ?_⟩)))
    (case b_MADE_KINDS => first | rfl | decide | (decide +kernel))
    (case c_WISH_ROLES => k_is)
    (case l_WISH_ROLES => k_is)
    (case q_WISH_ROLES => (repeat' (first | exact trivial | refine ⟨⟨_, _, rfl, rfl⟩, ?_⟩)))
    (case b_WISH_ROLES => first | rfl | decide | (decide +kernel))
    (case l_WISH_ROLES0 => k_is)
    (case l_WISH_ROLES1 => k_is)
    (case l_WISH_ROLES2 => k_is)
    (case l_WISH_ROLES3 => k_is)
    (case c_FARTHEST_NEAR => k_is)
    (case c_NO_STEPS => k_is)
    (case c_MOST_DIGITS => k_is)
    (case c_DIGITS => k_is)
    (case c_KINDS => k_is)
    (case l_KINDS => k_is)


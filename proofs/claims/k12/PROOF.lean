import PyProof.Rows.All
import Wide.All
import OpenK.AllK
import Wide.FinOn
import HandS.ForMost
import HandS.Wide
import HandS.IsInst
import HandS.TupAny
import HandS.Zip
import HandS.Walk
import HandS.Style
import HandS.EndBits
import HandS.Defaults
import HandS.Flow
import HandS.SortInts
import KE.GoesEnum
import HandS.MakeKwOnly
import PySem.Challenge.RW_hoursmeant_k12_early_tables
set_option Elab.async false
set_option linter.all false
set_option maxRecDepth 100000
set_option maxHeartbeats 4000000
/-! A small language of data: its meaning as a function, and that the text's own code means it. -/
namespace Ix
open PySem L2

/-! ### data -/
inductive D where
  | non | bl (b : Bool) | int (i : Int) | str (x : Str) | ty (n : String) | ref (k : Nat) | tup (xs : List D) | ro (xs : List Int)
inductive O where
  | lst (xs : List D)
abbrev Hd := List O
abbrev Sl := List (Option D)

/-! ### how data lies in the heap -/
/-- a list that stands for good: the script, a list of the module -/
def SqR (K : PySem.W.Frag) (H : Hp) (a : Addr) (xs : List V) : Prop := (∃ o, H a = some (.frz o (.lst xs))) ∨
    ∃ (o : Obj) (its : Array Value) (n : Nat), K.lookup a = some o ∧ o.cls = .type "list" ∧ o.dict = none ∧ o.data = .seq its n ∧ its.size ≤ sizeLine ∧ Vals xs its.toList
inductive Rp (K : PySem.W.Frag) (α : List Addr) (H : Hp) : D → V → Prop where
  | non : Rp K α H .non .non
  | bl (b : Bool) : Rp K α H (.bl b) (.bl b)
  | int (i : Int) : Rp K α H (.int i) (.int i)
  | str (x : Str) : Rp K α H (.str x) (.str x)
  | ty (n : String) : Rp K α H (.ty n) (.ty n)
  | ref {k : Nat} {a : Addr} (h : α[k]? = some a) : Rp K α H (.ref k) (.ref a)
  | tup {xs : List D} {a : Addr} {vs : List V} (h : SqT K H a vs) (l : vs.length = xs.length) (r : ∀ (i : Nat) (x : D) (v : V), xs[i]? = some x → vs[i]? = some v → Rp K α H x v) : Rp K α H (.tup xs) (.ref a)
  | ro {xs : List Int} {a : Addr} (h : SqR K H a (xs.map V.int)) : Rp K α H (.ro xs) (.ref a)

structure Rps (K : PySem.W.Frag) (α : List Addr) (H : Hp) (xs : List D) (vs : List V) : Prop where
  len : vs.length = xs.length
  at_ : ∀ (i : Nat) (x : D) (v : V), xs[i]? = some x → vs[i]? = some v → Rp K α H x v

/-- what an object is -/
def Ob (K : PySem.W.Frag) (α : List Addr) (H : Hp) : O → HO → Prop
  | .lst xs, .lst vs => Rps K α H xs vs
  | _, _ => False
structure Ok (K : PySem.W.Frag) (α : List Addr) (S : Hd) (H : Hp) : Prop where
  len : α.length = S.length
  nd : ∀ (i j : Nat) (a : Addr), α[i]? = some a → α[j]? = some a → i = j
  at_ : ∀ (k : Nat) (o : O) (a : Addr), S[k]? = some o → α[k]? = some a → ∃ u, H a = some u ∧ Ob K α H o u
structure En (K : PySem.W.Frag) (α : List Addr) (H : Hp) (env : Sl) (σ : L2.St) : Prop where
  len : σ.length = env.length
  at_ : ∀ (i : Nat) (d : D), env[i]? = some (some d) → ∃ v, σ[i]? = some (some v) ∧ Rp K α H d v
/-- what lasts -/
structure Xt (K : PySem.W.Frag) (α : List Addr) (H : Hp) (α' : List Addr) (H' : Hp) : Prop where
  pre : ∀ (k : Nat) (a : Addr), α[k]? = some a → α'[k]? = some a
  tup : ∀ (a : Addr) (vs : List V), SqT K H a vs → SqT K H' a vs
  frz : ∀ (a : Addr) (o : Obj) (u : HO), H a = some (.frz o u) → H' a = some (.frz o u)

section
variable {K : PySem.W.Frag} {α α1 α2 : List Addr} {H H1 H2 : Hp} {d : D} {v : V} {xs : List D} {vs : List V} {S : Hd} {env : Sl} {σ : L2.St}
theorem Xt.refl : Xt K α H α H := ⟨fun _ _ h => h, fun _ _ h => h, fun _ _ _ h => h⟩
theorem Xt.trans (a : Xt K α H α1 H1) (b : Xt K α1 H1 α2 H2) : Xt K α H α2 H2 := ⟨fun k x h => b.pre k x (a.pre k x h), fun x y h => b.tup x y (a.tup x y h), fun x y z h => b.frz x y z (a.frz x y z h)⟩
theorem Rp.mono (e : Xt K α H α1 H1) (h : Rp K α H d v) : Rp K α1 H1 d v := by
  induction h with
  | non => exact .non
  | bl b => exact .bl b
  | int i => exact .int i
  | str x => exact .str x
  | ty n => exact .ty n
  | ref h => exact .ref (e.pre _ _ h)
  | tup h l r ih => exact .tup (e.tup _ _ h) l ih
  | ro h =>
    rcases h with ⟨o, h⟩ | h
    · exact .ro (.inl ⟨o, e.frz _ _ _ h⟩)
    · exact .ro (.inr h)
theorem Rps.mono (e : Xt K α H α1 H1) (h : Rps K α H xs vs) : Rps K α1 H1 xs vs := ⟨h.len, fun i x v a b => (h.at_ i x v a b).mono e⟩
theorem En.mono (e : Xt K α H α1 H1) (h : En K α H env σ) : En K α1 H1 env σ := ⟨h.len, fun i d a => let ⟨v, b, c⟩ := h.at_ i d a; ⟨v, b, c.mono e⟩⟩
theorem Rps.nil : Rps K α H [] [] := ⟨rfl, fun i x v h => by simp at h⟩
theorem Rps.cons (h : Rp K α H d v) (r : Rps K α H xs vs) : Rps K α H (d :: xs) (v :: vs) := by
  refine ⟨by simp [r.len], fun i x w a b => ?_⟩
  cases i with
  | zero =>
    simp at a b
    subst a b
    exact h
  | succ i => exact r.at_ i x w (by simpa using a) (by simpa using b)
theorem Rps.append {ys : List D} {ws : List V} (h : Rps K α H xs vs) (r : Rps K α H ys ws) : Rps K α H (xs ++ ys) (vs ++ ws) := by
  refine ⟨by simp [h.len, r.len], fun i x w a b => ?_⟩
  by_cases hi : i < xs.length
  · rw [List.getElem?_append_left hi] at a
    rw [List.getElem?_append_left (by rw [h.len]; exact hi)] at b
    exact h.at_ i x w a b
  · rw [List.getElem?_append_right (by omega)] at a
    rw [List.getElem?_append_right (by rw [h.len]; omega), h.len] at b
    exact r.at_ _ x w a b
theorem Rps.one (h : Rp K α H d v) : Rps K α H [d] [v] := .cons h .nil
theorem Rps.uncons (h : Rps K α H (d :: xs) vs) : ∃ w ws, vs = w :: ws ∧ Rp K α H d w ∧ Rps K α H xs ws := by
  cases vs with
  | nil =>
    have := h.len
    simp at this
  | cons w ws => exact ⟨w, ws, rfl, h.at_ 0 d w rfl rfl, by have := h.len; simpa using this, fun i x v a b => h.at_ (i + 1) x v (by simpa using a) (by simpa using b)⟩
theorem Rps.unnil (h : Rps K α H [] vs) : vs = [] := List.eq_nil_of_length_eq_zero h.len
theorem Rps.take (h : Rps K α H xs vs) (n : Nat) : Rps K α H (xs.take n) (vs.take n) := by
  refine ⟨by simp [h.len], fun i x w a b => ?_⟩
  rw [List.getElem?_take] at a b
  split at a
  · rw [if_pos (by assumption)] at b
    exact h.at_ i x w a b
  · cases a
theorem Rps.drop (h : Rps K α H xs vs) (n : Nat) : Rps K α H (xs.drop n) (vs.drop n) := by
  refine ⟨by simp [h.len], fun i x w a b => ?_⟩
  rw [List.getElem?_drop] at a b
  exact h.at_ _ x w a b
theorem Rps.set (h : Rps K α H xs vs) (j : Nat) (r : Rp K α H d v) : Rps K α H (xs.set j d) (vs.set j v) := by
  refine ⟨by simp [h.len], fun i x w a b => ?_⟩
  by_cases e : j = i
  · subst e
    rw [List.getElem?_set] at a b
    simp only [if_true] at a b
    split at a
    · split at b
      · cases a
        cases b
        exact r
      · cases b
    · cases a
  · rw [List.getElem?_set_ne e] at a b
    exact h.at_ i x w a b
theorem Rps.reverse (h : Rps K α H xs vs) : Rps K α H xs.reverse vs.reverse := by
  refine ⟨by simp [h.len], fun i x w a b => ?_⟩
  by_cases hi : i < xs.length
  · rw [List.getElem?_reverse hi] at a
    rw [List.getElem?_reverse (by rw [h.len]; exact hi), h.len] at b
    exact h.at_ _ x w a b
  · rw [List.getElem?_eq_none (by simpa using hi)] at a
    cases a
theorem Rps.get (h : Rps K α H xs vs) {i : Nat} {x : D} (a : xs[i]? = some x) : ∃ v, vs[i]? = some v ∧ Rp K α H x v := by
  have hi : i < xs.length := (List.getElem?_eq_some_iff.mp a).1
  have hv : i < vs.length := by rw [h.len]; exact hi
  exact ⟨vs[i], by simp [hv], h.at_ i x _ a (by simp [hv])⟩
theorem Rps.getV (h : Rps K α H xs vs) {i : Nat} {v : V} (b : vs[i]? = some v) : ∃ x, xs[i]? = some x ∧ Rp K α H x v := by
  have hv : i < vs.length := (List.getElem?_eq_some_iff.mp b).1
  have hi : i < xs.length := by rw [← h.len]; exact hv
  exact ⟨xs[i], by simp [hi], h.at_ i _ v (by simp [hi]) b⟩
theorem En.set (h : En K α H env σ) (i : Nat) (r : Rp K α H d v) : En K α H (env.set i (some d)) (σ.set i (some v)) := by
  refine ⟨by simp [h.len], fun j x a => ?_⟩
  by_cases e : i = j
  · subst e
    rw [List.getElem?_set] at a
    simp only [if_true] at a
    split at a
    · cases a
      exact ⟨v, by rw [List.getElem?_set]; simp [h.len, *], r⟩
    · cases a
  · rw [List.getElem?_set_ne e] at a
    obtain ⟨w, b, c⟩ := h.at_ j x a
    exact ⟨w, by rw [List.getElem?_set_ne e]; exact b, c⟩
theorem Ob.mono (e : Xt K α H α1 H1) {o : O} {u : HO} (h : Ob K α H o u) : Ob K α1 H1 o u := by
  cases o with
  | lst xs =>
    cases u with
    | lst vs => exact Rps.mono e h
    | _ => exact h.elim

/-- a new object that data knows -/
theorem Xt.fresh {p : Addr} {u : HO} (hp : H p = none) : Xt K α H α (upd H p u) :=
  ⟨fun _ _ h => h, fun a vs h => by
    rcases h with (h | ⟨o, h⟩) | h
    · exact .inl (.inl (by rw [upd_ne (ne_of_none h hp)]; exact h))
    · exact .inl (.inr ⟨o, by rw [upd_ne (ne_of_none h hp)]; exact h⟩)
    · exact .inr h, fun a o u h => by rw [upd_ne (ne_of_none h hp)]; exact h⟩
theorem Ok.fresh {p : Addr} {u : HO} (ok : Ok K α S H) (hp : H p = none) : Ok K α S (upd H p u) :=
  ⟨ok.len, ok.nd, fun k o a h1 h2 => by
    obtain ⟨w, e, b⟩ := ok.at_ k o a h1 h2
    exact ⟨w, by rw [upd_ne (ne_of_none e hp)]; exact e, b.mono (Xt.fresh hp)⟩⟩
theorem Xt.snoc {p : Addr} (hp : H p = none) {u : HO} : Xt K α H (α ++ [p]) (upd H p u) :=
  ⟨fun k a h => by rw [List.getElem?_append_left (List.getElem?_eq_some_iff.mp h).1]; exact h, (Xt.fresh (K := K) (α := α) hp).tup, (Xt.fresh (K := K) (α := α) hp).frz⟩
theorem Ok.snoc {p : Addr} {o : O} {u : HO} (ok : Ok K α S H) (hp : H p = none) (b : Ob K α H o u) : Ok K (α ++ [p]) (S ++ [o]) (upd H p u) := by
  have old : ∀ (i : Nat) (a : Addr), α[i]? = some a → a ≠ p := fun i a h => by
    have hi : i < S.length := by rw [← ok.len]; exact (List.getElem?_eq_some_iff.mp h).1
    obtain ⟨w, e, _⟩ := ok.at_ i _ a (List.getElem?_eq_getElem hi) h
    exact ne_of_none e hp
  have spl : ∀ (i : Nat) (a : Addr), (α ++ [p])[i]? = some a → (i < α.length ∧ α[i]? = some a) ∨ (i = α.length ∧ a = p) := fun i a h => by
    by_cases hi : i < α.length
    · rw [List.getElem?_append_left hi] at h
      exact .inl ⟨hi, h⟩
    · rw [List.getElem?_append_right (by omega)] at h
      have h0 : i - α.length = 0 := by
        have := (List.getElem?_eq_some_iff.mp h).1
        simp at this
        omega
      rw [h0] at h
      simp at h
      exact .inr ⟨by omega, h.symm⟩
  refine ⟨by simp [ok.len], fun i j a h1 h2 => ?_, fun k q a h1 h2 => ?_⟩
  · rcases spl i a h1 with ⟨_, q1⟩ | ⟨e1, f1⟩
    · rcases spl j a h2 with ⟨_, q2⟩ | ⟨_, f2⟩
      · exact ok.nd i j a q1 q2
      · exact absurd f2 (old i a q1)
    · rcases spl j a h2 with ⟨_, q2⟩ | ⟨e2, _⟩
      · exact absurd f1 (old j a q2)
      · omega
  · rcases spl k a h2 with ⟨hk, q2⟩ | ⟨e1, f1⟩
    · rw [List.getElem?_append_left (by rw [← ok.len]; exact hk)] at h1
      obtain ⟨w, e, c⟩ := ok.at_ k q a h1 q2
      exact ⟨w, by rw [upd_ne (old k a q2)]; exact e, c.mono (Xt.snoc hp)⟩
    · subst f1
      rw [List.getElem?_append_right (by rw [← ok.len]; omega), e1, ok.len, Nat.sub_self] at h1
      have e : o = q := by simpa using h1
      subst e
      exact ⟨u, upd_same, b.mono (Xt.snoc hp)⟩
theorem Rp.snoc {p : Addr} (hl : α.length = S.length) {H' : Hp} : Rp K (α ++ [p]) H' (.ref S.length) (.ref p) := .ref (by rw [← hl]; simp)
/-- a list of ours is changed -/
theorem Xt.write {p : Addr} {ws : List V} {u : HO} (hp : H p = some (.lst ws)) : Xt K α H α (upd H p u) :=
  ⟨fun _ _ h => h, fun a vs h => by
    rcases h with (h | ⟨o, h⟩) | h
    · exact .inl (.inl (by rw [upd_ne (ne_of h hp (by intro z; cases z))]; exact h))
    · exact .inl (.inr ⟨o, by rw [upd_ne (ne_of h hp (by intro z; cases z))]; exact h⟩)
    · exact .inr h, fun a o u h => by rw [upd_ne (ne_of h hp (by intro z; cases z))]; exact h⟩
theorem Ok.write {p : Addr} {ws : List V} {o : O} {u : HO} {k : Nat} (ok : Ok K α S H) (hk : α[k]? = some p) (hp : H p = some (.lst ws)) (b : Ob K α H o u) : Ok K α (S.set k o) (upd H p u) := by
  refine ⟨by simp [ok.len], ok.nd, fun j q a h1 h2 => ?_⟩
  by_cases e : k = j
  · subst e
    rw [hk] at h2
    cases h2
    rw [List.getElem?_set] at h1
    simp only [if_true] at h1
    split at h1
    · cases h1
      exact ⟨u, upd_same, b.mono (Xt.write hp)⟩
    · cases h1
  · rw [List.getElem?_set_ne e] at h1
    obtain ⟨w, f, c⟩ := ok.at_ j q a h1 h2
    exact ⟨w, by rw [upd_ne (fun z => e (ok.nd k j a (by rw [z]; exact hk) h2))]; exact f, c.mono (Xt.write hp)⟩
theorem Ok.get {k : Nat} {o : O} (ok : Ok K α S H) (h : S[k]? = some o) : ∃ a u, α[k]? = some a ∧ H a = some u ∧ Ob K α H o u := by
  have hk : k < α.length := by rw [ok.len]; exact (List.getElem?_eq_some_iff.mp h).1
  obtain ⟨u, e, b⟩ := ok.at_ k o _ h (List.getElem?_eq_getElem hk)
  exact ⟨_, u, List.getElem?_eq_getElem hk, e, b⟩
theorem Ok.lst {k : Nat} {xs : List D} {v : V} (ok : Ok K α S H) (h : S[k]? = some (.lst xs)) (r : Rp K α H (.ref k) v) : ∃ a vs, v = .ref a ∧ α[k]? = some a ∧ H a = some (.lst vs) ∧ Rps K α H xs vs := by
  cases r with
  | ref e =>
    obtain ⟨u, e2, b⟩ := ok.at_ k _ _ h e
    cases u with
    | lst vs => exact ⟨_, vs, rfl, e, e2, b⟩
    | _ => exact b.elim
end
end Ix

namespace Ix
open PySem L2
/-! ### the language -/
inductive Bo where | add | sub | mul | fdiv | mod | pow
inductive Co where | eq | ne | lt | le | gt | ge | is_ | isnot | in_ | notin
inductive Bl where | len | int_ | max_ | min_ | abs_ | all_ | any_ | tuple_ | list_ | isi | str_ | sum_ | sorted_
inductive Ik where | seq | range1 | range2 | zip | enum
inductive Mt where | append
inductive G where | name (i : Nat) | tup (g : G) | nil | cons (g h : G)
inductive E where
  | var (i : Nat) | c (d : D) | nop
  | bin (o : Bo) (a b : E) | neg (a : E) | not_ (a : E)
  | cmp (o : Co) (a b : E) | chain (o p : Co) (a b c : E)
  | and_ (a b : E) | or_ (a b : E) | ite (c a b : E)
  | ix (a i : E) | sl (l h : Bool) (a lo hi : E) | rev (a : E)
  | tup (es : E) | lst (es : E) | nil | cons (e es : E)
  | call (f : Nat) (es : E) | callK (f : Nat) (es ks : E) (perm : List Nat)
  | blt (b : Bl) (es : E) | meth (m : Mt) (o es : E)
  | lc (k : Ik) (es : E) (g : G) (ifs elt : E) (own : List Nat)
inductive Sx where
  | skip | seq (s t : Sx) | asg (g : G) (e : E) | setix (o i e : E) | drop (e : E) | ret (e : E) | retN
  | ite (c : E) (s t : Sx) | for_ (k : Ik) (es : E) (g : G) (b : Sx) | brk | cont | stuck | aug (i : Nat) (o : Bo) (e : E)
inductive Out where | nx | ret (d : D) | brk | cont

/-! ### operations -/
def most : Nat := 100000
def seqOf (S : Hd) : D → Option (List D)
  | .tup xs => some xs
  | .ref k => match S[k]? with | some (.lst xs) => some xs | _ => none
  | .ro ns => some (ns.map .int)
  | _ => none
def isTup : D → Bool
  | .tup _ => true
  | _ => false
def tru (S : Hd) : D → Option Bool
  | .non => some false
  | .bl b => some b
  | .int i => some (i != 0)
  | .str _ => none
  | .ty _ => none
  | d => (seqOf S d).map fun xs => !xs.isEmpty
def flat : D → Bool
  | .non => true | .bl _ => true | .int _ => true | .str _ => true | _ => false
def eqF : D → D → Bool
  | .non, .non => true
  | .bl a, .bl b => a == b
  | .bl a, .int b => (if a then 1 else 0) == b
  | .int a, .bl b => a == (if b then 1 else 0)
  | .int a, .int b => a == b
  | .str a, .str b => a == b
  | _, _ => false
def alloc (S : Hd) (xs : List D) : D × Hd := (.ref S.length, S ++ [.lst xs])
def binD : Bo → D → D → Hd → Option (D × Hd)
  | .add, .int i, .int j, S => some (.int (i + j), S)
  | .add, .str x, .str y, S => if x.length + y.length ≤ most then some (.str (x ++ y), S) else none
  | .add, .tup xs, .tup ys, S => if xs.length + ys.length ≤ most then some (.tup (xs ++ ys), S) else none
  | .add, .ref a, .ref b, S => match S[a]?, S[b]? with
    | some (.lst xs), some (.lst ys) => if xs.length + ys.length ≤ most then some (alloc S (xs ++ ys)) else none
    | _, _ => none
  | .sub, .int i, .int j, S => some (.int (i - j), S)
  | .mul, .int i, .int j, S => if i.natAbs.log2 + j.natAbs.log2 < 1000000 then some (.int (i * j), S) else none
  | .mul, .ref a, .int k, S => match S[a]? with
    | some (.lst xs) => if -(2 ^ 63) ≤ k ∧ k < 2 ^ 63 ∧ xs.length * k.toNat ≤ most then some (alloc S (List.replicate k.toNat xs).flatten) else none
    | _ => none
  | .fdiv, .int i, .int j, S => if 0 < j ∧ j.natAbs.log2 < 9000 then some (.int (i / j), S) else none
  | .mod, .int i, .int j, S => if 0 < j then some (.int (i % j), S) else none
  | .pow, .int i, .int j, S => if 0 ≤ j ∧ j ≤ 1000000 ∧ i.natAbs < 2 ^ 64 then some (.int (i ^ j.toNat), S) else none
  | _, _, _, _ => none
/-- what == tells of scalars alike -/
def scalD : D → D → Option Bool
  | .non, .non => some true | .int i, .int j => some (decide (i = j)) | .bl i, .bl j => some (decide (i = j)) | .str i, .str j => some (decide (i = j))
  | .non, .int _ => some false | .int _, .non => some false | .non, .bl _ => some false | .bl _, .non => some false | .non, .str _ => some false | .str _, .non => some false
  | .int _, .str _ => some false | .str _, .int _ => some false | .bl _, .str _ => some false | .str _, .bl _ => some false
  | _, _ => none
def isNon : D → Bool
  | .non => true | _ => false
def cmpD : Co → D → D → Hd → Option (D × Hd)
  | .eq, x, y, S => (scalD x y).map fun b => (.bl b, S)
  | .ne, x, y, S => (scalD x y).map fun b => (.bl (!b), S)
  | .lt, .int i, .int j, S => some (.bl (decide (i < j)), S)
  | .le, .int i, .int j, S => some (.bl (decide (i ≤ j)), S)
  | .gt, .int i, .int j, S => some (.bl (decide (j < i)), S)
  | .ge, .int i, .int j, S => some (.bl (decide (j ≤ i)), S)
  | .is_, x, .non, S => some (.bl (isNon x), S)
  | .isnot, x, .non, S => some (.bl (!isNon x), S)
  | .in_, x, y, S => if flat x then (seqOf S y).bind fun xs => if xs.all flat then some (.bl (xs.any fun z => eqF z x), S) else none else none
  | .notin, x, y, S => if flat x then (seqOf S y).bind fun xs => if xs.all flat then some (.bl (!xs.any fun z => eqF z x), S) else none else none
  | _, _, _, _ => none
def ixD (x i : D) (S : Hd) : Option (D × Hd) := match i with
  | .int k => (seqOf S x).bind fun xs => (atI xs k).map fun d => (d, S)
  | _ => none
def cutD (xs : List D) (lo hi : Option Int) : List D := (xs.drop (HT.sIx xs.length 0 lo)).take (HT.sIx xs.length xs.length hi - HT.sIx xs.length 0 lo)
def evP (b : Bool) (r : Option (D × Hd)) (S : Hd) : Option (Option Int × Hd) := if b = true then r.bind fun x => match x.1 with
    | .int i => some (some i, x.2)
    | _ => none
  else some (none, S)
def slD (x : D) (l h : Option Int) (S : Hd) : Option (D × Hd) := match x with
  | .tup xs => some (.tup (cutD xs l h), S)
  | x => (seqOf S x).map fun xs => alloc S (cutD xs l h)
def revD (x : D) (S : Hd) : Option (D × Hd) := match x with
  | .tup xs => some (.tup xs.reverse, S)
  | x => (seqOf S x).map fun xs => alloc S xs.reverse
def tyName (S : Hd) : D → Option String
  | .non => some "NoneType" | .bl _ => some "bool" | .int _ => some "int" | .str _ => some "str" | .tup _ => some "tuple" | .ro _ => some "list"
  | .ref k => match S[k]? with | some (.lst _) => some "list" | _ => none
  | .ty _ => none
def isaN (n c : String) : Bool := n == c || (n == "bool" && c == "int")
def plainTy (c : String) : Bool := ["int", "bool", "str", "tuple", "list"].contains c
def bools : List D → Option (List Bool)
  | [] => some []
  | .bl b :: ds => (bools ds).map (b :: ·)
  | _ => none
def intsD : List D → Option (List Int)
  | [] => some []
  | .int i :: ds => (intsD ds).map (i :: ·)
  | _ => none
def maxL : List Int → Option Int
  | [] => none
  | i :: is => some (is.foldl (fun a b => if b > a then b else a) i)
def insI (i : Int) : List Int → List Int
  | [] => [i]
  | j :: js => if i ≤ j then i :: j :: js else j :: insI i js
def srtI : List Int → List Int
  | [] => []
  | i :: is => insI i (srtI is)
/-- the numbers of a list -/
def intsAt (S : Hd) (x : D) : Option (List Int) := if isTup x = true then none else (seqOf S x).bind intsD
def tysOf : List D → Option (List String)
  | [] => some []
  | .ty c :: ds => if plainTy c then (tysOf ds).map (c :: ·) else none
  | _ => none
def bltD : Bl → List D → Hd → Option (D × Hd)
  | .len, [x], S => (seqOf S x).map fun xs => (.int xs.length, S)
  | .int_, [.int i], S => some (.int i, S)
  | .int_, [.bl b], S => some (.int (if b then 1 else 0), S)
  | .abs_, [.int i], S => some (.int (if i < 0 then -i else i), S)
  | .max_, [.int i, .int j], S => some (.int (if j > i then j else i), S)
  | .max_, [x], S => ((intsAt S x).bind maxL).map fun m => (.int m, S)
  | .sum_, [x], S => (intsAt S x).map fun ns => (.int ns.sum, S)
  | .sorted_, [x], S => (intsAt S x).map fun ns => alloc S ((srtI ns).map .int)
  | .min_, [.int i, .int j], S => some (.int (if j < i then j else i), S)
  | .all_, [x], S => if isTup x then none else ((seqOf S x).bind bools).map fun bs => (.bl (bs.all id), S)
  | .any_, [x], S => if isTup x then none else ((seqOf S x).bind bools).map fun bs => (.bl (bs.any id), S)
  | .tuple_, [x], S => (seqOf S x).map fun xs => (.tup xs, S)
  | .list_, [x], S => (seqOf S x).map fun xs => alloc S xs
  | .str_, [.int i], S => if i.natAbs.log2 < 1920 then some (.str (toString i), S) else none
  | .isi, [x, .ty c], S => if plainTy c then (tyName S x).map fun n => (.bl (isaN n c), S) else none
  | .isi, [x, .tup cs], S => (tysOf cs).bind fun ts => (tyName S x).map fun n => (.bl (ts.any (isaN n)), S)
  | _, _, _ => none
def methD : Mt → D → List D → Hd → Option (D × Hd)
  | .append, .ref k, [x], S => match S[k]? with
    | some (.lst xs) => if xs.length < most then some (.non, S.set k (.lst (xs ++ [x]))) else none
    | _ => none
  | _, _, _, _ => none
def setD (o i x : D) (S : Hd) : Option Hd := match o, i with
  | .ref k, .int j => match S[k]? with
    | some (.lst xs) => (ixN xs.length j).map fun m => S.set k (.lst (xs.set m x))
    | _ => none
  | _, _ => none
def items : Ik → List D → Hd → Option (List D)
  | .seq, [x], S => seqOf S x
  | .range1, [.int n], _ => if -(2 ^ 62) ≤ n ∧ n < 2 ^ 62 then some ((List.range n.toNat).map fun (i : Nat) => .int (0 + (i : Int))) else none
  | .range2, [.int a, .int b], _ => if -(2 ^ 62) ≤ a ∧ a < 2 ^ 62 ∧ -(2 ^ 62) ≤ b ∧ b < 2 ^ 62 then some ((List.range (b - a).toNat).map fun (i : Nat) => .int (a + (i : Int))) else none
  | .enum, [x], S => (seqOf S x).map fun xs => xs.mapIdx fun i d => .tup [.int (i : Int), d]
  | .zip, [x, y], S => if isTup x = isTup y then (seqOf S x).bind fun xs => (seqOf S y).map fun ys => List.zipWith (fun a b => .tup [a, b]) xs ys else none
  | _, _, _ => none
mutual
  def gOk (own : List Nat) : G → Bool
    | .name i => own.contains i
    | .tup g => gOk own g
    | .nil => true
    | .cons g h => gOk own g && gOk own h
end
def gLen : G → Option Nat
  | .nil => some 0
  | .cons _ h => (gLen h).map (· + 1)
  | _ => none
/-- targets: a name, or a tuple of targets; .nil and .cons read the items of a tuple -/
def asgG : G → D → Sl → Option Sl
  | .name i, d, env => some (env.set i (some d))
  | .tup g, .tup xs, env => asgG g (.tup xs) env
  | .nil, .tup [], env => some env
  | .cons g h, .tup (x :: xs), env => (asgG g x env).bind fun env1 => asgG h (.tup xs) env1
  | _, _, _ => none
def wipeD (env : Sl) : List Nat → Sl
  | [] => env
  | v :: vs => (wipeD env vs).set v none
open Classical in
noncomputable def loopH (turn : D → Hd → Option Hd) (still : Hd → Prop) : List D → Hd → Option Hd
  | [], S => some S
  | d :: ds, S => (turn d S).bind fun S1 => if still S1 then loopH turn still ds S1 else none
open Classical in
noncomputable def loopS (turn : D → Sl → Hd → Option (Out × Sl × Hd)) (still : Hd → Prop) : List D → Sl → Hd → Option (Out × Sl × Hd)
  | [], env, S => some (.nx, env, S)
  | d :: ds, env, S => (turn d env S).bind fun r => match r.1 with
    | .brk => some (.nx, r.2)
    | .ret x => some (.ret x, r.2)
    | _ => if still r.2.2 then loopS turn still ds r.2.1 r.2.2 else none
def argsOf : D → Option (List D)
  | .tup ds => some ds
  | _ => none
def tst (r : Option (D × Hd)) : Option (Bool × Hd) := r.bind fun x => (tru x.2 x.1).map fun b => (b, x.2)
def pushD (k : Nat) (x : D) (S : Hd) : Option Hd := match S[k]? with
  | some (.lst xs) => if xs.length < most then some (S.set k (.lst (xs ++ [x]))) else none
  | _ => none
def isLst (S : Hd) : D → Bool
  | .ref k => match S[k]? with
    | some (.lst _) => true
    | _ => false
  | _ => false
abbrev Fs := Nat → List D → Hd → Option (D × Hd)
def permV {β : Type} (perm : List Nat) (zs : List β) : List β := perm.filterMap fun i => zs[i]?
open Classical in
noncomputable def ev (Γ : Fs) : E → Sl → Hd → Option (D × Hd)
  | .var i, env, S => match env[i]? with
    | some (some d) => some (d, S)
    | _ => none
  | .c d, _, S => some (d, S)
  | .nop, _, S => some (.ty "nop", S)
  | .bin o a b, env, S => (ev Γ a env S).bind fun x => (ev Γ b env x.2).bind fun y => binD o x.1 y.1 y.2
  | .neg a, env, S => (ev Γ a env S).bind fun x => match x.1 with
    | .int i => some (.int (-i), x.2)
    | _ => none
  | .not_ a, env, S => (tst (ev Γ a env S)).map fun x => (.bl (!x.1), x.2)
  | .cmp o a b, env, S => (ev Γ a env S).bind fun x => (ev Γ b env x.2).bind fun y => cmpD o x.1 y.1 y.2
  | .chain o p a b c, env, S => (ev Γ a env S).bind fun x => (ev Γ b env x.2).bind fun y => (cmpD o x.1 y.1 y.2).bind fun z => match z.1 with
    | .bl true => (ev Γ c env z.2).bind fun u => cmpD p y.1 u.1 u.2
    | .bl false => some z
    | _ => none
  | .and_ a b, env, S => (ev Γ a env S).bind fun x => match x.1 with
    | .bl true => ev Γ b env x.2
    | .bl false => some x
    | _ => none
  | .or_ a b, env, S => (ev Γ a env S).bind fun x => match x.1 with
    | .bl false => ev Γ b env x.2
    | .bl true => some x
    | _ => none
  | .ite c a b, env, S => (tst (ev Γ c env S)).bind fun x => if x.1 = true then ev Γ a env x.2 else ev Γ b env x.2
  | .ix a b, env, S => (ev Γ a env S).bind fun x => (ev Γ b env x.2).bind fun y => ixD x.1 y.1 y.2
  | .sl bl bh a l h, env, S => (ev Γ a env S).bind fun x => (evP bl (ev Γ l env x.2) x.2).bind fun y => (evP bh (ev Γ h env y.2) y.2).bind fun z => slD x.1 y.1 z.1 z.2
  | .rev a, env, S => (ev Γ a env S).bind fun x => revD x.1 x.2
  | .tup es, env, S => (ev Γ es env S).bind fun x => (argsOf x.1).bind fun ds => if ds.length ≤ most then some (.tup ds, x.2) else none
  | .lst es, env, S => (ev Γ es env S).bind fun x => (argsOf x.1).bind fun ds => if ds.length ≤ most then some (alloc x.2 ds) else none
  | .nil, _, S => some (.tup [], S)
  | .cons e es, env, S => (ev Γ e env S).bind fun x => (ev Γ es env x.2).bind fun y => (argsOf y.1).map fun ds => (.tup (x.1 :: ds), y.2)
  | .call f es, env, S => (ev Γ es env S).bind fun x => (argsOf x.1).bind fun ds => Γ f ds x.2
  | .callK f es ks perm, env, S => (ev Γ es env S).bind fun x => (argsOf x.1).bind fun ds => (ev Γ ks env x.2).bind fun y => (argsOf y.1).bind fun zs => Γ f (permV perm (ds ++ zs)) y.2
  | .blt b es, env, S => (ev Γ es env S).bind fun x => (argsOf x.1).bind fun ds => bltD b ds x.2
  | .meth m o es, env, S => (ev Γ o env S).bind fun x => if isLst x.2 x.1 = true then (ev Γ es env x.2).bind fun y => (argsOf y.1).bind fun ds => methD m x.1 ds y.2 else none
  | .lc k es g ifs elt own, env, S => if gOk own g = true then (ev Γ es env S).bind fun x => (argsOf x.1).bind fun ds => (items k ds x.2).bind fun its =>
      (loopH (fun d S1 => (asgG g d (wipeD env own)).bind fun env1 => (tst (ev Γ ifs env1 S1)).bind fun t => if t.1 = true then (ev Γ elt env1 t.2).bind fun y => pushD x.2.length y.1 y.2 else some t.2)
        (fun S1 => items k ds S1 = some its) its (x.2 ++ [.lst []])).map fun S2 => (.ref x.2.length, S2)
    else none
noncomputable def ex (Γ : Fs) : Sx → Sl → Hd → Option (Out × Sl × Hd)
  | .skip, env, S => some (.nx, env, S)
  | .seq s t, env, S => (ex Γ s env S).bind fun r => match r.1 with
    | .nx => ex Γ t r.2.1 r.2.2
    | _ => some r
  | .asg g e, env, S => (ev Γ e env S).bind fun x => (asgG g x.1 env).map fun env1 => (.nx, env1, x.2)
  | .setix o i e, env, S => (ev Γ e env S).bind fun x => (ev Γ o env x.2).bind fun y => (ev Γ i env y.2).bind fun z => (setD y.1 z.1 x.1 z.2).map fun S1 => (.nx, env, S1)
  | .drop e, env, S => (ev Γ e env S).map fun x => (.nx, env, x.2)
  | .ret e, env, S => (ev Γ e env S).map fun x => (.ret x.1, env, x.2)
  | .retN, env, S => some (.ret .non, env, S)
  | .ite c s t, env, S => (tst (ev Γ c env S)).bind fun x => if x.1 = true then ex Γ s env x.2 else ex Γ t env x.2
  | .for_ k es g b, env, S => (ev Γ es env S).bind fun x => (argsOf x.1).bind fun ds => (items k ds x.2).bind fun its =>
      loopS (fun d env1 S1 => (asgG g d env1).bind fun env2 => ex Γ b env2 S1) (fun S1 => items k ds S1 = some its) its env x.2
  | .brk, env, S => some (.brk, env, S)
  | .cont, env, S => some (.cont, env, S)
  | .stuck, _, _ => none
  | .aug i o e, env, S => match env[i]? with
    | some (some (.int a)) => (ev Γ e env S).bind fun x => match o, x.1 with
      | .add, .int b => some (.nx, env.set i (some (.int (a + b))), x.2)
      | .sub, .int b => some (.nx, env.set i (some (.int (a - b))), x.2)
      | _, _ => none
    | _ => none
structure Fd where
  np : Nat
  m : Nat
  body : Sx
noncomputable def outD (r : Option (Out × Sl × Hd)) : Option (D × Hd) := r.bind fun r => match r.1 with
  | .ret d => some (d, r.2.2)
  | .nx => some (.non, r.2.2)
  | _ => none
noncomputable def runV (T : Nat → Option Fd) : Nat → Fs
  | 0, _, _, _ => none
  | n + 1, f, ds, S => (T f).bind fun F => if ds.length = F.np then outD (ex (runV T n) F.body (ds.map some ++ List.replicate (F.m - ds.length) none) S) else none
/-- the same, but never unfolded -/
noncomputable def run : (Nat → Option Fd) → Nat → Fs := Classical.choose (⟨runV, rfl⟩ : ∃ f, f = runV)
theorem run_eq : run = runV := Classical.choose_spec (⟨runV, rfl⟩ : ∃ f, f = runV)
theorem run_zero {T : Nat → Option Fd} {f : Nat} {ds : List D} {S : Hd} : run T 0 f ds S = none := by rw [run_eq]; rfl
theorem run_step {T : Nat → Option Fd} {n f : Nat} {ds : List D} {S : Hd} : run T (n + 1) f ds S = (T f).bind fun F => if ds.length = F.np then outD (ex (run T n) F.body (ds.map some ++ List.replicate (F.m - ds.length) none) S) else none := by rw [run_eq]; rfl
end Ix

namespace Ix
open PySem L2
section
variable (K : PySem.W.Frag) (Γ : Fs)
def tr (c : E) : TE := fun σ H Q => ∃ α env S d S', Ok K α S H ∧ En K α H env σ ∧ ev Γ c env S = some (d, S') ∧ ∀ α' H' v, Xt K α H α' H' → Ok K α' S' H' → Rp K α' H' d v → Q v H'
def trA (c : E) : TA := fun σ H Q => ∃ α env S ds S', Ok K α S H ∧ En K α H env σ ∧ ev Γ c env S = some (.tup ds, S') ∧ ∀ α' H' vs, Xt K α H α' H' → Ok K α' S' H' → Rps K α' H' ds vs → Q vs H'
def trT (c : E) : TT := fun σ H Q => ∃ α env S b S', Ok K α S H ∧ En K α H env σ ∧ tst (ev Γ c env S) = some (b, S') ∧ ∀ α' H', Xt K α H α' H' → Ok K α' S' H' → Q b H'
def trO (b : Bool) (c : E) : TO := fun σ H Q => ∃ α env S o S', Ok K α S H ∧ En K α H env σ ∧ evP b (ev Γ c env S) S = some (o, S') ∧ ∀ α' H', Xt K α H α' H' → Ok K α' S' H' → Q o H'
def endS (α' : List Addr) (H' : Hp) (env' : Sl) (D : Ends) : Out → Prop
  | .nx => ∀ σ', En K α' H' env' σ' → D.nx σ' H'
  | .brk => ∀ σ', En K α' H' env' σ' → D.bk σ' H'
  | .cont => ∀ σ', En K α' H' env' σ' → D.ct σ' H'
  | .ret d => ∀ v, Rp K α' H' d v → D.rt v H'
def trS (c : Sx) : TS := fun D σ H => ∃ α env S o env' S', Ok K α S H ∧ En K α H env σ ∧ ex Γ c env S = some (o, env', S') ∧ ∀ α' H', Xt K α H α' H' → Ok K α' S' H' → endS K α' H' env' D o
def trG (g : G) : TG := fun v σ H Q => ∃ α env d env', Rp K α H d v ∧ En K α H env σ ∧ asgG g d env = some env' ∧ ∀ σ', En K α H env' σ' → (∀ own, gOk own g = true → wipe σ' own = wipe σ own) → Q σ' H
def trGs (g : G) : TGs := fun vs σ H Q => ∃ α env ds env', Rps K α H ds vs ∧ En K α H env σ ∧ asgG g (.tup ds) env = some env' ∧ ∀ σ', En K α H env' σ' → (∀ own, gOk own g = true → wipe σ' own = wipe σ own) → Q σ' H
/-- two values in, by f; the arguments in -/
def rB (f : D → D → Hd → Option (D × Hd)) : R2 := fun x y H Q => ∃ α S d1 d2 d S', Ok K α S H ∧ Rp K α H d1 x ∧ Rp K α H d2 y ∧ f d1 d2 S = some (d, S') ∧ ∀ α' H' v, Xt K α H α' H' → Ok K α' S' H' → Rp K α' H' d v → Q v H'
def rA (f : List D → Hd → Option (D × Hd)) : List V → Hp → VK → Prop := fun vs H Q => ∃ α S ds d S', Ok K α S H ∧ Rps K α H ds vs ∧ f ds S = some (d, S') ∧ ∀ α' H' v, Xt K α H α' H' → Ok K α' S' H' → Rp K α' H' d v → Q v H'
def rM (f : D → List D → Hd → Option (D × Hd)) : V → List V → Hp → VK → Prop := fun x vs H Q => ∃ α S d1 ds d S', Ok K α S H ∧ Rp K α H d1 x ∧ Rps K α H ds vs ∧ f d1 ds S = some (d, S') ∧ ∀ α' H' v, Xt K α H α' H' → Ok K α' S' H' → Rp K α' H' d v → Q v H'
end
section
variable {K : PySem.W.Frag} {Γ : Fs} {α : List Addr} {S S' : Hd} {H : Hp} {d x y : D} {v u : V}
/-! ### reading values -/
theorem seq_of {xs : List D} (ok : Ok K α S H) (r : Rp K α H d v) (h : seqOf S d = some xs) : ∃ a vs, v = .ref a ∧ Rps K α H xs vs ∧ ((isTup d = true ∧ SqT K H a vs) ∨ (isTup d = false ∧ SqL K H a vs)) := by
  cases r with
  | tup h1 l q =>
    simp only [seqOf, Option.some.injEq] at h
    subst h
    exact ⟨_, _, rfl, ⟨l, q⟩, .inl ⟨rfl, h1⟩⟩
  | @ref k a e =>
    simp only [seqOf] at h
    split at h
    · rename_i ys e2
      simp only [Option.some.injEq] at h
      subst h
      obtain ⟨a', vs, e3, e4, e5, e6⟩ := ok.lst e2 (.ref e)
      cases e3
      exact ⟨a, vs, rfl, e6, .inr ⟨rfl, SqL.of e5⟩⟩
    · cases h
  | @ro ns a e =>
    simp only [seqOf, Option.some.injEq] at h
    subst h
    refine ⟨a, ns.map V.int, rfl, ⟨by simp, fun i x v h1 h2 => ?_⟩, .inr ⟨rfl, ?_⟩⟩
    · rw [List.getElem?_map] at h1 h2
      cases q : ns[i]? with
      | none =>
        rw [q] at h1
        cases h1
      | some z =>
        rw [q] at h1 h2
        cases h1
        cases h2
        exact .int z
    · rcases e with ⟨o, e⟩ | e
      · exact .inl (.inr ⟨o, e⟩)
      · exact .inr e
  | _ => simp [seqOf] at h
theorem Rps.empty {xs : List D} {vs : List V} (h : Rps K α H xs vs) : vs.isEmpty = xs.isEmpty := by
  cases xs <;> cases vs <;> first | rfl | (have := h.len; simp at this)
theorem tru_of {b : Bool} (ok : Ok K α S H) (r : Rp K α H d v) (h : tru S d = some b) : TruV K v H b := by
  have go : ∀ {e : D}, Rp K α H e v → ((seqOf S e).map fun xs => !xs.isEmpty) = some b → TruV K v H b := fun {e} r h => by
    cases q : seqOf S e with
    | none => rw [q] at h; cases h
    | some xs =>
      rw [q] at h
      have h : (!xs.isEmpty) = b := by simpa using h
      obtain ⟨a, vs, rfl, rs, z⟩ := seq_of ok r q
      rcases z with ⟨_, z⟩ | ⟨_, z⟩
      · exact .inr (.inl ⟨vs, z, by rw [rs.empty, h]⟩)
      · exact .inl ⟨vs, z, by rw [rs.empty, h]⟩
  cases d with
  | non => cases r; simp only [tru, Option.some.injEq] at h; exact h.symm
  | bl c => cases r; simp only [tru, Option.some.injEq] at h; exact h.symm
  | int i => cases r; simp only [tru, Option.some.injEq] at h; exact h.symm
  | str z => simp [tru] at h
  | ty z => simp [tru] at h
  | ref k => exact go r (by simpa [tru] using h)
  | tup xs => exact go r (by simpa [tru] using h)
  | ro xs => exact go r (by simpa [tru] using h)
theorem flat_of (r : Rp K α H d v) (h : flat d = true) : flatV v = true := by
  cases r <;> first | rfl | cases h
theorem flats_of {xs : List D} {vs : List V} (r : Rps K α H xs vs) (h : xs.all flat = true) : vs.all flatV = true := by
  rw [List.all_eq_true] at h ⊢
  intro w hw
  obtain ⟨i, hi⟩ := List.getElem?_of_mem hw
  obtain ⟨z, e, q⟩ := r.getV hi
  exact flat_of q (h z (List.mem_of_getElem? e))
theorem eqF_of (rx : Rp K α H x v) (ry : Rp K α H y u) (fx : flat x = true) (fy : flat y = true) : eqV v u = eqF x y := by
  cases rx <;> cases ry <;> first | rfl | (simp [flat] at fx fy)
theorem any_of {xs : List D} (rx : Rp K α H x v) (fx : flat x = true) : ∀ {xs : List D} {vs : List V}, Rps K α H xs vs → xs.all flat = true → inV v vs = xs.any fun z => eqF z x
  | [], vs, r, _ => by
    rw [r.unnil]
    rfl
  | z :: xs, vs, r, f => by
    obtain ⟨w, ws, rfl, r1, r2⟩ := r.uncons
    rw [List.all_cons, Bool.and_eq_true] at f
    have := any_of (xs := xs) rx fx r2 f.2
    unfold inV at this ⊢
    rw [List.any_cons, List.any_cons, this, eqF_of r1 rx f.1 fx]
theorem scal_of {b : Bool} (rx : Rp K α H x v) (ry : Rp K α H y u) (h : scalD x y = some b) : scal v u = true ∧ decide (v = u) = b := by
  cases rx <;> cases ry <;> simp [scalD] at h <;> (try subst h) <;> simp [scal]
theorem non_of (rx : Rp K α H x v) : decide (v = .non) = isNon x := by
  cases rx <;> simp [isNon]
theorem at_of {β : Type} {xs : List D} {vs : List V} {i : Int} (r : Rps K α H xs vs) (h : atI xs i = some d) : ∃ w, atI vs i = some w ∧ Rp K α H d w := by
  unfold atI at h ⊢
  rw [r.len]
  cases q : ixN xs.length i with
  | none => rw [q] at h; cases h
  | some j =>
    rw [q] at h
    exact r.get h
theorem cut_of {xs : List D} {vs : List V} (r : Rps K α H xs vs) (lo hi : Option Int) : Rps K α H (cutD xs lo hi) (cutV vs lo hi) := by
  unfold cutD cutV
  rw [r.len]
  exact (r.drop _).take _
theorem Rp.newT {p : Addr} {vs : List V} {xs : List D} (hp : H p = none) (r : Rps K α H xs vs) : Rp K α (upd H p (.tup vs)) (.tup xs) (.ref p) := .tup (SqT.of upd_same) r.len (r.mono (Xt.fresh hp)).at_
/-- a new list -/
theorem go_new {Q : VK} {p : Addr} {vs : List V} {xs : List D} (ok : Ok K α S H) (hp : H p = none) (r : Rps K α H xs vs)
    (k : ∀ α' H' v, Xt K α H α' H' → Ok K α' (S ++ [.lst xs]) H' → Rp K α' H' (.ref S.length) v → Q v H') : Q (.ref p) (upd H p (.lst vs)) :=
  k (α ++ [p]) _ _ (Xt.snoc hp) (ok.snoc hp (o := .lst xs) (u := .lst vs) r) (Rp.snoc ok.len)
/-- a new tuple -/
theorem go_tup {Q : VK} {p : Addr} {vs : List V} {xs : List D} (ok : Ok K α S H) (hp : H p = none) (r : Rps K α H xs vs)
    (k : ∀ α' H' v, Xt K α H α' H' → Ok K α' S H' → Rp K α' H' (.tup xs) v → Q v H') : Q (.ref p) (upd H p (.tup vs)) :=
  k α _ _ (Xt.fresh hp) (ok.fresh hp) (Rp.newT hp r)
end
theorem most_line {n : Nat} (h : n ≤ most) : n ≤ sizeLine := Nat.le_trans h (by decide)
theorem most_lt {n : Nat} (h : n < most) : n < sizeLine := Nat.lt_of_lt_of_le h (by decide)

/-! ### weakening -/
section
variable {X : Cx} {e : Expr} {es : List Expr} {st : Stmt} {sts : List Stmt}
theorem pe_w {t t' : TE} (h : PE X e t) (w : ∀ σ H Q, t' σ H Q → t σ H Q) : PE X e t' := ⟨fun pins s σ H Q I q => h.run pins s σ H Q I (w σ H Q q)⟩
theorem pt_w {t t' : TT} (h : PT X e t) (w : ∀ σ H Q, t' σ H Q → t σ H Q) : PT X e t' := ⟨fun pins s σ H Q I q => h.run pins s σ H Q I (w σ H Q q)⟩
theorem pw_w {t t' : TT} (h : PW X e t) (w : ∀ σ H Q, t' σ H Q → t σ H Q) : PW X e t' := ⟨fun wh pins s σ H Q I q => h.run wh pins s σ H Q I (w σ H Q q)⟩
theorem pa_w {t t' : TA} (h : PA X es t) (w : ∀ σ H Q, t' σ H Q → t σ H Q) : PA X es t' := ⟨fun pos pins s σ H Q I q => h.run pos pins s σ H Q I (w σ H Q q)⟩
theorem ps_w {t t' : TS} (h : PS X st t) (w : ∀ D σ H, t' D σ H → t D σ H) : PS X st t' := ⟨fun pins s σ H D I q => h.run pins s σ H D I (w D σ H q)⟩
theorem pss_w {t t' : TS} (h : PSs X sts t) (w : ∀ D σ H, t' D σ H → t D σ H) : PSs X sts t' := ⟨fun pins s σ H D I q => h.run pins s σ H D I (w D σ H q)⟩
theorem pg_w {g t' : TG} (h : PG X e g) (w : ∀ v σ H Q, t' v σ H Q → g v σ H Q) : PG X e t' := ⟨fun pins s σ H v u Q I r q => h.run pins s σ H v u Q I r (w v σ H Q q)⟩
end

/-! ### the operations -/
section
variable {X : Cx}
theorem o_add : OpR X (binaryOp .Add) (rB X.K (binD .add)) := by
  intro pins s σ H x y v u Q I rx ry ⟨α, S, d1, d2, d, S', ok, r1, r2, e, k⟩
  cases d1 with
  | int i =>
    cases d2 with
    | int j =>
      simp only [binD, Option.some.injEq, Prod.mk.injEq] at e
      obtain ⟨rfl, rfl⟩ := e
      cases r1
      cases r2
      exact op_add pins s σ H _ _ v u Q I rx ry ⟨i, j, rfl, rfl, k α H _ Xt.refl ok (.int _)⟩
    | _ => simp [binD] at e
  | str i =>
    cases d2 with
    | str j =>
      simp only [binD] at e
      split at e
      · simp only [Option.some.injEq, Prod.mk.injEq] at e
        obtain ⟨rfl, rfl⟩ := e
        cases r1
        cases r2
        exact op_add_str pins s σ H _ _ v u Q I rx ry ⟨i, j, rfl, rfl, most_line (by assumption), k α H _ Xt.refl ok (.str _)⟩
      · cases e
    | _ => simp [binD] at e
  | tup xs =>
    cases d2 with
    | tup ys =>
      simp only [binD] at e
      split at e
      · rename_i hz
        simp only [Option.some.injEq, Prod.mk.injEq] at e
        obtain ⟨rfl, rfl⟩ := e
        cases r1 with
        | tup h1 l1 q1 =>
          cases r2 with
          | tup h2 l2 q2 =>
            rename_i a va b vb
            refine op_catA pins s σ H _ _ v u Q I rx ry ⟨a, b, va, vb, rfl, rfl, h1, h2, most_line (by omega), fun z => ?_, fun z z2 => ?_, fun z z2 p hp => ?_⟩
            · subst z
              have : xs = [] := by cases xs with
                | nil => rfl
                | cons _ _ => simp at l1
              subst this
              exact k α H _ Xt.refl ok (.tup h2 l2 q2)
            · subst z2
              have : ys = [] := by cases ys with
                | nil => rfl
                | cons _ _ => simp at l2
              subst this
              rw [List.append_nil] at k
              exact k α H _ Xt.refl ok (.tup h1 l1 q1)
            · exact go_tup ok hp (Rps.append ⟨l1, q1⟩ ⟨l2, q2⟩) k
      · cases e
    | _ => simp [binD] at e
  | ref a =>
    cases d2 with
    | ref b =>
      simp only [binD] at e
      split at e
      · rename_i xs ys e1 e2
        split at e
        · rename_i hz
          simp only [alloc, Option.some.injEq, Prod.mk.injEq] at e
          obtain ⟨rfl, rfl⟩ := e
          obtain ⟨a1, v1, rfl, _, h1, q1⟩ := ok.lst e1 r1
          obtain ⟨a2, v2, rfl, _, h2, q2⟩ := ok.lst e2 r2
          exact op_cat pins s σ H _ _ v u Q I rx ry ⟨a1, a2, v1, v2, rfl, rfl, h1, h2, most_line (by rw [q1.len, q2.len]; exact hz), fun p hp => go_new ok hp (q1.append q2) k⟩
        · cases e
      · cases e
    | _ => simp [binD] at e
  | _ => cases d2 <;> simp [binD] at e
theorem o_sub : OpR X (binaryOp .Sub) (rB X.K (binD .sub)) := by
  intro pins s σ H x y v u Q I rx ry ⟨α, S, d1, d2, d, S', ok, r1, r2, e, k⟩
  cases d1 <;> cases d2 <;> simp [binD] at e
  obtain ⟨rfl, rfl⟩ := e
  cases r1
  cases r2
  exact op_sub pins s σ H _ _ v u Q I rx ry ⟨_, _, rfl, rfl, k α H _ Xt.refl ok (.int _)⟩
theorem o_fdiv : OpR X (binaryOp .FloorDiv) (rB X.K (binD .fdiv)) := by
  intro pins s σ H x y v u Q I rx ry ⟨α, S, d1, d2, d, S', ok, r1, r2, e, k⟩
  cases d1 <;> cases d2 <;> simp [binD] at e
  obtain ⟨h, rfl, rfl⟩ := e
  cases r1
  cases r2
  exact op_fdivW pins s σ H _ _ v u Q I rx ry ⟨_, _, rfl, rfl, h, k α H _ Xt.refl ok (.int _)⟩
theorem o_mod : OpR X (binaryOp .Mod) (rB X.K (binD .mod)) := by
  intro pins s σ H x y v u Q I rx ry ⟨α, S, d1, d2, d, S', ok, r1, r2, e, k⟩
  cases d1 <;> cases d2 <;> simp [binD] at e
  obtain ⟨h, rfl, rfl⟩ := e
  cases r1
  cases r2
  exact op_mod pins s σ H _ _ v u Q I rx ry ⟨_, _, rfl, rfl, h, k α H _ Xt.refl ok (.int _)⟩
theorem o_pow : OpR X (binaryOp .Pow) (rB X.K (binD .pow)) := by
  intro pins s σ H x y v u Q I rx ry ⟨α, S, d1, d2, d, S', ok, r1, r2, e, k⟩
  cases d1 with
  | int i =>
    cases d2 with
    | int j =>
      simp only [binD] at e
      split at e
      · rename_i h
        simp only [Option.some.injEq, Prod.mk.injEq] at e
        obtain ⟨rfl, rfl⟩ := e
        cases r1
        cases r2
        exact op_pow pins s σ H _ _ v u Q I rx ry ⟨i, j, rfl, rfl, h, k α H _ Xt.refl ok (.int _)⟩
      · cases e
    | _ => simp [binD] at e
  | _ => cases d2 <;> simp [binD] at e
theorem flat_rep {K : PySem.W.Frag} {α : List Addr} {H : Hp} {xs : List D} {vs : List V} (r : Rps K α H xs vs) : ∀ n : Nat, Rps K α H (List.replicate n xs).flatten (List.replicate n vs).flatten
  | 0 => .nil
  | n + 1 => by
    rw [List.replicate_succ, List.replicate_succ, List.flatten_cons, List.flatten_cons]
    exact r.append (flat_rep r n)
theorem o_mul : OpR X (binaryOp .Mult) (rB X.K (binD .mul)) := by
  intro pins s σ H x y v u Q I rx ry ⟨α, S, d1, d2, d, S', ok, r1, r2, e, k⟩
  cases d1 with
  | int i =>
    cases d2 with
    | int j =>
      simp only [binD] at e
      split at e
      · rename_i h
        simp only [Option.some.injEq, Prod.mk.injEq] at e
        obtain ⟨rfl, rfl⟩ := e
        cases r1
        cases r2
        exact op_mulW pins s σ H _ _ v u Q I rx ry ⟨i, j, rfl, rfl, h, k α H _ Xt.refl ok (.int _)⟩
      · cases e
    | _ => simp [binD] at e
  | ref a =>
    cases d2 with
    | int j =>
      simp only [binD] at e
      split at e
      · rename_i xs e1
        split at e
        · rename_i hz
          simp only [alloc, Option.some.injEq, Prod.mk.injEq] at e
          obtain ⟨rfl, rfl⟩ := e
          obtain ⟨a1, v1, rfl, _, h1, q1⟩ := ok.lst e1 r1
          cases r2
          exact op_rep pins s σ H _ _ v u Q I rx ry ⟨a1, j, v1, rfl, rfl, h1, hz.1, hz.2.1, most_line (by rw [q1.len]; exact hz.2.2), fun p hp => go_new ok hp (flat_rep q1 _) k⟩
        · cases e
      · cases e
    | _ => simp [binD] at e
  | _ => cases d2 <;> simp [binD] at e
theorem c_eq : OpR X (compareOp .Eq) (rB X.K (cmpD .eq)) := by
  intro pins s σ H x y v u Q I rx ry ⟨α, S, d1, d2, d, S', ok, r1, r2, e, k⟩
  simp only [cmpD, Option.map_eq_some_iff, Prod.mk.injEq] at e
  obtain ⟨b, h, rfl, rfl⟩ := e
  obtain ⟨h1, h2⟩ := scal_of r1 r2 h
  exact op_eq pins s σ H _ _ v u Q I rx ry ⟨h1, k α H _ Xt.refl ok (by rw [h2]; exact .bl _)⟩
theorem c_ne : OpR X (compareOp .NotEq) (rB X.K (cmpD .ne)) := by
  intro pins s σ H x y v u Q I rx ry ⟨α, S, d1, d2, d, S', ok, r1, r2, e, k⟩
  simp only [cmpD, Option.map_eq_some_iff, Prod.mk.injEq] at e
  obtain ⟨b, h, rfl, rfl⟩ := e
  obtain ⟨h1, h2⟩ := scal_of r1 r2 h
  exact op_ne pins s σ H _ _ v u Q I rx ry ⟨h1, k α H _ Xt.refl ok (by rw [h2]; exact .bl _)⟩
theorem c_lt : OpR X (compareOp .Lt) (rB X.K (cmpD .lt)) := by
  intro pins s σ H x y v u Q I rx ry ⟨α, S, d1, d2, d, S', ok, r1, r2, e, k⟩
  cases d1 <;> cases d2 <;> simp [cmpD] at e
  obtain ⟨rfl, rfl⟩ := e
  cases r1
  cases r2
  exact op_lt pins s σ H _ _ v u Q I rx ry ⟨_, _, rfl, rfl, k α H _ Xt.refl ok (.bl _)⟩
theorem c_le : OpR X (compareOp .LtE) (rB X.K (cmpD .le)) := by
  intro pins s σ H x y v u Q I rx ry ⟨α, S, d1, d2, d, S', ok, r1, r2, e, k⟩
  cases d1 <;> cases d2 <;> simp [cmpD] at e
  obtain ⟨rfl, rfl⟩ := e
  cases r1
  cases r2
  exact op_le pins s σ H _ _ v u Q I rx ry ⟨_, _, rfl, rfl, k α H _ Xt.refl ok (.bl _)⟩
theorem c_gt : OpR X (compareOp .Gt) (rB X.K (cmpD .gt)) := by
  intro pins s σ H x y v u Q I rx ry ⟨α, S, d1, d2, d, S', ok, r1, r2, e, k⟩
  cases d1 <;> cases d2 <;> simp [cmpD] at e
  obtain ⟨rfl, rfl⟩ := e
  cases r1
  cases r2
  exact op_gt pins s σ H _ _ v u Q I rx ry ⟨_, _, rfl, rfl, k α H _ Xt.refl ok (.bl _)⟩
theorem c_ge : OpR X (compareOp .GtE) (rB X.K (cmpD .ge)) := by
  intro pins s σ H x y v u Q I rx ry ⟨α, S, d1, d2, d, S', ok, r1, r2, e, k⟩
  cases d1 <;> cases d2 <;> simp [cmpD] at e
  obtain ⟨rfl, rfl⟩ := e
  cases r1
  cases r2
  exact op_ge pins s σ H _ _ v u Q I rx ry ⟨_, _, rfl, rfl, k α H _ Xt.refl ok (.bl _)⟩
theorem c_is : OpR X (compareOp .Is) (rB X.K (cmpD .is_)) := by
  intro pins s σ H x y v u Q I rx ry ⟨α, S, d1, d2, d, S', ok, r1, r2, e, k⟩
  cases d2 <;> simp [cmpD] at e
  obtain ⟨rfl, rfl⟩ := e
  cases r2
  exact op_isN pins s σ H _ _ v u Q I rx ry ⟨rfl, k α H _ Xt.refl ok (by rw [non_of r1]; exact .bl _)⟩
theorem c_isnot : OpR X (compareOp .IsNot) (rB X.K (cmpD .isnot)) := by
  intro pins s σ H x y v u Q I rx ry ⟨α, S, d1, d2, d, S', ok, r1, r2, e, k⟩
  cases d2 <;> simp [cmpD] at e
  obtain ⟨rfl, rfl⟩ := e
  cases r2
  exact op_notN pins s σ H _ _ v u Q I rx ry ⟨rfl, k α H _ Xt.refl ok (by rw [non_of r1]; exact .bl _)⟩
theorem c_in : OpR X (compareOp .In) (rB X.K (cmpD .in_)) := by
  intro pins s σ H x y v u Q I rx ry ⟨α, S, d1, d2, d, S', ok, r1, r2, e, k⟩
  simp only [cmpD] at e
  split at e
  · rename_i f
    rw [Option.bind_eq_some_iff] at e
    obtain ⟨xs, h1, e⟩ := e
    split at e
    · rename_i g
      simp only [Option.some.injEq, Prod.mk.injEq] at e
      obtain ⟨rfl, rfl⟩ := e
      obtain ⟨a, vs, rfl, rs, z⟩ := seq_of ok r2 h1
      refine op_in_seq pins s σ H _ _ v u Q I rx ry ⟨a, vs, rfl, z.elim (fun z => .inr z.2) fun z => .inl z.2, flat_of r1 f, flats_of rs g, ?_⟩
      rw [any_of (xs := xs) r1 f rs g]
      exact k α H _ Xt.refl ok (.bl _)
    · cases e
  · cases e
theorem c_notin : OpR X (compareOp .NotIn) (rB X.K (cmpD .notin)) := by
  intro pins s σ H x y v u Q I rx ry ⟨α, S, d1, d2, d, S', ok, r1, r2, e, k⟩
  simp only [cmpD] at e
  split at e
  · rename_i f
    rw [Option.bind_eq_some_iff] at e
    obtain ⟨xs, h1, e⟩ := e
    split at e
    · rename_i g
      simp only [Option.some.injEq, Prod.mk.injEq] at e
      obtain ⟨rfl, rfl⟩ := e
      obtain ⟨a, vs, rfl, rs, z⟩ := seq_of ok r2 h1
      refine op_notIn_seq pins s σ H _ _ v u Q I rx ry ⟨a, vs, rfl, z.elim (fun z => .inr z.2) fun z => .inl z.2, flat_of r1 f, flats_of rs g, ?_⟩
      rw [any_of (xs := xs) r1 f rs g]
      exact k α H _ Xt.refl ok (.bl _)
    · cases e
  · cases e
theorem i_ix : IxR X (rB X.K ixD) := by
  intro value slice pins s σ H x y v u Q I rx ry ⟨α, S, d1, d2, d, S', ok, r1, r2, e, k⟩ hs
  cases d2 with
  | int i =>
    simp only [ixD, Option.bind_eq_some_iff, Option.map_eq_some_iff, Prod.mk.injEq] at e
    obtain ⟨xs, h1, d, h2, rfl, rfl⟩ := e
    cases r2
    obtain ⟨a, vs, rfl, rs, z⟩ := seq_of ok r1 h1
    obtain ⟨w, h3, r3⟩ := at_of (β := Unit) rs h2
    rcases z with ⟨_, z⟩ | ⟨_, z⟩
    · exact ix_tup value slice pins s σ H _ _ v u Q I rx ry ⟨a, vs, i, w, rfl, rfl, z, h3, k α H _ Xt.refl ok r3⟩ hs
    · exact ix_list value slice pins s σ H _ _ v u Q I rx ry ⟨a, vs, i, w, rfl, rfl, z, h3, k α H _ Xt.refl ok r3⟩ hs
  | _ => simp [ixD] at e
end
end Ix

namespace Ix
open PySem L2
/-! ### the words of the text, one by one: expressions -/
def opOf : Bo → Operator
  | .add => .Add | .sub => .Sub | .mul => .Mult | .fdiv => .FloorDiv | .mod => .Mod | .pow => .Pow
def coOf : Co → CmpOp
  | .eq => .Eq | .ne => .NotEq | .lt => .Lt | .le => .LtE | .gt => .Gt | .ge => .GtE | .is_ => .Is | .isnot => .IsNot | .in_ => .In | .notin => .NotIn
section
variable {X : Cx} {Γ : Fs}
theorem o_of : ∀ o : Bo, OpR X (binaryOp (opOf o)) (rB X.K (binD o))
  | .add => o_add | .sub => o_sub | .mul => o_mul | .fdiv => o_fdiv | .mod => o_mod | .pow => o_pow
theorem c_of : ∀ o : Co, OpR X (compareOp (coOf o)) (rB X.K (cmpD o))
  | .eq => c_eq | .ne => c_ne | .lt => c_lt | .le => c_le | .gt => c_gt | .ge => c_ge | .is_ => c_is | .isnot => c_isnot | .in_ => c_in | .notin => c_notin
section
variable {K : PySem.W.Frag} {f : D → D → Hd → Option (D × Hd)} {c a b : E} {σ : L2.St} {H : Hp} {Q : VK}
theorem w_bin (hev : ∀ env S, ev Γ c env S = (ev Γ a env S).bind fun x => (ev Γ b env x.2).bind fun y => f x.1 y.1 y.2) (h : tr K Γ c σ H Q) : tOp (rB K f) (tr K Γ a) (tr K Γ b) σ H Q := by
  obtain ⟨α, env, S, d, S', ok, en, e, k⟩ := h
  rw [hev] at e
  simp only [Option.bind_eq_some_iff] at e
  obtain ⟨⟨d1, S1⟩, e1, ⟨d2, S2⟩, e2, e3⟩ := e
  exact ⟨α, env, S, d1, S1, ok, en, e1, fun α1 H1 v1 x1 ok1 r1 => ⟨α1, env, S1, d2, S2, ok1, en.mono x1, e2, fun α2 H2 v2 x2 ok2 r2 =>
    ⟨α2, S2, d1, d2, d, S', ok2, r1.mono x2, r2, e3, fun α3 H3 v x3 ok3 r => k α3 H3 v (x1.trans (x2.trans x3)) ok3 r⟩⟩⟩
end
variable {a b c e : Expr} {es rest : List Expr} {ca cb cc ce cs : E} {pos : Pos}
theorem xe_var (i : Nat) {x : Str} (hN : X.N[i]? = some x := by rfl) (hv : Vis X.env.scope x := by first | exact Or.inl rfl | exact Or.inr (Or.inl rfl) | exact Or.inr (Or.inr rfl)) (hd : (x == ("__debug__" : Str)) = false := by decide)
    (hcd : (x == ("__classdict__" : Str)) = false := by decide) : PE X (.Name x pos) (tr X.K Γ (.var i)) :=
  pe_w (pe_var hN hv hd hcd) fun σ H Q ⟨α, env, S, d, S', ok, en, e, k⟩ => by
    simp only [ev] at e
    split at e
    · rename_i d' e2
      simp only [Option.some.injEq, Prod.mk.injEq] at e
      obtain ⟨rfl, rfl⟩ := e
      obtain ⟨v, h1, r⟩ := en.at_ i _ e2
      exact ⟨v, h1, k α H v Xt.refl ok r⟩
    · cases e
theorem xe_k {d : D} {v : V} (h : PE X e (tC v)) (r : ∀ α H, Rp X.K α H d v) : PE X e (tr X.K Γ (.c d)) :=
  pe_w h fun σ H Q ⟨α, env, S, d', S', ok, en, e, k⟩ => by
    simp only [ev, Option.some.injEq, Prod.mk.injEq] at e
    obtain ⟨rfl, rfl⟩ := e
    exact k α H v Xt.refl ok (r α H)
theorem xe_int {i : Int} {j : Nat} : PE X (.Constant (.int i) j pos) (tr X.K Γ (.c (.int i))) := xe_k pe_int fun _ _ => .int i
theorem xe_bl {b : Bool} {j : Nat} : PE X (.Constant (.bool b) j pos) (tr X.K Γ (.c (.bl b))) := xe_k pe_bl fun _ _ => .bl b
theorem xe_non {j : Nat} : PE X (.Constant .none j pos) (tr X.K Γ (.c .non)) := xe_k pe_non fun _ _ => .non
theorem xe_str {x : Str} {j : Nat} : PE X (.Constant (.str x) j pos) (tr X.K Γ (.c (.str x))) := xe_k pe_str fun _ _ => .str x
theorem xe_ty {x : Str} {n : String} (hg : Gl X x) (hm : X.mg x = none) (hv : bootBuiltins x = some (.type n)) (hn : x ≠ "__name__" := by decide) (hd : (x == ("__debug__" : Str)) = false := by decide) : PE X (.Name x pos) (tr X.K Γ (.c (.ty n))) :=
  xe_k (v := .ty n) (pe_bltn hg hm hv (rfl : RelV (.ty n) (.type n)) hn hd) fun _ _ => .ty n
theorem xe_glob {x : Str} {d : D} {v : V} {u : Value} (hg : Gl X x) (hm : X.mg x = some u) (r : RelV v u) (h : ∀ α H, Rp X.K α H d v) (hd : (x == ("__debug__" : Str)) = false := by decide) : PE X (.Name x pos) (tr X.K Γ (.c d)) := xe_k (pe_glob hg hm r hd) h
theorem xe_bin (o : Bo) (ha : PE X a (tr X.K Γ ca)) (hb : PE X b (tr X.K Γ cb)) : PE X (.BinOp a (opOf o) b pos) (tr X.K Γ (.bin o ca cb)) :=
  pe_w (pe_op (o_of o) ha hb) fun σ H Q h => w_bin (fun _ _ => rfl) h
theorem xe_cmp (o : Co) (ha : PE X a (tr X.K Γ ca)) (hb : PE X b (tr X.K Γ cb)) (hm : behindInMarks (coOf o) b = false) : PE X (.Compare a [coOf o] [b] pos) (tr X.K Γ (.cmp o ca cb)) :=
  pe_w (pe_cmpR (c_of o) ha hb hm) fun σ H Q h => w_bin (fun _ _ => rfl) h
theorem xe_ix (ha : PE X a (tr X.K Γ ca)) (hb : PE X b (tr X.K Γ cb)) (hs : PlainIx b) : PE X (.Subscript a b pos) (tr X.K Γ (.ix ca cb)) :=
  pe_w (pe_ix i_ix ha hb hs) fun σ H Q h => w_bin (fun _ _ => rfl) h
theorem xe_neg (ha : PE X a (tr X.K Γ ca)) : PE X (.UnaryOp .USub a pos) (tr X.K Γ (.neg ca)) :=
  pe_w (pe_un un_neg ha) fun σ H Q ⟨α, env, S, d, S', ok, en, e, k⟩ => by
    simp only [ev, Option.bind_eq_some_iff] at e
    obtain ⟨⟨d1, S1⟩, e1, e2⟩ := e
    refine ⟨α, env, S, d1, S1, ok, en, e1, fun α1 H1 v1 x1 ok1 r1 => ?_⟩
    cases d1 with
    | int i =>
      simp only [Option.some.injEq, Prod.mk.injEq] at e2
      obtain ⟨rfl, rfl⟩ := e2
      cases r1
      exact ⟨i, rfl, k α1 H1 _ x1 ok1 (.int _)⟩
    | _ => cases e2
theorem tst_some {r : Option (D × Hd)} {b : Bool} {S : Hd} (h : tst r = some (b, S)) : ∃ d, r = some (d, S) ∧ tru S d = some b := by
  unfold tst at h
  simp only [Option.bind_eq_some_iff, Option.map_eq_some_iff, Prod.mk.injEq] at h
  obtain ⟨⟨d, S1⟩, e1, b', e2, rfl, rfl⟩ := h
  exact ⟨d, e1, e2⟩
theorem tst_of {r : Option (D × Hd)} {b : Bool} {S : Hd} {d : D} (h1 : r = some (d, S)) (h2 : tru S d = some b) : tst r = some (b, S) := by
  unfold tst
  rw [h1]
  simp [h2]
theorem xe_not (ha : PE X a (tr X.K Γ ca)) : PE X (.UnaryOp .Not a pos) (tr X.K Γ (.not_ ca)) :=
  pe_w (pe_notT ha) fun σ H Q ⟨α, env, S, d, S', ok, en, e, k⟩ => by
    simp only [ev, Option.map_eq_some_iff, Prod.mk.injEq] at e
    obtain ⟨⟨b, S1⟩, e1, rfl, rfl⟩ := e
    obtain ⟨d1, e2, e3⟩ := tst_some e1
    exact ⟨α, env, S, d1, S1, ok, en, e2, fun α1 H1 v1 x1 ok1 r1 => ⟨b, tru_of ok1 r1 e3, k α1 H1 _ x1 ok1 (.bl _)⟩⟩
theorem xe_one {op} (ha : PE X a (tr X.K Γ ca)) : PE X (.BoolOp op [a] pos) (tr X.K Γ ca) := pe_one ha
theorem xe_and (ha : PE X a (tr X.K Γ ca)) (hb : PE X (.BoolOp .And (b :: rest) pos) (tr X.K Γ cb)) : PE X (.BoolOp .And (a :: b :: rest) pos) (tr X.K Γ (.and_ ca cb)) :=
  pe_w (pe_and ha hb) fun σ H Q ⟨α, env, S, d, S', ok, en, e, k⟩ => by
    simp only [ev, Option.bind_eq_some_iff] at e
    obtain ⟨⟨d1, S1⟩, e1, e2⟩ := e
    refine ⟨α, env, S, d1, S1, ok, en, e1, fun α1 H1 v1 x1 ok1 r1 => ?_⟩
    cases d1 with
    | bl i =>
      cases r1
      refine ⟨i, rfl, ?_⟩
      cases i with
      | true => exact ⟨α1, env, S1, d, S', ok1, en.mono x1, e2, fun α2 H2 v2 x2 ok2 r2 => k α2 H2 v2 (x1.trans x2) ok2 r2⟩
      | false =>
        simp only [Option.some.injEq, Prod.mk.injEq] at e2
        obtain ⟨rfl, rfl⟩ := e2
        exact k α1 H1 _ x1 ok1 (.bl _)
    | _ => cases e2
theorem xe_or (ha : PE X a (tr X.K Γ ca)) (hb : PE X (.BoolOp .Or (b :: rest) pos) (tr X.K Γ cb)) : PE X (.BoolOp .Or (a :: b :: rest) pos) (tr X.K Γ (.or_ ca cb)) :=
  pe_w (pe_or ha hb) fun σ H Q ⟨α, env, S, d, S', ok, en, e, k⟩ => by
    simp only [ev, Option.bind_eq_some_iff] at e
    obtain ⟨⟨d1, S1⟩, e1, e2⟩ := e
    refine ⟨α, env, S, d1, S1, ok, en, e1, fun α1 H1 v1 x1 ok1 r1 => ?_⟩
    cases d1 with
    | bl i =>
      cases r1
      refine ⟨i, rfl, ?_⟩
      cases i with
      | false => exact ⟨α1, env, S1, d, S', ok1, en.mono x1, e2, fun α2 H2 v2 x2 ok2 r2 => k α2 H2 v2 (x1.trans x2) ok2 r2⟩
      | true =>
        simp only [Option.some.injEq, Prod.mk.injEq] at e2
        obtain ⟨rfl, rfl⟩ := e2
        exact k α1 H1 _ x1 ok1 (.bl _)
    | _ => cases e2
theorem xe_ite {c : Expr} (hc : PT X c (trT X.K Γ cc)) (ha : PE X a (tr X.K Γ ca)) (hb : PE X b (tr X.K Γ cb)) : PE X (.IfExp c a b pos) (tr X.K Γ (.ite cc ca cb)) :=
  pe_w (pe_ifExp hc ha hb) fun σ H Q ⟨α, env, S, d, S', ok, en, e, k⟩ => by
    simp only [ev, Option.bind_eq_some_iff] at e
    obtain ⟨⟨t, S1⟩, e1, e2⟩ := e
    refine ⟨α, env, S, t, S1, ok, en, e1, fun α1 H1 x1 ok1 => ?_⟩
    cases t with
    | true =>
      rw [if_pos rfl] at e2 ⊢
      exact ⟨α1, env, S1, d, S', ok1, en.mono x1, e2, fun α2 H2 v2 x2 ok2 r2 => k α2 H2 v2 (x1.trans x2) ok2 r2⟩
    | false =>
      rw [if_neg Bool.false_ne_true] at e2 ⊢
      exact ⟨α1, env, S1, d, S', ok1, en.mono x1, e2, fun α2 H2 v2 x2 ok2 r2 => k α2 H2 v2 (x1.trans x2) ok2 r2⟩
theorem w_chain {o p : Co} {σ : L2.St} {H : Hp} {Q : VK} (h : tr X.K Γ (.chain o p ca cb cc) σ H Q) : tChain (rB X.K (cmpD o)) (rB X.K (cmpD p)) (tr X.K Γ ca) (tr X.K Γ cb) (tr X.K Γ cc) σ H Q := by
  obtain ⟨α, env, S, d, S', ok, en, e, k⟩ := h
  simp only [ev, Option.bind_eq_some_iff] at e
  obtain ⟨⟨d1, S1⟩, e1, ⟨d2, S2⟩, e2, ⟨d3, S3⟩, e3, e4⟩ := e
  refine ⟨α, env, S, d1, S1, ok, en, e1, fun α1 H1 v1 x1 ok1 r1 => ⟨α1, env, S1, d2, S2, ok1, en.mono x1, e2, fun α2 H2 v2 x2 ok2 r2 =>
    ⟨α2, S2, d1, d2, d3, S3, ok2, r1.mono x2, r2, e3, fun α3 H3 v3 x3 ok3 r3 => ?_⟩⟩⟩
  cases d3 with
  | bl t =>
    cases r3
    refine ⟨t, rfl, ?_⟩
    cases t with
    | true =>
      rw [if_pos rfl]
      simp only [Option.bind_eq_some_iff] at e4
      obtain ⟨⟨d5, S5⟩, e5, e6⟩ := e4
      exact ⟨α3, env, S3, d5, S5, ok3, en.mono (x1.trans (x2.trans x3)), e5, fun α4 H4 v4 x4 ok4 r4 => ⟨α4, S5, d2, d5, d, S', ok4, r2.mono (x3.trans x4), r4, e6, fun α5 H5 v5 x5 ok5 r5 =>
        k α5 H5 v5 (x1.trans (x2.trans (x3.trans (x4.trans x5)))) ok5 r5⟩⟩
    | false =>
      rw [if_neg Bool.false_ne_true]
      simp only [Option.some.injEq, Prod.mk.injEq] at e4
      obtain ⟨rfl, rfl⟩ := e4
      exact k α3 H3 _ (x1.trans (x2.trans x3)) ok3 (.bl _)
  | _ => cases e4
theorem xe_chain (o p : Co) (ha : PE X a (tr X.K Γ ca)) (hb : PE X b (tr X.K Γ cb)) (hc : PE X c (tr X.K Γ cc)) (hm : lastMarks [coOf o, coOf p] [b, c] = false := by with_unfolding_all rfl) :
    PE X (.Compare a [coOf o, coOf p] [b, c] pos) (tr X.K Γ (.chain o p ca cb cc)) := pe_w (pe_chain (c_of o) (c_of p) ha hb hc hm) fun σ H Q h => w_chain h

/-! ### arguments -/
theorem xa_nil : PA X [] (trA X.K Γ .nil) := pa_w pa_nil fun σ H Q ⟨α, env, S, ds, S', ok, en, e, k⟩ => by
  simp only [ev, Option.some.injEq, Prod.mk.injEq, D.tup.injEq] at e
  obtain ⟨rfl, rfl⟩ := e
  exact k α H [] Xt.refl ok .nil
theorem w_cons {es' : E} {σ : L2.St} {H : Hp} {Q : List V → Hp → Prop} (h : trA X.K Γ (.cons ca es') σ H Q) : tCons (tr X.K Γ ca) (trA X.K Γ es') σ H Q := by
  obtain ⟨α, env, S, ds, S', ok, en, e, k⟩ := h
  simp only [ev, Option.bind_eq_some_iff, Option.map_eq_some_iff, Prod.mk.injEq, D.tup.injEq] at e
  obtain ⟨⟨d1, S1⟩, e1, ⟨d2, S2⟩, e2, dr, e3, rfl, rfl⟩ := e
  cases d2 with
  | tup zs =>
    simp only [argsOf, Option.some.injEq] at e3
    subst e3
    exact ⟨α, env, S, d1, S1, ok, en, e1, fun α1 H1 v1 x1 ok1 r1 => ⟨α1, env, S1, _, S2, ok1, en.mono x1, e2, fun α2 H2 v2 x2 ok2 r2 => k α2 H2 _ (x1.trans x2) ok2 (.cons (r1.mono x2) r2)⟩⟩
  | _ => cases e3
theorem xa_cons (ha : PE X e (tr X.K Γ ca)) (hr : PA X es (trA X.K Γ cs)) (hs : starEach (e :: es) X.env = (false, eval e X.env) :: starEach es X.env := by rfl) : PA X (e :: es) (trA X.K Γ (.cons ca cs)) :=
  pa_w (pa_cons ha hr hs) fun σ H Q h => w_cons h
theorem argsOf_some {d : D} {ds : List D} (h : argsOf d = some ds) : d = .tup ds := by
  cases d <;> simp [argsOf] at h
  rw [h]
theorem xe_tup {x1} (h : PA X es (trA X.K Γ cs)) : PE X (.Tuple es x1 pos) (tr X.K Γ (.tup cs)) :=
  pe_w (pe_tup h) fun σ H Q ⟨α, env, S, d, S', ok, en, e, k⟩ => by
    simp only [ev, Option.bind_eq_some_iff] at e
    obtain ⟨⟨d1, S1⟩, e1, ds, e2, e3⟩ := e
    cases argsOf_some e2
    split at e3
    · rename_i hz
      simp only [Option.some.injEq, Prod.mk.injEq] at e3
      obtain ⟨rfl, rfl⟩ := e3
      exact ⟨α, env, S, ds, S1, ok, en, e1, fun α1 H1 vs x1 ok1 r1 => ⟨most_line (by rw [r1.len]; exact hz), fun p hp => go_tup ok1 hp r1 fun α2 H2 v2 x2 ok2 r2 => k α2 H2 v2 (x1.trans x2) ok2 r2⟩⟩
    · cases e3
theorem xe_lst (h : PA X es (trA X.K Γ cs)) : PE X (.List es pos) (tr X.K Γ (.lst cs)) :=
  pe_w (pe_lst h) fun σ H Q ⟨α, env, S, d, S', ok, en, e, k⟩ => by
    simp only [ev, Option.bind_eq_some_iff] at e
    obtain ⟨⟨d1, S1⟩, e1, ds, e2, e3⟩ := e
    cases argsOf_some e2
    split at e3
    · rename_i hz
      simp only [alloc, Option.some.injEq, Prod.mk.injEq] at e3
      obtain ⟨rfl, rfl⟩ := e3
      exact ⟨α, env, S, ds, S1, ok, en, e1, fun α1 H1 vs x1 ok1 r1 => ⟨most_line (by rw [r1.len]; exact hz), fun p hp => go_new ok1 hp r1 fun α2 H2 v2 x2 ok2 r2 => k α2 H2 v2 (x1.trans x2) ok2 r2⟩⟩
    · cases e3

/-! ### slices -/
theorem xo_none : PO X none (trO X.K Γ false .nop) := by
  refine ⟨fun pins s σ H Q I h => ?_⟩
  obtain ⟨α, env, S, o, S', ok, en, e, k⟩ := h
  simp only [evP, Bool.false_eq_true, if_false, Option.some.injEq, Prod.mk.injEq] at e
  obtain ⟨rfl, rfl⟩ := e
  exact po_none.run pins s σ H Q I (k α H Xt.refl ok)
theorem xo_some (h : PE X e (tr X.K Γ ce)) : PO X (some e) (trO X.K Γ true ce) := by
  refine ⟨fun pins s σ H Q I hw => ?_⟩
  obtain ⟨α, env, S, o, S', ok, en, e1, k⟩ := hw
  simp only [evP, if_true, Option.bind_eq_some_iff] at e1
  obtain ⟨⟨d, S1⟩, e1, e2⟩ := e1
  cases d with
  | int i =>
    simp only [Option.some.injEq, Prod.mk.injEq] at e2
    obtain ⟨rfl, rfl⟩ := e2
    exact (po_some h).run pins s σ H Q I ⟨α, env, S, _, S1, ok, en, e1, fun α' H' v x ok' r => by
      cases r
      exact ⟨i, rfl, k α' H' x ok'⟩⟩
  | _ => cases e2
def rSD (K : PySem.W.Frag) : V → Option Int → Option Int → Hp → VK → Prop := fun x l h H Q => ∃ α S d1 d S', Ok K α S H ∧ Rp K α H d1 x ∧ slD d1 l h S = some (d, S') ∧ ∀ α' H' v, Xt K α H α' H' → Ok K α' S' H' → Rp K α' H' d v → Q v H'
theorem cut_all {xs : List D} {lo hi : Option Int} (h : HT.sIx xs.length 0 lo = 0 ∧ HT.sIx xs.length xs.length hi = xs.length) : cutD xs lo hi = xs := by
  unfold cutD
  rw [h.1, h.2]
  simp
theorem s_sl : SlR X (rSD X.K) := by
  intro pins s σ H x v vl vu lo hi sl Q I rx hs pl pu ⟨α, S, d1, d, S', ok, r1, e, k⟩
  have lst : ∀ {xs : List D}, isTup d1 = false → (seqOf S d1).map (fun xs => alloc S (cutD xs lo hi)) = some (d, S') →
      ∃ T id, typeLookup (.type T) "__getitem__" = pure (some (.builtin id)) ∧ s.TypeIs v T ∧ wpAny (model X.prog X.w) X.A (getItem v (.ref sl)) (EP X pins σ Q) X.xe s := fun {xs} nt e => by
    simp only [Option.map_eq_some_iff, alloc, Prod.mk.injEq] at e
    obtain ⟨xs, h1, rfl, rfl⟩ := e
    obtain ⟨a, vs, rfl, rs, z⟩ := seq_of ok r1 h1
    rcases z with ⟨z1, _⟩ | ⟨_, z⟩
    · rw [nt] at z1
      cases z1
    · exact sl_list pins s σ H _ v vl vu lo hi sl Q I rx hs pl pu ⟨a, vs, rfl, z, fun p hp => go_new ok hp (cut_of rs lo hi) k⟩
  cases d1 with
  | tup xs =>
    simp only [slD, Option.some.injEq, Prod.mk.injEq] at e
    obtain ⟨rfl, rfl⟩ := e
    cases r1 with
    | tup h1 l1 q1 =>
      rename_i a vs
      refine sl_tupA pins s σ H _ v vl vu lo hi sl Q I rx hs pl pu ⟨a, vs, rfl, h1, fun z => ?_, fun z p hp => go_tup ok hp (cut_of ⟨l1, q1⟩ lo hi) k⟩
      rw [l1] at z
      rw [cut_all z] at k
      exact k α H _ Xt.refl ok (.tup h1 l1 q1)
  | ref k => exact lst (xs := []) rfl e
  | ro ns => exact lst (xs := []) rfl e
  | _ => simp [slD, seqOf] at e
theorem xe_sl {lo hi : Option Expr} {p2 : Pos} {b1 b2 : Bool} {cl ch : E} (ha : PE X a (tr X.K Γ ca)) (hl : PO X lo (trO X.K Γ b1 cl)) (hh : PO X hi (trO X.K Γ b2 ch)) : PE X (.Subscript a (.Slice lo hi none p2) pos) (tr X.K Γ (.sl b1 b2 ca cl ch)) :=
  pe_w (pe_slice s_sl ha hl hh) fun σ H Q ⟨α, env, S, d, S', ok, en, e, k⟩ => by
    simp only [ev, Option.bind_eq_some_iff] at e
    obtain ⟨⟨d1, S1⟩, e1, ⟨o1, S2⟩, e2, ⟨o2, S3⟩, e3, e4⟩ := e
    exact ⟨α, env, S, d1, S1, ok, en, e1, fun α1 H1 v1 x1 ok1 r1 => ⟨α1, env, S1, o1, S2, ok1, en.mono x1, e2, fun α2 H2 x2 ok2 => ⟨α2, env, S2, o2, S3, ok2, en.mono (x1.trans x2), e3, fun α3 H3 x3 ok3 =>
      ⟨α3, S3, d1, d, S', ok3, r1.mono (x2.trans x3), e4, fun α4 H4 v4 x4 ok4 r4 => k α4 H4 v4 (x1.trans (x2.trans (x3.trans x4))) ok4 r4⟩⟩⟩⟩

/-! ### tests -/
theorem xt_truth (ha : PE X a (tr X.K Γ ca)) (he : ∀ whole, isTrue a X.env whole = (do let v ← whole; standAt a.pos; holding [v] (truthy v))) : PT X a (trT X.K Γ ca) :=
  pt_w (pt_truth ha he) fun σ H Q ⟨α, env, S, b, S', ok, en, e, k⟩ => by
    obtain ⟨d, e1, e2⟩ := tst_some e
    exact ⟨α, env, S, d, S', ok, en, e1, fun α' H' v x ok' r => ⟨b, tru_of ok' r e2, k α' H' x ok'⟩⟩
theorem cmp_bl {o : Co} {x y d : D} {S S' : Hd} (h : cmpD o x y S = some (d, S')) : ∃ b, d = .bl b := by
  unfold cmpD at h
  split at h
  · simp only [Option.map_eq_some_iff, Prod.mk.injEq] at h
    obtain ⟨b, _, rfl, _⟩ := h
    exact ⟨_, rfl⟩
  · simp only [Option.map_eq_some_iff, Prod.mk.injEq] at h
    obtain ⟨b, _, rfl, _⟩ := h
    exact ⟨_, rfl⟩
  · simp only [Option.some.injEq, Prod.mk.injEq] at h; exact ⟨_, h.1.symm⟩
  · simp only [Option.some.injEq, Prod.mk.injEq] at h; exact ⟨_, h.1.symm⟩
  · simp only [Option.some.injEq, Prod.mk.injEq] at h; exact ⟨_, h.1.symm⟩
  · simp only [Option.some.injEq, Prod.mk.injEq] at h; exact ⟨_, h.1.symm⟩
  · simp only [Option.some.injEq, Prod.mk.injEq] at h; exact ⟨_, h.1.symm⟩
  · simp only [Option.some.injEq, Prod.mk.injEq] at h; exact ⟨_, h.1.symm⟩
  · split at h
    · simp only [Option.bind_eq_some_iff] at h
      obtain ⟨xs, _, h⟩ := h
      split at h
      · simp only [Option.some.injEq, Prod.mk.injEq] at h; exact ⟨_, h.1.symm⟩
      · cases h
    · cases h
  · split at h
    · simp only [Option.bind_eq_some_iff] at h
      obtain ⟨xs, _, h⟩ := h
      split at h
      · simp only [Option.some.injEq, Prod.mk.injEq] at h; exact ⟨_, h.1.symm⟩
      · cases h
    · cases h
  · cases h
/-- a test whose value is a bool: back to the value -/
theorem w_test {t : TE} {σ : L2.St} {H : Hp} {Q : Bool → Hp → Prop} (hb : ∀ env S d S', ev Γ ca env S = some (d, S') → ∃ b, d = .bl b) (w : ∀ σ H Q, tr X.K Γ ca σ H Q → t σ H Q) (h : trT X.K Γ ca σ H Q) : tTest t σ H Q := by
  obtain ⟨α, env, S, b, S', ok, en, e, k⟩ := h
  obtain ⟨d, e1, e2⟩ := tst_some e
  obtain ⟨b', rfl⟩ := hb env S d S' e1
  simp only [tru, Option.some.injEq] at e2
  subst e2
  refine w σ H _ ⟨α, env, S, _, S', ok, en, e1, fun α' H' v x ok' r => ?_⟩
  cases r
  exact ⟨b', rfl, k α' H' x ok'⟩
theorem xt_cmp (o : Co) (ha : PE X a (tr X.K Γ ca)) (hb : PE X b (tr X.K Γ cb)) (hm : behindInMarks (coOf o) b = false) : PT X (.Compare a [coOf o] [b] pos) (trT X.K Γ (.cmp o ca cb)) :=
  pt_w (pt_cmpR (c_of o) ha hb hm) fun σ H Q h => w_test (fun env S d S' e => by
    simp only [ev, Option.bind_eq_some_iff] at e
    obtain ⟨_, _, _, _, e⟩ := e
    exact cmp_bl e) (fun σ H Q h => w_bin (fun _ _ => rfl) h) h
theorem xt_chain (o p : Co) (ha : PE X a (tr X.K Γ ca)) (hb : PE X b (tr X.K Γ cb)) (hc : PE X c (tr X.K Γ cc)) (hm : lastMarks [coOf o, coOf p] [b, c] = false := by with_unfolding_all rfl) :
    PT X (.Compare a [coOf o, coOf p] [b, c] pos) (trT X.K Γ (.chain o p ca cb cc)) :=
  pt_w (pt_chain (c_of o) (c_of p) ha hb hc hm) fun σ H Q h => w_test (fun env S d S' e => by
    simp only [ev, Option.bind_eq_some_iff] at e
    obtain ⟨_, _, _, _, ⟨d3, S3⟩, e3, e4⟩ := e
    obtain ⟨t, rfl⟩ := cmp_bl e3
    cases t with
    | true =>
      simp only [Option.bind_eq_some_iff] at e4
      obtain ⟨_, _, e4⟩ := e4
      exact cmp_bl e4
    | false =>
      simp only [Option.some.injEq, Prod.mk.injEq] at e4
      exact ⟨_, e4.1.symm⟩) (fun σ H Q h => w_chain h) h
theorem xt_not (ha : PT X a (trT X.K Γ ca)) : PT X (.UnaryOp .Not a pos) (trT X.K Γ (.not_ ca)) :=
  pt_w (pt_not ha) fun σ H Q ⟨α, env, S, b, S', ok, en, e, k⟩ => by
    obtain ⟨d, e1, e2⟩ := tst_some e
    simp only [ev, Option.map_eq_some_iff, Prod.mk.injEq] at e1
    obtain ⟨⟨b1, S1⟩, e3, rfl, rfl⟩ := e1
    simp only [tru, Option.some.injEq] at e2
    subst e2
    exact ⟨α, env, S, b1, S1, ok, en, e3, k⟩
theorem xw_and1 (ha : PT X a (trT X.K Γ ca)) : PW X (.BoolOp .And [a] pos) (trT X.K Γ ca) := pw_and1 ha
theorem xw_or1 (ha : PT X a (trT X.K Γ ca)) : PW X (.BoolOp .Or [a] pos) (trT X.K Γ ca) := pw_or1 ha
theorem xw_and (ha : PT X a (trT X.K Γ ca)) (hb : PW X (.BoolOp .And (b :: rest) pos) (trT X.K Γ cb)) : PW X (.BoolOp .And (a :: b :: rest) pos) (trT X.K Γ (.and_ ca cb)) :=
  pw_w (pw_and ha hb) fun σ H Q ⟨α, env, S, t, S', ok, en, e, k⟩ => by
    obtain ⟨d, e1, e2⟩ := tst_some e
    simp only [ev, Option.bind_eq_some_iff] at e1
    obtain ⟨⟨d1, S1⟩, e3, e4⟩ := e1
    cases d1 with
    | bl i =>
      refine ⟨α, env, S, i, S1, ok, en, tst_of e3 rfl, fun α1 H1 x1 ok1 => ?_⟩
      cases i with
      | true =>
        rw [if_pos rfl]
        exact ⟨α1, env, S1, t, S', ok1, en.mono x1, tst_of e4 e2, fun α2 H2 x2 ok2 => k α2 H2 (x1.trans x2) ok2⟩
      | false =>
        rw [if_neg Bool.false_ne_true]
        simp only [Option.some.injEq, Prod.mk.injEq] at e4
        obtain ⟨rfl, rfl⟩ := e4
        simp only [tru, Option.some.injEq] at e2
        subst e2
        exact k α1 H1 x1 ok1
    | _ => cases e4
theorem xw_or (ha : PT X a (trT X.K Γ ca)) (hb : PW X (.BoolOp .Or (b :: rest) pos) (trT X.K Γ cb)) : PW X (.BoolOp .Or (a :: b :: rest) pos) (trT X.K Γ (.or_ ca cb)) :=
  pw_w (pw_or ha hb) fun σ H Q ⟨α, env, S, t, S', ok, en, e, k⟩ => by
    obtain ⟨d, e1, e2⟩ := tst_some e
    simp only [ev, Option.bind_eq_some_iff] at e1
    obtain ⟨⟨d1, S1⟩, e3, e4⟩ := e1
    cases d1 with
    | bl i =>
      refine ⟨α, env, S, i, S1, ok, en, tst_of e3 rfl, fun α1 H1 x1 ok1 => ?_⟩
      cases i with
      | false =>
        rw [if_neg Bool.false_ne_true]
        exact ⟨α1, env, S1, t, S', ok1, en.mono x1, tst_of e4 e2, fun α2 H2 x2 ok2 => k α2 H2 (x1.trans x2) ok2⟩
      | true =>
        rw [if_pos rfl]
        simp only [Option.some.injEq, Prod.mk.injEq] at e4
        obtain ⟨rfl, rfl⟩ := e4
        simp only [tru, Option.some.injEq] at e2
        subst e2
        exact k α1 H1 x1 ok1
    | _ => cases e4
end
end Ix

namespace Ix
open PySem L2
/-! ### built-ins, methods, calls -/
section
variable {X : Cx} {Γ : Fs} {a b c e : Expr} {es rest : List Expr} {ca cb cc ce cs : E} {pos : Pos}
theorem w_args {c2 : E} {f : List D → Hd → Option (D × Hd)} {σ : L2.St} {H : Hp} {Q : VK} (hev : ∀ env S, ev Γ c2 env S = (ev Γ cs env S).bind fun x => (argsOf x.1).bind fun ds => f ds x.2) (h : tr X.K Γ c2 σ H Q) : tCB (rA X.K f) (trA X.K Γ cs) σ H Q := by
  obtain ⟨α, env, S, d, S', ok, en, e, k⟩ := h
  rw [hev] at e
  simp only [Option.bind_eq_some_iff] at e
  obtain ⟨⟨d1, S1⟩, e1, ds, e2, e3⟩ := e
  cases argsOf_some e2
  exact ⟨α, env, S, ds, S1, ok, en, e1, fun α1 H1 vs x1 ok1 r1 => ⟨α1, S1, ds, d, S', ok1, r1, e3, fun α2 H2 v x2 ok2 r2 => k α2 H2 v (x1.trans x2) ok2 r2⟩⟩
theorem Rps.one' {K : PySem.W.Frag} {α : List Addr} {H : Hp} {x : D} {vs : List V} (h : Rps K α H [x] vs) : ∃ v, vs = [v] ∧ Rp K α H x v := by
  obtain ⟨w, ws, rfl, r, t⟩ := h.uncons
  exact ⟨w, by rw [t.unnil], r⟩
theorem Rps.two' {K : PySem.W.Frag} {α : List Addr} {H : Hp} {x y : D} {vs : List V} (h : Rps K α H [x, y] vs) : ∃ v u, vs = [v, u] ∧ Rp K α H x v ∧ Rp K α H y u := by
  obtain ⟨w, ws, rfl, r, t⟩ := h.uncons
  obtain ⟨u, rfl, q⟩ := t.one'
  exact ⟨w, u, rfl, r, q⟩
theorem bools_of {K : PySem.W.Frag} {α : List Addr} {H : Hp} : ∀ {xs : List D} {bs : List Bool} {vs : List V}, bools xs = some bs → Rps K α H xs vs → vs = bs.map V.bl
  | [], bs, vs, h, r => by
    simp only [bools, Option.some.injEq] at h
    subst h
    exact r.unnil
  | x :: xs, bs, vs, h, r => by
    cases x with
    | bl b =>
      simp only [bools, Option.map_eq_some_iff] at h
      obtain ⟨cs, h, rfl⟩ := h
      obtain ⟨w, ws, rfl, r1, r2⟩ := r.uncons
      cases r1
      rw [bools_of h r2]
      rfl
    | _ => simp [bools] at h
theorem len1 {α : Type} {f : Bl} {xs : List D} {S : Hd} {r : D × Hd} (h : bltD f xs S = some r) : True := trivial
theorem b_len : CallR X (.builtin "len") (rA X.K (bltD .len)) := by
  intro pins s σ H xs us Q I r ⟨α, S, ds, d, S', ok, rs, e, k⟩
  match ds, e with
  | [x], e =>
    simp only [bltD, Option.map_eq_some_iff, Prod.mk.injEq] at e
    obtain ⟨ys, h1, rfl, rfl⟩ := e
    obtain ⟨v, rfl, r1⟩ := rs.one'
    obtain ⟨a, vs, rfl, q, z⟩ := seq_of ok r1 h1
    exact call_len_seq pins s σ H _ us Q I r ⟨a, vs, rfl, z.elim (fun z => .inr z.2) fun z => .inl z.2, by rw [q.len]; exact k α H _ Xt.refl ok (.int _)⟩
  | [], e => simp [bltD] at e
  | _ :: _ :: _, e => simp [bltD] at e
theorem b_int : CallR X (.type "int") (rA X.K (bltD .int_)) := by
  intro pins s σ H xs us Q I r ⟨α, S, ds, d, S', ok, rs, e, k⟩
  match ds, e with
  | [x], e =>
    obtain ⟨v, rfl, r1⟩ := rs.one'
    cases x with
    | int i =>
      simp only [bltD, Option.some.injEq, Prod.mk.injEq] at e
      obtain ⟨rfl, rfl⟩ := e
      cases r1
      exact call_int1 pins s σ H _ us Q I r (.inl ⟨i, rfl, k α H _ Xt.refl ok (.int _)⟩)
    | bl i =>
      simp only [bltD, Option.some.injEq, Prod.mk.injEq] at e
      obtain ⟨rfl, rfl⟩ := e
      cases r1
      exact call_int1 pins s σ H _ us Q I r (.inr ⟨i, rfl, k α H _ Xt.refl ok (.int _)⟩)
    | _ => simp [bltD] at e
  | [], e => simp [bltD] at e
  | x :: _ :: _, e => cases x <;> simp [bltD] at e
theorem b_abs : CallR X (.builtin "abs") (rA X.K (bltD .abs_)) := by
  intro pins s σ H xs us Q I r ⟨α, S, ds, d, S', ok, rs, e, k⟩
  match ds, e with
  | [x], e =>
    obtain ⟨v, rfl, r1⟩ := rs.one'
    cases x with
    | int i =>
      simp only [bltD, Option.some.injEq, Prod.mk.injEq] at e
      obtain ⟨rfl, rfl⟩ := e
      cases r1
      exact call_abs pins s σ H _ us Q I r ⟨i, rfl, k α H _ Xt.refl ok (.int _)⟩
    | _ => simp [bltD] at e
  | [], e => simp [bltD] at e
  | x :: _ :: _, e => cases x <;> simp [bltD] at e
theorem ints_of {K : PySem.W.Frag} {α : List Addr} {H : Hp} : ∀ {xs : List D} {ns : List Int} {vs : List V}, intsD xs = some ns → Rps K α H xs vs → vs = ns.map V.int
  | [], ns, vs, h, r => by
    simp only [intsD, Option.some.injEq] at h
    subst h
    exact r.unnil
  | x :: xs, ns, vs, h, r => by
    cases x with
    | int b =>
      simp only [intsD, Option.map_eq_some_iff] at h
      obtain ⟨cs, h, rfl⟩ := h
      obtain ⟨w, ws, rfl, r1, r2⟩ := r.uncons
      cases r1
      rw [ints_of h r2]
      rfl
    | _ => simp [intsD] at h
theorem intsAt_of {K : PySem.W.Frag} {α : List Addr} {S : Hd} {H : Hp} {d : D} {v : V} {ns : List Int} (ok : Ok K α S H) (r : Rp K α H d v) (h : intsAt S d = some ns) : ∃ a, v = .ref a ∧ SqL K H a (ns.map V.int) := by
  unfold intsAt at h
  split at h
  · cases h
  · rename_i nt
    simp only [Option.bind_eq_some_iff] at h
    obtain ⟨xs, h1, h2⟩ := h
    obtain ⟨a, vs, rfl, q, z⟩ := seq_of ok r h1
    rcases z with ⟨z, _⟩ | ⟨_, z⟩
    · exact absurd z nt
    · rw [ints_of h2 q] at z
      exact ⟨a, rfl, z⟩
theorem fold_max : ∀ (is : List Int) (i m : Int), (m = i ∨ m ∈ is) → i ≤ m → (∀ y ∈ is, y ≤ m) → is.foldl (fun a b => if b > a then b else a) i = m
  | [], i, m, h, _, _ => by
    rcases h with h | h
    · exact h.symm
    · simp at h
  | j :: is, i, m, h, hi, hm => by
    have hj := hm j List.mem_cons_self
    refine fold_max is _ m ?_ ?_ fun y hy => hm y (List.mem_cons_of_mem _ hy)
    · rcases h with h | h
      · subst h
        left
        show m = if j > m then j else m
        rw [if_neg (by omega)]
      · rcases List.mem_cons.mp h with h | h
        · subst h
          left
          show m = if m > i then m else i
          split <;> omega
        · exact .inr h
    · show (if j > i then j else i) ≤ m
      split <;> omega
theorem maxL_is {ns : List Int} {m m' : Int} (h : maxL ns = some m) (h1 : m' ∈ ns) (h2 : ∀ y ∈ ns, y ≤ m') : m = m' := by
  cases ns with
  | nil => cases h
  | cons i is =>
    simp only [maxL, Option.some.injEq] at h
    rw [← h]
    exact fold_max is i m' (List.mem_cons.mp h1) (h2 i List.mem_cons_self) fun y hy => h2 y (List.mem_cons_of_mem _ hy)
theorem insI_perm (i : Int) : ∀ js : List Int, (insI i js).Perm (i :: js)
  | [] => .refl _
  | j :: js => by
    unfold insI
    split
    · exact .refl _
    · exact ((insI_perm i js).cons j).trans (.swap i j js)
theorem srtI_perm : ∀ is : List Int, (srtI is).Perm is
  | [] => .refl _
  | i :: is => (insI_perm i _).trans ((srtI_perm is).cons i)
theorem insI_le (i : Int) : ∀ {js : List Int}, js.Pairwise (· ≤ ·) → (insI i js).Pairwise (· ≤ ·)
  | [], _ => by simp [insI]
  | j :: js, h => by
    unfold insI
    have h' := List.pairwise_cons.mp h
    split
    · refine List.pairwise_cons.mpr ⟨fun y hy => ?_, h⟩
      rcases List.mem_cons.mp hy with e | hy
      · omega
      · have := h'.1 y hy
        omega
    · refine List.pairwise_cons.mpr ⟨fun y hy => ?_, insI_le i h'.2⟩
      rcases List.mem_cons.mp ((insI_perm i js).mem_iff.mp hy) with e | hy
      · omega
      · exact h'.1 y hy
theorem srtI_le : ∀ is : List Int, (srtI is).Pairwise (· ≤ ·)
  | [] => .nil
  | i :: is => insI_le i (srtI_le is)
theorem srt_one {A B : List Int} (p : A.Perm B) (ha : A.Pairwise (· ≤ ·)) (hb : B.Pairwise (· ≤ ·)) : A = B :=
  p.eq_of_pairwise (fun a b _ _ h1 h2 => by omega) ha hb
theorem b_sum (hc : X.calm = true) : CallR X (.builtin "sum") (rA X.K (bltD .sum_)) := by
  intro pins s σ H xs us Q I r ⟨α, S, ds, d, S', ok, rs, e, k⟩
  match ds, e with
  | [x], e =>
    simp only [bltD, Option.map_eq_some_iff, Prod.mk.injEq] at e
    obtain ⟨ns, h1, rfl, rfl⟩ := e
    obtain ⟨v, rfl, r1⟩ := rs.one'
    obtain ⟨a, rfl, z⟩ := intsAt_of ok r1 h1
    exact cr_sum hc pins s σ H _ us Q I r ⟨a, ns, rfl, z, k α H _ Xt.refl ok (.int _)⟩
  | [], e => simp [bltD] at e
  | _ :: _ :: _, e => simp [bltD] at e
theorem b_sorted : CallR X (.builtin "sorted") (rA X.K (bltD .sorted_)) := by
  intro pins s σ H xs us Q I r ⟨α, S, ds, d, S', ok, rs, e, k⟩
  match ds, e with
  | [x], e =>
    simp only [bltD, Option.map_eq_some_iff, alloc, Prod.mk.injEq] at e
    obtain ⟨ns, h1, rfl, rfl⟩ := e
    obtain ⟨v, rfl, r1⟩ := rs.one'
    obtain ⟨a, rfl, z⟩ := intsAt_of ok r1 h1
    refine cr_sortedI pins s σ H _ us Q I r ⟨a, ns, rfl, z, fun ns' p pm le hp => ?_⟩
    have e2 : ns' = srtI ns := srt_one (pm.trans (srtI_perm ns).symm) le (srtI_le ns)
    subst e2
    refine go_new ok hp ⟨by simp, fun i x v h1 h2 => ?_⟩ k
    rw [List.getElem?_map] at h1 h2
    cases hx : (srtI ns)[i]? with
    | none => rw [hx] at h1; cases h1
    | some m =>
      rw [hx] at h1 h2
      cases h1
      cases h2
      exact .int m
  | [], e => simp [bltD] at e
  | _ :: _ :: _, e => simp [bltD] at e
theorem b_max (hc : X.calm = true) : CallR X (.builtin "max") (rA X.K (bltD .max_)) := by
  intro pins s σ H xs us Q I r ⟨α, S, ds, d, S', ok, rs, e, k⟩
  match ds, e with
  | [x], e =>
    simp only [bltD, Option.map_eq_some_iff, Option.bind_eq_some_iff, Prod.mk.injEq] at e
    obtain ⟨m, ⟨ns, h1, h2⟩, rfl, rfl⟩ := e
    obtain ⟨v, rfl, r1⟩ := rs.one'
    obtain ⟨a, rfl, z⟩ := intsAt_of ok r1 h1
    refine cr_max hc pins s σ H _ us Q I r ⟨a, ns, rfl, z, ?_, fun m' q1 q2 => ?_⟩
    · cases ns with
      | nil => cases h2
      | cons i is => exact Nat.succ_pos _
    · rw [← maxL_is h2 q1 q2]
      exact k α H _ Xt.refl ok (.int _)
  | [x, y], e =>
    obtain ⟨v, u, rfl, r1, r2⟩ := rs.two'
    cases x with
    | int i =>
      cases y with
      | int j =>
        simp only [bltD, Option.some.injEq, Prod.mk.injEq] at e
        obtain ⟨rfl, rfl⟩ := e
        cases r1
        cases r2
        exact call_max2 hc pins s σ H _ us Q I r ⟨i, j, rfl, k α H _ Xt.refl ok (.int _)⟩
      | _ => simp [bltD] at e
    | _ => cases y <;> simp [bltD] at e
  | [], e => simp [bltD] at e
  | x :: y :: _ :: _, e => cases x <;> cases y <;> simp [bltD] at e
theorem b_min (hc : X.calm = true) : CallR X (.builtin "min") (rA X.K (bltD .min_)) := by
  intro pins s σ H xs us Q I r ⟨α, S, ds, d, S', ok, rs, e, k⟩
  match ds, e with
  | [x, y], e =>
    obtain ⟨v, u, rfl, r1, r2⟩ := rs.two'
    cases x with
    | int i =>
      cases y with
      | int j =>
        simp only [bltD, Option.some.injEq, Prod.mk.injEq] at e
        obtain ⟨rfl, rfl⟩ := e
        cases r1
        cases r2
        exact call_min2 hc pins s σ H _ us Q I r ⟨i, j, rfl, k α H _ Xt.refl ok (.int _)⟩
      | _ => simp [bltD] at e
    | _ => cases y <;> simp [bltD] at e
  | [], e => simp [bltD] at e
  | [x], e => cases x <;> simp [bltD] at e
  | x :: y :: _ :: _, e => cases x <;> cases y <;> simp [bltD] at e
theorem b_all (hc : X.calm = true) : CallR X (.builtin "all") (rA X.K (bltD .all_)) := by
  intro pins s σ H xs us Q I r ⟨α, S, ds, d, S', ok, rs, e, k⟩
  match ds, e with
  | [x], e =>
    simp only [bltD] at e
    split at e
    · cases e
    · rename_i nt
      simp only [Option.map_eq_some_iff, Option.bind_eq_some_iff, Prod.mk.injEq] at e
      obtain ⟨bs, ⟨ys, h1, h2⟩, rfl, rfl⟩ := e
      obtain ⟨v, rfl, r1⟩ := rs.one'
      obtain ⟨a, vs, rfl, q, z⟩ := seq_of ok r1 h1
      rcases z with ⟨z, _⟩ | ⟨_, z⟩
      · exact absurd z nt
      · rw [bools_of h2 q] at z
        exact cr_all hc pins s σ H _ us Q I r ⟨a, bs, rfl, z, k α H _ Xt.refl ok (.bl _)⟩
  | [], e => simp [bltD] at e
  | _ :: _ :: _, e => simp [bltD] at e
theorem b_any (hc : X.calm = true) : CallR X (.builtin "any") (rA X.K (bltD .any_)) := by
  intro pins s σ H xs us Q I r ⟨α, S, ds, d, S', ok, rs, e, k⟩
  match ds, e with
  | [x], e =>
    simp only [bltD] at e
    split at e
    · cases e
    · rename_i nt
      simp only [Option.map_eq_some_iff, Option.bind_eq_some_iff, Prod.mk.injEq] at e
      obtain ⟨bs, ⟨ys, h1, h2⟩, rfl, rfl⟩ := e
      obtain ⟨v, rfl, r1⟩ := rs.one'
      obtain ⟨a, vs, rfl, q, z⟩ := seq_of ok r1 h1
      rcases z with ⟨z, _⟩ | ⟨_, z⟩
      · exact absurd z nt
      · rw [bools_of h2 q] at z
        exact cr_any hc pins s σ H _ us Q I r ⟨a, bs, rfl, z, k α H _ Xt.refl ok (.bl _)⟩
  | [], e => simp [bltD] at e
  | _ :: _ :: _, e => simp [bltD] at e
theorem b_tuple : CallR X (.type "tuple") (rA X.K (bltD .tuple_)) := by
  intro pins s σ H xs us Q I r ⟨α, S, ds, d, S', ok, rs, e, k⟩
  match ds, e with
  | [x], e =>
    simp only [bltD, Option.map_eq_some_iff, Prod.mk.injEq] at e
    obtain ⟨ys, h1, rfl, rfl⟩ := e
    obtain ⟨v, rfl, r1⟩ := rs.one'
    obtain ⟨a, vs, rfl, q, z⟩ := seq_of ok r1 h1
    rcases z with ⟨_, z⟩ | ⟨_, z⟩
    · exact call_tuple_of pins s σ H _ us Q I r ⟨a, vs, rfl, .inr ⟨z, k α H _ Xt.refl ok (.tup z q.len q.at_)⟩⟩
    · exact call_tuple_of pins s σ H _ us Q I r ⟨a, vs, rfl, .inl ⟨z, fun p hp => go_tup ok hp q k⟩⟩
  | [], e => simp [bltD] at e
  | _ :: _ :: _, e => simp [bltD] at e
theorem b_list : CallR X (.type "list") (rA X.K (bltD .list_)) := by
  intro pins s σ H xs us Q I r ⟨α, S, ds, d, S', ok, rs, e, k⟩
  match ds, e with
  | [x], e =>
    simp only [bltD, Option.map_eq_some_iff, alloc, Prod.mk.injEq] at e
    obtain ⟨ys, h1, rfl, rfl⟩ := e
    obtain ⟨v, rfl, r1⟩ := rs.one'
    obtain ⟨a, vs, rfl, q, z⟩ := seq_of ok r1 h1
    exact call_list_of pins s σ H _ us Q I r ⟨a, vs, rfl, z.elim (fun z => .inr z.2) fun z => .inl z.2, fun p hp => go_new ok hp q k⟩
  | [], e => simp [bltD] at e
  | _ :: _ :: _, e => simp [bltD] at e
theorem b_str : CallR X (.type "str") (rA X.K (bltD .str_)) := by
  intro pins s σ H xs us Q I r ⟨α, S, ds, d, S', ok, rs, e, k⟩
  match ds, e with
  | [x], e =>
    obtain ⟨v, rfl, r1⟩ := rs.one'
    cases x with
    | int i =>
      simp only [bltD] at e
      split at e
      · simp only [Option.some.injEq, Prod.mk.injEq] at e
        obtain ⟨rfl, rfl⟩ := e
        cases r1
        exact call_str_int pins s σ H _ us Q I r ⟨i, rfl, by assumption, k α H _ Xt.refl ok (.str _)⟩
      · cases e
    | _ => simp [bltD] at e
  | [], e => simp [bltD] at e
  | x :: _ :: _, e => cases x <;> simp [bltD] at e
/-! isinstance -/
theorem tyX_of {K : PySem.W.Frag} {α : List Addr} {H : Hp} {S : Hd} {x : D} {v : V} {n : String} (ok : Ok K α S H) (r : Rp K α H x v) (h : tyName S x = some n) : TyX K H v (.type n) := by
  cases r with
  | non => simp only [tyName, Option.some.injEq] at h; subst h; exact .base .non
  | bl b => simp only [tyName, Option.some.injEq] at h; subst h; exact .base (.bl b)
  | int i => simp only [tyName, Option.some.injEq] at h; subst h; exact .base (.int i)
  | str z => simp only [tyName, Option.some.injEq] at h; subst h; exact .base (.str z)
  | ty z => simp [tyName] at h
  | tup h1 l q =>
    simp only [tyName, Option.some.injEq] at h
    subst h
    rcases h1 with (h1 | ⟨o, h1⟩) | ⟨o, its, m, h1, h2, _⟩
    · exact .base (.tup h1)
    · exact .fTuple h1
    · exact .kTuple h1 h2
  | @ref k a e =>
    simp only [tyName] at h
    split at h
    · rename_i ys e2
      simp only [Option.some.injEq] at h
      subst h
      obtain ⟨a', vs, e3, e4, e5, e6⟩ := ok.lst e2 (.ref e)
      cases e3
      exact .base (.lst e5)
    · cases h
  | ro h1 =>
    simp only [tyName, Option.some.injEq] at h
    subst h
    rcases h1 with ⟨o, h1⟩ | ⟨o, its, m, h1, h2, _⟩
    · exact .base (.frz h1)
    · exact .kList h1 h2
def names7 : List String := ["NoneType", "bool", "int", "str", "tuple", "list"]
theorem tyName_in {S : Hd} {x : D} {n : String} (h : tyName S x = some n) : n ∈ names7 := by
  unfold tyName at h
  split at h <;> first
    | (simp only [Option.some.injEq] at h; subst h; decide)
    | (split at h <;> first | (simp only [Option.some.injEq] at h; subst h; decide) | cases h)
    | cases h
theorem kit_all : (names7.all fun n => ["int", "bool", "str", "tuple", "list"].all fun c => decide (kitB n c = some (isaN n c))) = true := by decide +kernel
theorem kit_of' {K : PySem.W.Frag} {n c : String} (hn : n ∈ names7) (hc : plainTy c = true) : PySem.W.kitOne K (.type n) (.type c) = some (isaN n c) := by
  have h := kit_all
  rw [List.all_eq_true] at h
  have h2 := h n hn
  rw [List.all_eq_true] at h2
  exact kit_ty (of_decide_eq_true (h2 c (by unfold plainTy at hc; simpa using hc)))
theorem tys_of {K : PySem.W.Frag} {α : List Addr} {H : Hp} : ∀ {xs : List D} {ts : List String} {vs : List V}, tysOf xs = some ts → Rps K α H xs vs → Paired ClsV vs (ts.map Value.type) ∧ ∀ t ∈ ts, plainTy t = true
  | [], ts, vs, h, r => by
    simp only [tysOf, Option.some.injEq] at h
    subst h
    rw [r.unnil]
    exact ⟨.nil, fun t ht => by cases ht⟩
  | x :: xs, ts, vs, h, r => by
    cases x with
    | ty c =>
      simp only [tysOf] at h
      split at h
      · rename_i hp
        simp only [Option.map_eq_some_iff] at h
        obtain ⟨cs, h, rfl⟩ := h
        obtain ⟨w, ws, rfl, r1, r2⟩ := r.uncons
        cases r1
        obtain ⟨p1, p2⟩ := tys_of h r2
        refine ⟨.cons (.ty c) p1, fun t ht => ?_⟩
        rcases List.mem_cons.mp ht with rfl | ht
        · exact hp
        · exact p2 t ht
      · cases h
    | _ => simp [tysOf] at h
theorem kit_any {K : PySem.W.Frag} {n : String} (hn : n ∈ names7) : ∀ {ts : List String}, (∀ t ∈ ts, plainTy t = true) → PySem.W.kitAny K (.type n) (ts.map Value.type) = some (ts.any (isaN n))
  | [], _ => kitAny_nil
  | t :: ts, h => by
    refine kitAny_cons (kit_of' hn (h t List.mem_cons_self)) (fun hb => ?_) fun hb => ?_
    · rw [List.any_cons, hb, Bool.false_or]
      exact kit_any hn fun u hu => h u (List.mem_cons_of_mem _ hu)
    · rw [List.any_cons, hb, Bool.true_or]
theorem b_isi : CallR X (.builtin "isinstance") (rA X.K (bltD .isi)) := by
  intro pins s σ H xs us Q I r ⟨α, S, ds, d, S', ok, rs, e, k⟩
  match ds, e with
  | [x, y], e =>
    obtain ⟨v, u, rfl, r1, r2⟩ := rs.two'
    cases y with
    | ty c =>
      simp only [bltD] at e
      split at e
      · rename_i hp
        simp only [Option.map_eq_some_iff, Prod.mk.injEq] at e
        obtain ⟨n, h1, rfl, rfl⟩ := e
        cases r2
        exact call_isi pins s σ H _ us Q I r ⟨v, .ty c, .type n, .type c, isaN n c, rfl, .ty c, tyX_of ok r1 h1, kit_of' (tyName_in h1) hp, k α H _ Xt.refl ok (.bl _)⟩
      · cases e
    | tup cs =>
      simp only [bltD, Option.bind_eq_some_iff, Option.map_eq_some_iff, Prod.mk.injEq] at e
      obtain ⟨ts, h2, n, h1, rfl, rfl⟩ := e
      cases r2 with
      | @tup _ tp vs h3 l q =>
        obtain ⟨p1, p2⟩ := tys_of h2 ⟨l, q⟩
        obtain ⟨u1, u2, rfl, q1, q2⟩ := vals2 r
        cases (show u2 = Value.ref tp from q2)
        obtain ⟨P, Z, p, hx⟩ := kit_of I q1 (tyX_of ok r1 h1)
        obtain ⟨its, rv, ⟨o, g1, g2, m, g3⟩, _⟩ := I.tuple h3
        have e3 := ClsV.all p1 rv
        subst e3
        obtain ⟨oc, od, dt, sl⟩ := o
        simp only at g2 g3
        subst g2 g3
        exact PySem.W.kia_tup Z I.kIn p g1 (kit_any (tyName_in h1) p2) hx fun tk => ⟨.bl _, H, I.tok tk, rfl, k α H _ Xt.refl ok (.bl _)⟩
    | _ => simp [bltD] at e
  | [], e => simp [bltD] at e
  | [_], e => simp [bltD] at e
  | _ :: _ :: _ :: _, e => simp [bltD] at e
/-- f(e, ..) of a built-in function, of a built-in class -/
theorem xe_blt {id : String} {x : Str} {p : Pos} (B : Bl) (hc : CallR X (.builtin id) (rA X.K (bltD B))) (hg : Gl X x) (hm : X.mg x = none) (hv : bootBuiltins x = some (.builtin id)) (ha : PA X (e :: es) (trA X.K Γ cs)) (hn : x ≠ "__name__" := by decide) (hdb : (x == ("__debug__" : Str)) = false := by decide)
    (he : starEach (e :: es) X.env = (false, eval e X.env) :: starEach es X.env := by rfl) (hpl : (backTo pos (starEach es X.env)).any (·.1) = false := by rfl) : PE X (.Call (.Name x p) (e :: es) [] pos) (tr X.K Γ (.blt B cs)) :=
  pe_w (pe_callB hc hg hm hv ha hn hdb he hpl) fun σ H Q h => w_args (fun _ _ => rfl) h
theorem xe_bty {T : String} {x : Str} {p : Pos} (B : Bl) (hc : CallR X (.type T) (rA X.K (bltD B))) (hg : Gl X x) (hm : X.mg x = none) (hv : bootBuiltins x = some (.type T)) (ha : PA X (e :: es) (trA X.K Γ cs)) (hn : x ≠ "__name__" := by decide) (hdb : (x == ("__debug__" : Str)) = false := by decide)
    (he : starEach (e :: es) X.env = (false, eval e X.env) :: starEach es X.env := by rfl) (hpl : (backTo pos (starEach es X.env)).any (·.1) = false := by rfl) : PE X (.Call (.Name x p) (e :: es) [] pos) (tr X.K Γ (.blt B cs)) :=
  pe_w (pe_callTy hc hg hm hv ha hn hdb he hpl) fun σ H Q h => w_args (fun _ _ => rfl) h
/-- xs.append(e) -/
theorem m_append : MtR X "list.append" (rM X.K (methD .append)) := by
  intro pins s σ H x xs v us Q I rx r ⟨α, S, d1, ds, d, S', ok, r1, rs, e, k⟩
  cases d1 with
  | ref j =>
    match ds, e with
    | [y], e =>
      simp only [methD] at e
      split at e
      · rename_i ys e1
        split at e
        · rename_i hz
          simp only [Option.some.injEq, Prod.mk.injEq] at e
          obtain ⟨rfl, rfl⟩ := e
          obtain ⟨u, rfl, r2⟩ := rs.one'
          obtain ⟨a, vs, rfl, e3, e4, q⟩ := ok.lst e1 r1
          exact mt_append pins s σ H _ _ v us Q I rx r ⟨a, vs, u, rfl, rfl, e4, most_lt (by rw [q.len]; exact hz), k α _ _ (Xt.write e4) (ok.write e3 e4 (o := .lst (ys ++ [y])) (u := .lst (vs ++ [u])) (Rps.append q (Rps.one r2))) .non⟩
        · cases e
      · cases e
    | [], e => simp [methD] at e
    | _ :: _ :: _, e => simp [methD] at e
  | _ => simp [methD] at e
theorem lst_ty {K : PySem.W.Frag} {α : List Addr} {H : Hp} {S : Hd} {d : D} {v : V} (ok : Ok K α S H) (r1 : Rp K α H d v) (h : isLst S d = true) : tyV K "list" v H := by
  unfold isLst at h
  split at h
  · split at h
    · rename_i k xs e
      obtain ⟨a, vs, rfl, _, e4, _⟩ := ok.lst e r1
      exact .inl ⟨rfl, vs, SqL.of e4⟩
    · cases h
  · cases h
theorem xe_append {apos cpos : Pos} {o : Expr} {co : E} (ho : PE X o (tr X.K Γ co)) (ha : PA X (e :: es) (trA X.K Γ cs))
    (hbase : attributeBase o "append" X.env (eval o X.env) = eval o X.env := by rfl)
    (hfew : ((backTo cpos (starEach (e :: es) X.env)).all (fun x => !x.1) && (backToKw cpos (keywordEach [] X.env)).all (fun x => x.1.isSome)
      && decide ((e :: es).length + ([] : List Keyword).length + (if ([] : List Keyword).isEmpty then 0 else 1) < 30)) = true := by rfl)
    (hline : (apos.endLine == cpos.line) = true := by rfl) (hs : starEach (e :: es) X.env = (false, eval e X.env) :: starEach es X.env := by rfl) (hplain : (backTo cpos (starEach es X.env)).any (·.1) = false := by rfl) :
    PE X (.Call (.Attribute o "append" apos) (e :: es) [] cpos) (tr X.K Γ (.meth .append co cs)) :=
  pe_w (pe_bm PySem.F.plainAttrs_list PySem.F.slot_list_append PySem.F.type_list_append m_append ho ha hbase hfew hline hs hplain) fun σ H Q ⟨α, env, S, d, S', ok, en, e, k⟩ => by
    simp only [ev, Option.bind_eq_some_iff] at e
    obtain ⟨⟨d1, S1⟩, e1, e2⟩ := e
    split at e2
    · rename_i hl
      simp only [Option.bind_eq_some_iff] at e2
      obtain ⟨⟨d2, S2⟩, e2, ds, e3, e4⟩ := e2
      cases argsOf_some e3
      exact ⟨α, env, S, d1, S1, ok, en, e1, fun α1 H1 v1 x1 ok1 r1 => ⟨lst_ty ok1 r1 hl, α1, env, S1, ds, S2, ok1, en.mono x1, e2, fun α2 H2 vs x2 ok2 r2 =>
        ⟨α2, S2, d1, ds, d, S', ok2, r1.mono x2, r2, e4, fun α3 H3 v x3 ok3 r3 => k α3 H3 v (x1.trans (x2.trans x3)) ok3 r3⟩⟩⟩
    · cases e2
end

/-! ### the defs -/
section
/-- what a def of the text promises: as the meaning says -/
def spF (K : PySem.W.Frag) (Γ : Fs) (f : Nat) : Sp := fun vs H Q _ => ∃ α S ds d S', Ok K α S H ∧ Rps K α H ds vs ∧ Γ f ds S = some (d, S') ∧ ∀ α' H' v, Xt K α H α' H' → Ok K α' S' H' → Rp K α' H' d v → Q v H'
/-- the def f, called x in the text, keeps its promise -/
structure FnI (P : Program) (w : World) (K : PySem.W.Frag) (mg : Str → Option Value) (base : Heap) (Γ : Fs) (n f : Nat) (x : Str) (ps : List Str) (st : Stmt) : Prop where
  ex : ∃ (fa : Addr) (fd : FuncData), mg x = some (.ref fa) ∧ Fun K x x st fa fd ∧ FnOk P w K mg base CX0 n fa fd ps (spF K Γ f) ∧ Binds K fd ps []
variable {X : Cx} {Γ : Fs} {e : Expr} {es : List Expr} {cs ck : E} {pos p : Pos} {n f : Nat} {x : Str} {ps : List Str} {st : Stmt}
theorem xe_call (F : FnI X.prog X.w X.K X.mg X.base Γ n f x ps st) (hr : Room n X.A) (hg : Gl X x) (ha : PA X (e :: es) (trA X.K Γ cs))
    (hdb : (x == ("__debug__" : Str)) = false := by decide) (he : starEach (e :: es) X.env = (false, eval e X.env) :: starEach es X.env := by rfl) (hpl : (backTo pos (starEach es X.env)).any (·.1) = false := by rfl) :
    PE X (.Call (.Name x p) (e :: es) [] pos) (tr X.K Γ (.call f cs)) := by
  obtain ⟨fa, fd, h1, h2, h3, hb⟩ := F.ex
  refine pe_w (pe_call (E := E0) h3 hr hg h1 h2.kp hb .nil pass0 ha hdb he hpl) fun σ H Q ⟨α, env, S, d, S', ok, en, e, k⟩ => ?_
  simp only [ev, Option.bind_eq_some_iff] at e
  obtain ⟨⟨d1, S1⟩, e1, ds, e2, e3⟩ := e
  cases argsOf_some e2
  refine ⟨α, env, S, ds, S1, ok, en, e1, fun α1 H1 vs x1 ok1 r1 => ?_⟩
  show spF X.K Γ f (vs ++ []) H1 Q E0
  rw [List.append_nil]
  exact ⟨α1, S1, ds, d, S', ok1, r1, e3, fun α2 H2 v x2 ok2 r2 => k α2 H2 v (x1.trans x2) ok2 r2⟩
def narg : E → Option Nat
  | .nil => some 0
  | .cons _ es => (narg es).map (· + 1)
  | _ => none
theorem narg_len : ∀ {cs : E} {m : Nat} {env : Sl} {S : Hd} {ds : List D} {S' : Hd}, narg cs = some m → ev Γ cs env S = some (.tup ds, S') → ds.length = m
  | .nil, m, env, S, ds, S', h, e => by
    simp only [narg, Option.some.injEq] at h
    simp only [ev, Option.some.injEq, Prod.mk.injEq, D.tup.injEq] at e
    rw [← e.1, ← h]
    rfl
  | .cons a es, m, env, S, ds, S', h, e => by
    simp only [narg, Option.map_eq_some_iff] at h
    obtain ⟨m1, h, rfl⟩ := h
    simp only [ev, Option.bind_eq_some_iff, Option.map_eq_some_iff, Prod.mk.injEq, D.tup.injEq] at e
    obtain ⟨⟨d1, S1⟩, e1, ⟨d2, S2⟩, e2, dr, e3, rfl, rfl⟩ := e
    cases argsOf_some e3
    rw [List.length_cons, narg_len h e2]
theorem rel_get {vs : List V} {us : List Value} (r : Vals vs us) (i : Nat) : (∃ v u, vs[i]? = some v ∧ us[i]? = some u ∧ RelV v u) ∨ (vs[i]? = none ∧ us[i]? = none) := by
  cases h : vs[i]? with
  | none => exact .inr ⟨rfl, r.none_of h⟩
  | some v =>
    obtain ⟨u, h1, h2⟩ := r.get h
    exact .inl ⟨v, u, rfl, h1, h2⟩
theorem rel_perm {vs : List V} {us : List Value} (r : Vals vs us) : ∀ perm : List Nat, Vals (permV perm vs) (permV perm us)
  | [] => .nil
  | i :: perm => by
    unfold permV
    rcases rel_get r i with ⟨v, u, h1, h2, h3⟩ | ⟨h1, h2⟩
    · rw [List.filterMap_cons, List.filterMap_cons, h1, h2]
      exact .cons h3 (rel_perm r perm)
    · rw [List.filterMap_cons, List.filterMap_cons, h1, h2]
      exact rel_perm r perm
theorem Rps.perm {K : PySem.W.Frag} {α : List Addr} {H : Hp} {ds : List D} {vs : List V} (r : Rps K α H ds vs) : ∀ perm : List Nat, Rps K α H (permV perm ds) (permV perm vs)
  | [] => .nil
  | i :: perm => by
    unfold permV
    cases h : ds[i]? with
    | none =>
      have h2 : vs[i]? = none := by
        rw [List.getElem?_eq_none_iff, r.len]
        exact List.getElem?_eq_none_iff.mp h
      rw [List.filterMap_cons, List.filterMap_cons, h, h2]
      exact Rps.perm r perm
    | some d =>
      obtain ⟨v, h2, q⟩ := r.get h
      rw [List.filterMap_cons, List.filterMap_cons, h, h2]
      exact .cons q (Rps.perm r perm)
theorem xk_nil : PK X [] (trA X.K Γ .nil) := ⟨fun pos pins s σ H Q I h => pk_nil.run pos pins s σ H Q I (by
  obtain ⟨α, env, S, ds, S', ok, en, e, k⟩ := h
  simp only [ev, Option.some.injEq, Prod.mk.injEq, D.tup.injEq] at e
  obtain ⟨rfl, rfl⟩ := e
  exact k α H [] Xt.refl ok .nil)⟩
theorem xk_cons {nm : Option Str} {kpos : Pos} {kws : List Keyword} {ca : E} (ha : PE X e (tr X.K Γ ca)) (hr : PK X kws (trA X.K Γ cs)) : PK X (⟨nm, e, kpos⟩ :: kws) (trA X.K Γ (.cons ca cs)) :=
  ⟨fun pos pins s σ H Q I h => (pk_cons ha hr).run pos pins s σ H Q I (w_cons h)⟩
/-- f(e, .., k = v, ..) -/
theorem xe_callK {kws : List Keyword} (F : FnI X.prog X.w X.K X.mg X.base Γ n f x ps st) (ks : List Str) (perm : List Nat) (m : Nat)
    (kb : ∀ (kV doc pm : Value) (an : Option Addr) (cdv ct : Value) (us ws : List Value), us.length = m → ws.length = ks.length → bindArgs (PySem.W.fnOf x x (defArgs st) (defBody st) (defScope st) .none kV doc pm an cdv ct) ⟨us, ks.zip ws⟩ = pure (ps.zip (permV perm (us ++ ws))))
    (hn : narg cs = some m) (hnk : narg ck = some ks.length) (hr : Room n X.A) (hg : Gl X x) (ha : PA X (e :: es) (trA X.K Γ cs)) (hk : PK X kws (trA X.K Γ ck))
    (hall : (backToKw pos (keywordEach kws X.env)).all (·.1.isSome) = true := by rfl) (hks : (backToKw pos (keywordEach kws X.env)).filterMap (·.1) = ks := by rfl)
    (hdb : (x == ("__debug__" : Str)) = false := by decide) (he : starEach (e :: es) X.env = (false, eval e X.env) :: starEach es X.env := by rfl)
    (hpl : ((backTo pos (starEach (e :: es) X.env)).any (·.1) || (backToKw pos (keywordEach kws X.env)).any (·.1.isNone)) = false := by rfl) :
    PE X (.Call (.Name x p) (e :: es) kws pos) (tr X.K Γ (.callK f cs ck perm)) := by
  obtain ⟨fa, fd, h1, h2, h3, hb⟩ := F.ex
  obtain ⟨oc, od, kV, doc, pm, an, cdv, ct, osl, rfl, lk, hcd⟩ := h2.ex
  have hB : KBn X.K (PySem.W.fnOf x x (defArgs st) (defBody st) (defScope st) .none kV doc pm an cdv ct) ps m ks (fun us ws => permV perm (us ++ ws)) (fun us ws => permV perm (us ++ ws)) :=
    ⟨fun s us ws _ l1 l2 => .of_eq (kb kV doc pm an cdv ct us ws l1 l2), fun r1 r2 => rel_perm (r1.append r2) perm⟩
  refine pe_w (pe_callN (E := E0) h3 hr hg h1 h2.kp hB pass0 ha hk hall hks hdb he hpl) fun σ H Q ⟨α, env, S, d, S', ok, en, e, k⟩ => ?_
  simp only [ev, Option.bind_eq_some_iff] at e
  obtain ⟨⟨d1, S1⟩, e1, ds, e2, ⟨d2, S2⟩, e3, zs, e4, e5⟩ := e
  cases argsOf_some e2
  cases argsOf_some e4
  have l1 := narg_len hn e1
  have l2 := narg_len hnk e3
  exact ⟨α, env, S, ds, S1, ok, en, e1, fun α1 H1 vs x1 ok1 r1 => ⟨α1, env, S1, zs, S2, ok1, en.mono x1, e3, fun α2 H2 ws x2 ok2 r2 => ⟨by rw [r1.len, l1], by rw [r2.len, l2],
      α2, S2, _, d, S', ok2, ((r1.mono x2).append r2).perm perm, e5, fun α3 H3 v x3 ok3 r3 => k α3 H3 v (x1.trans (x2.trans x3)) ok3 r3⟩⟩⟩
/-- f(k = v, ..) -/
theorem xe_callK0 {kws : List Keyword} (F : FnI X.prog X.w X.K X.mg X.base Γ n f x ps st) (ks : List Str) (perm : List Nat)
    (kb : ∀ (kV doc pm : Value) (an : Option Addr) (cdv ct : Value) (ws : List Value), ws.length = ks.length → bindArgs (PySem.W.fnOf x x (defArgs st) (defBody st) (defScope st) .none kV doc pm an cdv ct) ⟨[], ks.zip ws⟩ = pure (ps.zip (permV perm ws)))
    (hnk : narg ck = some ks.length) (hr : Room n X.A) (hg : Gl X x) (hk : PK X kws (trA X.K Γ ck))
    (hall : (backToKw pos (keywordEach kws X.env)).all (·.1.isSome) = true := by rfl) (hks : (backToKw pos (keywordEach kws X.env)).filterMap (·.1) = ks := by rfl)
    (hdb : (x == ("__debug__" : Str)) = false := by decide)
    (hpl : ((backTo pos (starEach [] X.env)).any (·.1) || (backToKw pos (keywordEach kws X.env)).any (·.1.isNone)) = false := by rfl) :
    PE X (.Call (.Name x p) [] kws pos) (tr X.K Γ (.callK f .nil ck perm)) := by
  obtain ⟨fa, fd, h1, h2, h3, hb⟩ := F.ex
  obtain ⟨oc, od, kV, doc, pm, an, cdv, ct, osl, rfl, lk, hcd⟩ := h2.ex
  have hB : KBn X.K (PySem.W.fnOf x x (defArgs st) (defBody st) (defScope st) .none kV doc pm an cdv ct) ps 0 ks (fun us ws => permV perm (us ++ ws)) (fun us ws => permV perm (us ++ ws)) :=
    ⟨fun s us ws _ l1 l2 => (match us, l1 with | [], _ => .of_eq (kb kV doc pm an cdv ct ws l2)), fun r1 r2 => rel_perm (r1.append r2) perm⟩
  refine ⟨fun pins s σ H Q I h => ?_⟩
  obtain ⟨α, env, S, d, S', ok, en, e, k⟩ := h
  simp only [ev, Option.bind_eq_some_iff, Option.some.injEq] at e
  obtain ⟨_, rfl, ds, e1, ⟨d2, S2⟩, e3, zs, e4, e5⟩ := e
  cases argsOf_some e1
  cases argsOf_some e4
  have l2 := narg_len hnk e3
  refine wpAny_Call_Name_kw (ld_glob I hg h1 ?_ hdb)
  refine PySem.W.callWith_KW0 (h₀ := X.base) I.ok.mod.kin h2.kp hall (thn (hk.run pos pins s σ H (fun ws H2 => ws.length = ks.length ∧ spF X.K Γ f (permV perm ([] ++ ws)) H2 Q E0) I ?_) fun ws s2 ⟨zs, H2, I2, rz, l3, q2⟩ => ⟨I2.kIn, ?_⟩) hpl
  · exact ⟨α, env, S, zs, S2, ok, en, e3, fun α2 H2 ws x2 ok2 r2 => ⟨by rw [r2.len, l2], α2, S2, _, d, S', ok2, Rps.perm (by simpa using r2) perm, e5, fun α3 H3 v x3 ok3 r3 => k α3 H3 v (x2.trans x3) ok3 r3⟩⟩
  · rw [hks]
    exact run_fnN h3 hr hB pass0 I2 (.nil : Vals [] []) rz rfl l3 q2
end
end Ix

namespace Ix
open PySem L2
/-! ### targets -/
theorem wipe_set {σ : L2.St} {i : Nat} {x : Option V} : ∀ {own : List Nat}, wipe (σ.set i x) own = if i ∈ own then wipe σ own else (wipe σ own).set i x
  | [] => by simp [wipe]
  | v :: vs => by
    unfold wipe
    rw [wipe_set (own := vs)]
    by_cases h1 : i ∈ vs
    · rw [if_pos h1, if_pos (List.mem_cons_of_mem _ h1)]
    · rw [if_neg h1]
      by_cases h2 : i = v
      · subst h2
        rw [if_pos List.mem_cons_self, List.set_set]
      · rw [if_neg (by simp [h1, h2]), List.set_comm _ _ h2]
theorem wipe_wipe {σ : L2.St} : ∀ {own own2 : List Nat}, (∀ v ∈ own2, v ∈ own) → wipe (wipe σ own2) own = wipe σ own
  | own, [], _ => rfl
  | own, v :: vs, h => by
    show wipe ((wipe σ vs).set v none) own = wipe σ own
    rw [wipe_set, if_pos (h v List.mem_cons_self)]
    exact wipe_wipe fun u hu => h u (List.mem_cons_of_mem _ hu)
theorem wipeD_En {K : PySem.W.Frag} {α : List Addr} {H : Hp} {env : Sl} {σ : L2.St} (en : En K α H env σ) : ∀ own : List Nat, En K α H (wipeD env own) (wipe σ own)
  | [] => en
  | v :: vs => by
    have ih := wipeD_En en vs
    refine ⟨by simp [wipe, wipeD, ih.len], fun i d h => ?_⟩
    unfold wipeD at h
    unfold wipe
    by_cases e : v = i
    · subst e
      rw [List.getElem?_set] at h
      simp only [if_true] at h
      split at h <;> cases h
    · rw [List.getElem?_set_ne e] at h ⊢
      exact ih.at_ i d h
section
variable {X : Cx} {Γ : Fs} {e : Expr} {es : List Expr} {pos : Pos}
theorem xg_name (i : Nat) {x : Str} (hN : X.N.Nodup) (hi : X.N[i]? = some x := by rfl) (hx : Loc X.env.scope x := by first | exact Or.inl rfl | exact Or.inr rfl) (hf : X.fn x = true ∨ X.env.scope.names.lookup x = some .local := by first | exact .inl rfl | exact .inr rfl | assumption) : PG X (.Name x pos) (trG X.K (.name i)) :=
  pg_w (pg_name hN hi hx hf) fun v σ H Q ⟨α, env, d, env', r, en, e, k⟩ => by
    simp only [asgG, Option.some.injEq] at e
    subst e
    refine k _ (en.set i r) fun own h => ?_
    rw [wipe_set, if_pos (by simpa [gOk] using h)]
theorem xgs_nil : PGs X [] (trGs X.K .nil) := ⟨fun pins s σ H vs us Q I r ⟨α, env, ds, env', rs, en, e, k⟩ => pgs_nil.run pins s σ H vs us Q I r (by
  cases ds with
  | nil =>
    simp only [asgG, Option.some.injEq] at e
    subst e
    exact ⟨rs.unnil, k _ en fun _ _ => rfl⟩
  | cons _ _ => simp [asgG] at e)⟩
theorem xgs_cons {g h : G} (h1 : PG X e (trG X.K g)) (h2 : PGs X es (trGs X.K h)) (hs : (assignEach (e :: es) X.env).map (·.2) = assign e X.env :: (assignEach es X.env).map (·.2) := by rfl) : PGs X (e :: es) (trGs X.K (.cons g h)) :=
  ⟨fun pins s σ H vs us Q I r ⟨α, env, ds, env', rs, en, e, k⟩ => (pgs_cons h1 h2 hs).run pins s σ H vs us Q I r (by
    cases ds with
    | nil => simp [asgG] at e
    | cons d ds =>
      simp only [asgG, Option.bind_eq_some_iff] at e
      obtain ⟨env1, e1, e2⟩ := e
      obtain ⟨w, ws, rfl, r1, r2⟩ := rs.uncons
      refine ⟨w, ws, rfl, α, env, d, env1, r1, en, e1, fun σ1 en1 w1 => ⟨α, env1, ds, env', r2, en1, e2, fun σ2 en2 w2 => k σ2 en2 fun own ho => ?_⟩⟩
      simp only [gOk, Bool.and_eq_true] at ho
      rw [w2 own ho.2, w1 own ho.1])⟩
theorem asg_len : ∀ {g : G} {n : Nat} {ds : List D} {env env' : Sl}, (∃ m, m = g) → gLen g = some n → asgG g (.tup ds) env = some env' → ds.length = n
  | .nil, n, ds, env, env', _, h, e => by
    simp only [gLen, Option.some.injEq] at h
    cases ds with
    | nil => exact h
    | cons _ _ => simp [asgG] at e
  | .cons g1 g2, n, ds, env, env', _, h, e => by
    simp only [gLen, Option.map_eq_some_iff] at h
    obtain ⟨m, h, rfl⟩ := h
    cases ds with
    | nil => simp [asgG] at e
    | cons d ds =>
      simp only [asgG, Option.bind_eq_some_iff] at e
      obtain ⟨env1, e1, e2⟩ := e
      rw [List.length_cons, asg_len ⟨_, rfl⟩ h e2]
  | .name _, n, ds, env, env', _, h, e => by simp [gLen] at h
  | .tup _, n, ds, env, env', _, h, e => by simp [gLen] at h
theorem xg_tup {g : G} {k n : Nat} (hc : X.calm = true) (h : PGs X es (trGs X.K g)) (hl : gLen g = some n := by rfl) (hn : (assignEach es X.env).length = n := by rfl) (hst : (assignEach es X.env).findIdx? (·.1) = none := by rfl) : PG X (.Tuple es k pos) (trG X.K (.tup g)) :=
  pg_w (pg_tup hc h hn hst) fun v σ H Q ⟨α, env, d, env', r, en, e, k⟩ => by
    cases d with
    | tup xs =>
      simp only [asgG] at e
      cases r with
      | tup h1 l q => exact ⟨_, _, rfl, h1, by rw [l, asg_len ⟨_, rfl⟩ hl e], α, env, xs, env', ⟨l, q⟩, en, e, fun σ' en' w => k σ' en' fun own ho => w own (by simpa [gOk] using ho)⟩
    | _ => simp [asgG] at e
end

/-! ### what is walked -/
def trI (K : PySem.W.Frag) (Γ : Fs) (k : Ik) (c : E) : TI := fun σ H R => ∃ α env S ds S' its, Ok K α S H ∧ En K α H env σ ∧ ev Γ c env S = some (.tup ds, S') ∧ items k ds S' = some its ∧
  ∀ (α' : List Addr) (H' : Hp) (J : It) (G : Hp → Prop) (Y : Nat → Hp → V → Hp → Prop), Xt K α H α' H' → Ok K α' S' H' → Walk J its.length G Y →
    (∀ α2 S2 H2, Xt K α' H' α2 H2 → Ok K α2 S2 H2 → items k ds S2 = some its → G H2) →
    (∀ i α2 S2 H2 x H3, Xt K α' H' α2 H2 → Ok K α2 S2 H2 → items k ds S2 = some its → i < its.length → Y i H2 x H3 → ∃ d, its[i]? = some d ∧ Xt K α2 H2 α2 H3 ∧ Ok K α2 S2 H3 ∧ Rp K α2 H3 d x) → R J H'
section
variable {K : PySem.W.Frag} {a b : Addr} {n : Nat}
theorem walk_listE : Walk (Itl K a) n (fun H => ∃ vs, SqL K H a vs ∧ vs.length = n) (fun i H x H' => H' = H ∧ ∀ vs, SqL K H a vs → vs[i]? = some x) :=
  ⟨fun i _ hi ⟨vs, q, l⟩ => ⟨vs, vs[i]'(by omega), q, by simp⟩, fun _ ⟨vs, q, l⟩ => ⟨vs, q, by omega⟩, fun _ _ _ _ _ _ y => y⟩
theorem walk_tupE : Walk (Itt K a) n (fun H => ∃ vs, SqT K H a vs ∧ vs.length = n) (fun i H x H' => H' = H ∧ ∀ vs, SqT K H a vs → vs[i]? = some x) :=
  ⟨fun i _ hi ⟨vs, q, l⟩ => ⟨vs, vs[i]'(by omega), q, by simp⟩, fun _ ⟨vs, q, l⟩ => ⟨vs, q, by omega⟩, fun _ _ _ _ _ _ y => y⟩
theorem walk_zipE : Walk (Itz K a b) n (fun H => ∃ vs us, SqL K H a vs ∧ SqL K H b us ∧ min vs.length us.length = n)
    (fun i H v H' => ∃ T x y, v = .ref T ∧ H T = none ∧ H' = upd H T (.tup [x, y]) ∧ (∀ xs, SqL K H a xs → xs[i]? = some x) ∧ ∀ ys, SqL K H b ys → ys[i]? = some y) :=
  ⟨fun i _ hi ⟨vs, us, q, r, l⟩ => ⟨vs, us, vs[i]'(by omega), us[i]'(by omega), q, r, by simp, by simp⟩, fun _ ⟨vs, us, q, r, l⟩ => ⟨vs, us, q, r, by omega⟩, fun _ _ _ _ _ _ y => y⟩
theorem walk_zipTE : Walk (RZ.ItzT K a b) n (fun H => ∃ vs us, SqT K H a vs ∧ SqT K H b us ∧ min vs.length us.length = n)
    (fun i H v H' => ∃ T x y, v = .ref T ∧ H T = none ∧ H' = upd H T (.tup [x, y]) ∧ (∀ xs, SqT K H a xs → xs[i]? = some x) ∧ ∀ ys, SqT K H b ys → ys[i]? = some y) :=
  ⟨fun i _ hi ⟨vs, us, q, r, l⟩ => ⟨vs, us, vs[i]'(by omega), us[i]'(by omega), q, r, by simp, by simp⟩, fun _ ⟨vs, us, q, r, l⟩ => ⟨vs, us, q, r, by omega⟩, fun _ _ _ _ _ _ y => y⟩
end
section
variable {X : Cx} {Γ : Fs} {tg e e2 : Expr} {c c2 cs : E} {pos p : Pos}
theorem seq_lst {K : PySem.W.Frag} {α : List Addr} {S : Hd} {H : Hp} {d : D} {a : Addr} {xs : List D} (ok : Ok K α S H) (r : Rp K α H d (.ref a)) (h : seqOf S d = some xs) (nt : isTup d = false) : ∃ vs, SqL K H a vs ∧ Rps K α H xs vs := by
  obtain ⟨a', vs, e, rs, z⟩ := seq_of ok r h
  cases e
  rcases z with ⟨z, _⟩ | ⟨_, z⟩
  · rw [nt] at z
    cases z
  · exact ⟨vs, z, rs⟩
theorem seq_tup {K : PySem.W.Frag} {α : List Addr} {S : Hd} {H : Hp} {d : D} {a : Addr} {xs : List D} (ok : Ok K α S H) (r : Rp K α H d (.ref a)) (h : seqOf S d = some xs) (nt : isTup d = true) : ∃ vs, SqT K H a vs ∧ Rps K α H xs vs := by
  obtain ⟨a', vs, e, rs, z⟩ := seq_of ok r h
  cases e
  rcases z with ⟨_, z⟩ | ⟨z, _⟩
  · exact ⟨vs, z, rs⟩
  · rw [nt] at z
    cases z
theorem xi_seq (h : PE X e (tr X.K Γ c)) : PI X tg e (trI X.K Γ .seq (.cons c .nil)) := by
  refine ⟨fun pins s σ H R I ⟨α, env, S, ds, S', its, ok, en, e1, e2, k⟩ => ?_⟩
  simp only [ev, Option.bind_eq_some_iff, Option.map_eq_some_iff, Option.some.injEq, Prod.mk.injEq, D.tup.injEq] at e1
  obtain ⟨⟨d, S1⟩, e1, _, rfl, dr, e3, rfl, rfl⟩ := e1
  cases argsOf_some e3
  simp only [items] at e2
  cases ht : isTup d with
  | true =>
    refine (pi_tup h).run pins s σ H R I ⟨α, env, S, d, S1, ok, en, e1, fun α1 H1 v x1 ok1 r1 => ?_⟩
    obtain ⟨a, vs, rfl, rs, z⟩ := seq_of ok1 r1 e2
    obtain ⟨vs, z, rs⟩ := seq_tup ok1 r1 e2 ht
    refine ⟨a, rfl, ⟨vs, z⟩, k α1 H1 _ _ _ x1 ok1 walk_tupE (fun α2 S2 H2 x2 ok2 e4 => ?_) fun i α2 S2 H2 x H3 x2 ok2 e4 hi ⟨y1, y2⟩ => ?_⟩
    · obtain ⟨ws, w1, w2⟩ := seq_tup ok2 (r1.mono x2) (show seqOf S2 d = some its from e4) ht
      exact ⟨ws, w1, w2.len⟩
    · obtain ⟨ws, w1, w2⟩ := seq_tup ok2 (r1.mono x2) (show seqOf S2 d = some its from e4) ht
      obtain ⟨d', q1, q2⟩ := w2.getV (y2 ws w1)
      subst y1
      exact ⟨d', q1, Xt.refl, ok2, q2⟩
  | false =>
    refine (pi_list h).run pins s σ H R I ⟨α, env, S, d, S1, ok, en, e1, fun α1 H1 v x1 ok1 r1 => ?_⟩
    obtain ⟨a, vs, rfl, rs, z⟩ := seq_of ok1 r1 e2
    obtain ⟨vs, z, rs⟩ := seq_lst ok1 r1 e2 ht
    refine ⟨a, rfl, ⟨vs, z⟩, k α1 H1 _ _ _ x1 ok1 walk_listE (fun α2 S2 H2 x2 ok2 e4 => ?_) fun i α2 S2 H2 x H3 x2 ok2 e4 hi ⟨y1, y2⟩ => ?_⟩
    · obtain ⟨ws, w1, w2⟩ := seq_lst ok2 (r1.mono x2) (show seqOf S2 d = some its from e4) ht
      exact ⟨ws, w1, w2.len⟩
    · obtain ⟨ws, w1, w2⟩ := seq_lst ok2 (r1.mono x2) (show seqOf S2 d = some its from e4) ht
      obtain ⟨d', q1, q2⟩ := w2.getV (y2 ws w1)
      subst y1
      exact ⟨d', q1, Xt.refl, ok2, q2⟩
theorem xi_range1 (hg : Gl X "range") (hm : X.mg "range" = none) (ha : PA X [e] (trA X.K Γ cs)) (hs : starEach [e] X.env = [(false, eval e X.env)] := by rfl) : PI X tg (.Call (.Name "range" p) [e] [] pos) (trI X.K Γ .range1 cs) := by
  refine ⟨fun pins s σ H R I ⟨α, env, S, ds, S', its, ok, en, e1, e2, k⟩ => ?_⟩
  match ds, e1, e2 with
  | [x], e1, e2 =>
    cases x with
    | int j =>
      simp only [items] at e2
      split at e2
      · rename_i hb
        simp only [Option.some.injEq] at e2
        refine (pi_range1 hg hm ha hs).run pins s σ H R I ⟨α, env, S, _, S', ok, en, e1, fun α1 H1 vs x1 ok1 r1 => ?_⟩
        obtain ⟨v, rfl, r2⟩ := r1.one'
        cases r2
        have hl : its.length = j.toNat := by rw [← e2]; simp
        refine ⟨j, rfl, hb.1, hb.2, k α1 H1 _ _ _ x1 ok1 (show Walk (Itr 0 j.toNat) its.length (fun _ => True) (YFn fun i => .int (0 + i)) by rw [hl]; exact walk_range) (fun _ _ _ _ _ _ => trivial) fun i α2 S2 H2 x H3 x2 ok2 e4 hi ⟨y1, y2⟩ => ?_⟩
        subst y1 y2
        refine ⟨.int (0 + (i : Int)), ?_, Xt.refl, ok2, .int _⟩
        rw [← e2, List.getElem?_map, List.getElem?_range (by omega)]
        rfl
      · cases e2
    | _ => simp [items] at e2
  | [], e1, e2 => simp [items] at e2
  | x :: _ :: _, e1, e2 => cases x <;> simp [items] at e2
theorem xi_range2 (hg : Gl X "range") (hm : X.mg "range" = none) (ha : PA X [e, e2] (trA X.K Γ cs)) (hs : starEach [e, e2] X.env = [(false, eval e X.env), (false, eval e2 X.env)] := by rfl) (hs2 : starEach [e2] X.env = [(false, eval e2 X.env)] := by rfl) : PI X tg (.Call (.Name "range" p) [e, e2] [] pos) (trI X.K Γ .range2 cs) := by
  refine ⟨fun pins s σ H R I ⟨α, env, S, ds, S', its, ok, en, e1, e3, k⟩ => ?_⟩
  match ds, e1, e3 with
  | [x, y], e1, e3 =>
    cases x with
    | int i =>
      cases y with
      | int j =>
        simp only [items] at e3
        split at e3
        · rename_i hb
          simp only [Option.some.injEq] at e3
          refine (pi_range2 hg hm ha hs hs2).run pins s σ H R I ⟨α, env, S, _, S', ok, en, e1, fun α1 H1 vs x1 ok1 r1 => ?_⟩
          obtain ⟨v, u, rfl, r2, r3⟩ := r1.two'
          cases r2
          cases r3
          have hl : its.length = (j - i).toNat := by rw [← e3]; simp
          refine ⟨i, j, rfl, hb, k α1 H1 _ _ _ x1 ok1 (show Walk (Itr i (j - i).toNat) its.length (fun _ => True) (YFn fun m => .int (i + m)) by rw [hl]; exact walk_range) (fun _ _ _ _ _ _ => trivial) fun m α2 S2 H2 x H3 x2 ok2 e4 hi ⟨y1, y2⟩ => ?_⟩
          subst y1 y2
          refine ⟨.int (i + (m : Int)), ?_, Xt.refl, ok2, .int _⟩
          rw [← e3, List.getElem?_map, List.getElem?_range (by omega)]
          rfl
        · cases e3
      | _ => simp [items] at e3
    | _ => cases y <;> simp [items] at e3
  | [], e1, e3 => simp [items] at e3
  | [x], e1, e3 => cases x <;> simp [items] at e3
  | x :: y :: _ :: _, e1, e3 => cases x <;> cases y <;> simp [items] at e3
theorem zip_items {S : Hd} {x y : D} {its : List D} (h : items .zip [x, y] S = some its) : isTup x = isTup y ∧ ∃ xs ys, seqOf S x = some xs ∧ seqOf S y = some ys ∧ its = List.zipWith (fun a b => .tup [a, b]) xs ys := by
  simp only [items] at h
  split at h
  · rename_i ht
    simp only [Option.bind_eq_some_iff, Option.map_eq_some_iff] at h
    obtain ⟨xs, h1, ys, h2, rfl⟩ := h
    exact ⟨ht, xs, ys, h1, h2, rfl⟩
  · cases h
theorem zip_turn {K : PySem.W.Frag} {α : List Addr} {S : Hd} {H H3 : Hp} {xs ys : List D} {vs us : List V} {v : V} {i : Nat} {T : Addr} {x y : V} (ok : Ok K α S H) (r1 : Rps K α H xs vs) (r2 : Rps K α H ys us) (e1 : v = .ref T) (hT : H T = none) (e2 : H3 = upd H T (.tup [x, y]))
    (h1 : vs[i]? = some x) (h2 : us[i]? = some y) : ∃ d, (List.zipWith (fun a b => D.tup [a, b]) xs ys)[i]? = some d ∧ Xt K α H α H3 ∧ Ok K α S H3 ∧ Rp K α H3 d v := by
  obtain ⟨dx, q1, q2⟩ := r1.getV h1
  obtain ⟨dy, q3, q4⟩ := r2.getV h2
  subst e1 e2
  exact ⟨.tup [dx, dy], by rw [List.getElem?_zipWith, q1, q3], Xt.fresh hT, ok.fresh hT, Rp.newT hT (.cons q2 (.cons q4 .nil))⟩
theorem xi_zip {elts : List Expr} {kk : Nat} {tpos : Pos} (hg : Gl X "zip") (hm : X.mg "zip" = none) (ha : PA X [e, e2] (trA X.K Γ cs)) (hs : starEach [e, e2] X.env = (false, eval e X.env) :: starEach [e2] X.env := by rfl) (hpl : (backTo pos (starEach [e2] X.env)).any (·.1) = false := by rfl) :
    PI X (.Tuple elts kk tpos) (.Call (.Name "zip" p) [e, e2] [] pos) (trI X.K Γ .zip cs) := by
  refine ⟨fun pins s σ H R I ⟨α, env, S, ds, S', its, ok, en, e1, e3, k⟩ => ?_⟩
  match ds, e1, e3 with
  | [x, y], e1, e3 =>
    refine (RZ.pi_zipA hg hm ha hs hpl).run pins s σ H R I ⟨α, env, S, _, S', ok, en, e1, fun α1 H1 vs x1 ok1 r1 => ?_⟩
    obtain ⟨v, u, rfl, r2, r3⟩ := r1.two'
    obtain ⟨ht, xs, ys, h1, h2, ei⟩ := zip_items e3
    obtain ⟨a, _, rfl, _, _⟩ := seq_of ok1 r2 h1
    obtain ⟨b, _, rfl, _, _⟩ := seq_of ok1 r3 h2
    cases hx : isTup x with
    | true =>
      have hy : isTup y = true := by rw [← ht, hx]
      obtain ⟨vs, z1, q1⟩ := seq_tup ok1 r2 h1 hx
      obtain ⟨us, z2, q2⟩ := seq_tup ok1 r3 h2 hy
      refine ⟨a, b, vs, us, rfl, .inr ⟨z1, z2, k α1 H1 _ _ _ x1 ok1 walk_zipTE (fun α2 S2 H2 x2 ok2 e4 => ?_) fun i α2 S2 H2 w H3 x2 ok2 e4 hi ⟨T, x', y', f1, f2, f3, f4, f5⟩ => ?_⟩⟩
      · obtain ⟨_, xs', ys', g1, g2, g3⟩ := zip_items e4
        obtain ⟨vs', w1, w2⟩ := seq_tup ok2 (r2.mono x2) g1 hx
        obtain ⟨us', w3, w4⟩ := seq_tup ok2 (r3.mono x2) g2 hy
        exact ⟨vs', us', w1, w3, by rw [w2.len, w4.len, g3, List.length_zipWith]⟩
      · obtain ⟨_, xs', ys', g1, g2, g3⟩ := zip_items e4
        obtain ⟨vs', w1, w2⟩ := seq_tup ok2 (r2.mono x2) g1 hx
        obtain ⟨us', w3, w4⟩ := seq_tup ok2 (r3.mono x2) g2 hy
        rw [g3]
        exact zip_turn ok2 w2 w4 f1 f2 f3 (f4 _ w1) (f5 _ w3)
    | false =>
      have hy : isTup y = false := by rw [← ht, hx]
      obtain ⟨vs, z1, q1⟩ := seq_lst ok1 r2 h1 hx
      obtain ⟨us, z2, q2⟩ := seq_lst ok1 r3 h2 hy
      refine ⟨a, b, vs, us, rfl, .inl ⟨z1, z2, k α1 H1 _ _ _ x1 ok1 walk_zipE (fun α2 S2 H2 x2 ok2 e4 => ?_) fun i α2 S2 H2 w H3 x2 ok2 e4 hi ⟨T, x', y', f1, f2, f3, f4, f5⟩ => ?_⟩⟩
      · obtain ⟨_, xs', ys', g1, g2, g3⟩ := zip_items e4
        obtain ⟨vs', w1, w2⟩ := seq_lst ok2 (r2.mono x2) g1 hx
        obtain ⟨us', w3, w4⟩ := seq_lst ok2 (r3.mono x2) g2 hy
        exact ⟨vs', us', w1, w3, by rw [w2.len, w4.len, g3, List.length_zipWith]⟩
      · obtain ⟨_, xs', ys', g1, g2, g3⟩ := zip_items e4
        obtain ⟨vs', w1, w2⟩ := seq_lst ok2 (r2.mono x2) g1 hx
        obtain ⟨us', w3, w4⟩ := seq_lst ok2 (r3.mono x2) g2 hy
        rw [g3]
        exact zip_turn ok2 w2 w4 f1 f2 f3 (f4 _ w1) (f5 _ w3)
  | [], e1, e3 => simp [items] at e3
  | [x], e1, e3 => simp [items] at e3
  | x :: y :: _ :: _, e1, e3 => simp [items] at e3
end
end Ix

namespace Ix
open PySem L2 PySem.Spec PyProof.Rows HT
/-! ### t[::-1] of a tuple -/
section
variable {prog : Program} {w : World} {A : Around} {E : Value → Shared → Prop} {s : Shared}
theorem adjust_back (n : Nat) : Builtin.Slice.sliceAdjust none none (-1) (n : Int) = ((n : Int) - 1, -1) := by
  unfold Builtin.Slice.sliceAdjust
  simp
theorem places_back (n : Nat) : Builtin.Slice.slicePlaces ((n : Int) - 1) (-1) (-1) = n := by
  unfold Builtin.Slice.slicePlaces
  have h1 : ¬ ((-1 : Int) > 0) := by omega
  simp only [h1, if_false]
  split
  · have : ((n : Int) - 1 - -1 - 1) / (- -1) = n - 1 := by
      rw [show (- -1 : Int) = 1 by rfl, Int.ediv_one]
      omega
    rw [this]
    omega
  · simp only [Int.toNat_zero]
    omega
theorem applied_back {sl : Addr} {t : Tok} {n : Nat} {Q : Int × Int × Nat → Shared → Prop} (hs : s.heap.IsSliceOf sl .none .none (.int (-1) t))
    (h : Q ((n : Int) - 1, -1, n) s) : wpAny (model prog w) A (Builtin.Slice.sliceApplied (.ref sl) (pure (n : Int))) Q E s := by
  obtain ⟨os, hos, hcs, hds⟩ := id hs
  unfold Builtin.Slice.sliceApplied Builtin.Slice.sliceFields
  refine wpAny_bind (wpAny_bind (wpAny_field hos hds (x := .none) rfl (wpAny_bind (wpAny_field hos hds (x := .none) rfl (wpAny_bind (wpAny_field hos hds (x := .int (-1) t) rfl (wpAny_pure ?_)))))))
  refine wpAny_bind (slicePart_int ?_)
  show wpAny _ _ (if ((-1 : Int) == 0) = true then _ else _) _ _ s
  rw [if_neg (by decide)]
  refine wpAny_bind (slicePart_none (wpAny_bind (slicePart_none (wpAny_bind (wpAny_pure ?_)))))
  show wpAny _ _ (match Builtin.Slice.sliceAdjust none none (-1) (n : Int) with | (lo, hi) => pure (lo, (-1 : Int), Builtin.Slice.slicePlaces lo hi (-1))) _ _ s
  rw [adjust_back]
  show wpAny _ _ (pure ((n : Int) - 1, (-1 : Int), Builtin.Slice.slicePlaces ((n : Int) - 1) (-1) (-1))) _ _ s
  rw [places_back]
  exact wpAny_pure h
theorem pick_back (xs : Array Value) : ((List.range xs.size).filterMap fun (m : Nat) => xs[(((xs.size : Int) - 1) + (m : Int) * (-1)).toNat]?).toArray = xs.toList.reverse.toArray := by
  congr 1
  apply List.ext_getElem?
  intro i
  have key : (List.range xs.size).filterMap (fun (m : Nat) => xs[(((xs.size : Int) - 1) + (m : Int) * (-1)).toNat]?) = (List.range xs.size).map (fun m => xs.toList.reverse.getD m .none) := by
    have : ∀ (l : List Nat), (∀ m ∈ l, m < xs.size) → l.filterMap (fun (m : Nat) => xs[(((xs.size : Int) - 1) + (m : Int) * (-1)).toNat]?) = l.map (fun m => xs.toList.reverse.getD m .none) := by
      intro l
      induction l with
      | nil => intro _; rfl
      | cons m l ih =>
        intro h
        have hm := h m List.mem_cons_self
        have e1 : (((xs.size : Int) - 1) + (m : Int) * (-1)).toNat = xs.size - 1 - m := by omega
        have e2 : xs[xs.size - 1 - m]? = some (xs.toList.reverse.getD m .none) := by
          rw [List.getD_eq_getElem?_getD, List.getElem?_reverse (by simpa using hm)]
          simp only [Array.length_toList, Array.getElem?_toList]
          rw [Array.getElem?_eq_getElem (by omega)]
          rfl
        rw [List.filterMap_cons, e1, e2, List.map_cons, ih fun k hk => h k (List.mem_cons_of_mem _ hk)]
    exact this _ fun m hm => List.mem_range.mp hm
  rw [key, List.getElem?_map]
  by_cases hi : i < xs.size
  · rw [List.getElem?_range hi]
    simp [List.getD_eq_getElem?_getD, hi]
  · rw [List.getElem?_eq_none (by simpa using hi), List.getElem?_eq_none (by simpa using hi)]
    rfl
theorem getItem_tuple_back {t sl : Addr} {items : Array Value} {k : Tok} {Q : Value → Shared → Prop} (ht : IsTup s.heap t items) (hs : s.heap.IsSliceOf sl .none .none (.int (-1) k))
    (h : Q (.ref s.heap.objs.size) { s with heap := s.heap.push { cls := .type "tuple", data := .seq items.toList.reverse.toArray } })
    (hsz : items.size ≤ sizeLine) : wpAny (model prog w) A (getItem (.ref t) (.ref sl)) Q E s := by
  have htake : sizeOk (.seq items.toList.reverse.toArray) := by
    show items.toList.reverse.toArray.size ≤ sizeLine
    rw [List.size_toArray, List.length_reverse, Array.length_toList]
    exact hsz
  obtain ⟨os, hos, hcs, hds⟩ := id hs
  have hTs : s.TypeIs (.ref sl) "slice" := ⟨os, hos, hcs⟩
  unfold getItem
  try with_reducible refine wpAny_holding ?_
  first | refine wpAny_bind (wpAny_pure ?_) | skip
  refine wpAny_bind (wpAny_sequenceKey ht.typeIs (by decide) ?_)
  refine wpAny_bind (wpAny_callSpecial?_slot (name := Str.ofString "__getitem__") ht.typeIs PyProof.Rows.slot_tuple_getitem
    (wpAny_call_entry PyProof.Rows.slot_tuple_getitem ht.typeIs entry_tuple_getitem ?_ (args_tuple_getitem _ _)))
  show wpAny _ _ (Builtin.Tuple.tupleItemsOf (.ref t) >>= _) _ _ s
  refine wpAny_bind (tupleItemsOf_ ht ?_)
  refine wpAny_bind (wpAny_typeOf hTs ?_)
  rw [if_pos (by decide)]
  refine wpAny_bind (applied_back hs ?_)
  have hno : ¬ ((((items.size : Int) - 1) == 0 && (-1 : Int) == 1 && items.size == items.size) = true) := by
    intro q
    rw [Bool.and_eq_true, Bool.and_eq_true] at q
    have q1 : (-1 : Int) = 1 := eq_of_beq q.1.2
    omega
  show wpAny _ _ (if (((items.size : Int) - 1) == 0 && (-1 : Int) == 1 && items.size == items.size) = true then _ else _) _ _ s
  rw [if_neg hno, pick_back]
  first
    | exact wpAny_bind (m := Builtin.Tuple.tupleExact _) (wpAny_newObj_type (wpAny_pure ⟨_, rfl, wpAny_pure h⟩) htake)
    | exact wpAny_bind (m := Builtin.Tuple.tupleExact _) (wpAny_newObj_type (wpAny_bind (wpAny_pure (wpAny_pure ⟨_, rfl, wpAny_pure h⟩))) htake)
    | exact wpAny_bind (wpAny_bind (m := Builtin.Tuple.tupleExact _) (wpAny_newObj_type (wpAny_pure (wpAny_pure ⟨_, rfl, wpAny_pure h⟩)) htake))
    | exact wpAny_bind (wpAny_bind (m := Builtin.Tuple.tupleExact _) (wpAny_newObj_type (wpAny_pure ⟨_, rfl, wpAny_pure h⟩) htake))
end
end Ix
namespace Ix
open PySem L2
theorem isPart_none {u : Value} (h : IsPart u none) : u = .none := by cases h; rfl
theorem isPart_int {u : Value} {i : Int} (h : IsPart u (some i)) : ∃ t, u = .int i t := by cases h; exact ⟨_, rfl⟩
theorem slot_tup : True := trivial
section
variable {X : Cx} {Γ : Fs} {e : Expr} {c : E}
def tRevT (K : PySem.W.Frag) (te : TE) : TE := fun σ H Q => te σ H fun x H1 => ∃ a xs, x = .ref a ∧ SqT K H1 a xs ∧ ∀ p, H1 p = none → Q (.ref p) (upd H1 p (.tup xs.reverse))
theorem pe_revT {te : TE} {k : Nat} {p1 p2 p3 pos : Pos} (he : PE X e te) : PE X (.Subscript e (.Slice none none (some (.UnaryOp .USub (.Constant (.int 1) k p1) p2)) p3) pos) (tRevT X.K te) := by
  refine ⟨fun pins s σ H Q I h => ?_⟩
  refine PyProof.Rows.Subscript_ (thn (he.run pins s σ H _ I h) fun v s1 ⟨x, H1, I1, r1, q1⟩ => ?_)
  obtain ⟨a, xs, ex, hx, q⟩ := q1
  subst ex
  cases r1
  have hst : PO X (some (.UnaryOp .USub (.Constant (.int 1) k p1) p2)) (tPart (tUn (rU fun i => .int (-i)) (tC (.int 1)))) := po_some (pe_un un_neg pe_int)
  refine wpAny_Slice (thn (po_none.run pins s1 σ H1 (fun o H2 => o = none ∧ H2 = H1) I1 ⟨rfl, rfl⟩) fun vl s2 ⟨l, H2, I2, pl, el, e2⟩ => ?_)
  subst el e2
  refine thn (po_none.run pins s2 σ H2 (fun o H3 => o = none ∧ H3 = H2) I2 ⟨rfl, rfl⟩) fun vu s3 ⟨u, H3, I3, pu, eu, e3⟩ => ?_
  subst eu e3
  refine thn (hst.run pins s3 σ H3 (fun o H4 => o = some (-1) ∧ H4 = H3) I3 ⟨1, rfl, -1, rfl, rfl, rfl⟩) fun vs s4 ⟨o, H4, I4, ps, eo, e4⟩ => ?_
  subst eo e4
  cases isPart_none pl
  cases isPart_none pu
  obtain ⟨tk, rfl⟩ := isPart_int ps
  have I5 : Inv X pins σ H4 { s4 with heap := s4.heap.push { cls := .type "slice", data := .fields #[.none, .none, .int (-1) tk] } } := I4.kept (t' := s4.toks) fun b ob q => Heap.get?_push_of_some _ q
  obtain ⟨its, r, ht, hz⟩ := I5.tuple hx
  have hlen := r.length
  show wpAny (model X.prog X.w) X.A (PyProof.Rows.subscriptTail e (.Slice none none (some (.UnaryOp .USub (.Constant (.int 1) k p1) p2)) p3) (.ref a) (.ref s4.heap.objs.size)) (EP X pins σ Q) X.xe { s4 with heap := s4.heap.push { cls := .type "slice", data := .fields #[.none, .none, .int (-1) tk] } }
  refine PyProof.Rows.tail_any (ops := [.ref a, .ref s4.heap.objs.size]) ht.typeIs (PyProof.Rows.slot_tuple_getitem.lookup) ?_ (by with_unfolding_all rfl)
  refine getItem_tuple_back ht (Heap.IsSliceOf.new _ .none .none (.int (-1) tk)) ?_ (by rw [List.size_toArray]; omega)
  refine ⟨.ref _, _, I5.laid (t' := s4.toks) (o := .tup xs.reverse) (fun b ob q => Heap.get?_push_of_some _ q) (Nat.le_refl _) ?_, rfl, q _ (I5.hok.fresh (Nat.le_refl _))⟩
  exact ⟨by rw [List.length_reverse]; exact hz, its.reverse, r.reverse, ⟨_, Heap.get?_push_size _ rfl, rfl, _, rfl⟩⟩
theorem pe_or' {t1 t2 : TE} (h1 : PE X e t1) (h2 : PE X e t2) : PE X e (fun σ H Q => t1 σ H Q ∨ t2 σ H Q) := ⟨fun pins s σ H Q I h => h.elim (h1.run pins s σ H Q I) (h2.run pins s σ H Q I)⟩
theorem xe_rev {k : Nat} {p1 p2 p3 pos : Pos} (he : PE X e (tr X.K Γ c)) : PE X (.Subscript e (.Slice none none (some (.UnaryOp .USub (.Constant (.int 1) k p1) p2)) p3) pos) (tr X.K Γ (.rev c)) :=
  pe_w (pe_or' (pe_revT he) (pe_revL he)) fun σ H Q ⟨α, env, S, d, S', ok, en, e, k⟩ => by
    simp only [ev, Option.bind_eq_some_iff] at e
    obtain ⟨⟨d1, S1⟩, e1, e2⟩ := e
    have lst : isTup d1 = false → (seqOf S1 d1).map (fun xs => alloc S1 xs.reverse) = some (d, S') → tRevL X.K (tr X.K Γ c) σ H Q := fun nt e2 => by
      simp only [Option.map_eq_some_iff, alloc, Prod.mk.injEq] at e2
      obtain ⟨xs, h1, rfl, rfl⟩ := e2
      refine ⟨α, env, S, d1, S1, ok, en, e1, fun α1 H1 v1 x1 ok1 r1 => ?_⟩
      obtain ⟨a, vs, rfl, rs, z⟩ := seq_of ok1 r1 h1
      obtain ⟨ws, z1, z2⟩ := seq_lst ok1 r1 h1 nt
      exact ⟨a, ws, rfl, z1, fun p hp => go_new ok1 hp z2.reverse fun α2 H2 v2 x2 ok2 r2 => k α2 H2 v2 (x1.trans x2) ok2 r2⟩
    cases d1 with
    | tup xs =>
      simp only [revD, Option.some.injEq, Prod.mk.injEq] at e2
      obtain ⟨rfl, rfl⟩ := e2
      refine .inl ⟨α, env, S, _, S1, ok, en, e1, fun α1 H1 v1 x1 ok1 r1 => ?_⟩
      cases r1 with
      | tup h1 l q => exact ⟨_, _, rfl, h1, fun p hp => go_tup ok1 hp (Rps.reverse ⟨l, q⟩) fun α2 H2 v2 x2 ok2 r2 => k α2 H2 v2 (x1.trans x2) ok2 r2⟩
    | ref j => exact .inr (lst rfl e2)
    | ro ns => exact .inr (lst rfl e2)
    | _ => simp [revD, seqOf] at e2
end
end Ix

namespace Ix
open PySem L2
/-! ### comprehensions -/
theorem seqOf_mono {S T : Hd} {d : D} {xs : List D} (h : seqOf S d = some xs) : seqOf (S ++ T) d = some xs := by
  cases d with
  | ref k =>
    simp only [seqOf] at h ⊢
    split at h
    · rename_i ys e
      rw [List.getElem?_append_left (List.getElem?_eq_some_iff.mp e).1, e]
      exact h
    · cases h
  | tup xs => exact h
  | ro xs => exact h
  | _ => simp [seqOf] at h
theorem items_mono {k : Ik} {S T : Hd} {ds its : List D} (h : items k ds S = some its) : items k ds (S ++ T) = some its := by
  cases k with
  | seq =>
    match ds, h with
    | [x], h => exact seqOf_mono h
    | [], h => simp [items] at h
    | _ :: _ :: _, h => simp [items] at h
  | range1 =>
    match ds, h with
    | [x], h =>
      cases x with
      | int j => exact h
      | _ => simp [items] at h
    | [], h => simp [items] at h
    | x :: _ :: _, h => cases x <;> simp [items] at h
  | range2 =>
    match ds, h with
    | [x, y], h =>
      cases x with
      | int j =>
        cases y with
        | int j => exact h
        | _ => simp [items] at h
      | _ => cases y <;> simp [items] at h
    | [], h => simp [items] at h
    | [x], h => cases x <;> simp [items] at h
    | x :: y :: _ :: _, h => cases x <;> cases y <;> simp [items] at h
  | enum =>
    match ds, h with
    | [x], h =>
      simp only [items, Option.map_eq_some_iff] at h ⊢
      obtain ⟨xs, h1, h2⟩ := h
      exact ⟨xs, seqOf_mono h1, h2⟩
    | [], h => simp [items] at h
    | _ :: _ :: _, h => simp [items] at h
  | zip =>
    match ds, h with
    | [x, y], h =>
      simp only [items] at h ⊢
      split at h
      · rename_i ht
        rw [if_pos ht]
        simp only [Option.bind_eq_some_iff, Option.map_eq_some_iff] at h
        obtain ⟨xs, h1, ys, h2, rfl⟩ := h
        rw [seqOf_mono h1, seqOf_mono h2]
        rfl
      · cases h
    | [], h => simp [items] at h
    | [x], h => simp [items] at h
    | x :: y :: _ :: _, h => simp [items] at h
section
variable {X : Cx} {Γ : Fs} {elt tg iter : Expr} {ifs : List Expr} {scope : Scope} {own : List (Str × Nat)} {pos : Pos} {k : Ik} {cs ci ce : E} {g : G}
theorem w_lc {σ : L2.St} {H : Hp} {Q : VK} {vs : List Nat} (h : tr X.K Γ (.lc k cs g ci ce vs) σ H Q) : tLc (trI X.K Γ k cs) (trG X.K g) (trT X.K Γ ci) (tr X.K Γ ce) vs σ H Q := by
  obtain ⟨α, env, S, d, S', ok, en, e, kn⟩ := h
  simp only [ev] at e
  split at e
  · rename_i hgo
    simp only [Option.bind_eq_some_iff, Option.map_eq_some_iff, Prod.mk.injEq] at e
    obtain ⟨⟨d1, S1⟩, e1, ds, e2, its, e3, S2, e4, rfl, rfl⟩ := e
    cases argsOf_some e2
    refine ⟨α, env, S, ds, S1, its, ok, en, e1, e3, fun α1 H1 J G Y x1 ok1 w hG hY Dl hD => ?_⟩
    have okD : Ok X.K (α1 ++ [Dl]) (S1 ++ [.lst []]) (upd H1 Dl (.lst [])) := ok1.snoc hD (o := .lst []) (u := .lst []) Rps.nil
    have xD : Xt X.K α1 H1 (α1 ++ [Dl]) (upd H1 Dl (.lst [])) := Xt.snoc hD
    have kD : (α1 ++ [Dl])[S1.length]? = some Dl := by rw [← ok1.len]; simp
    refine lc_it w (fun i H2 => ∃ α2 S3, Ok X.K α2 S3 H2 ∧ Xt X.K (α1 ++ [Dl]) (upd H1 Dl (.lst [])) α2 H2 ∧ items k ds S3 = some its ∧
      loopH (fun d S1' => (asgG g d (wipeD env vs)).bind fun env1 => (tst (ev Γ ci env1 S1')).bind fun t => if t.1 = true then (ev Γ ce env1 t.2).bind fun y => pushD S1.length y.1 y.2 else some t.2)
        (fun S1' => items k ds S1' = some its) (its.drop i) S3 = some S2) ⟨_, _, okD, Xt.refl, items_mono e3, e4⟩ ?_ ?_ ?_
    · rintro i H2 hi ⟨α2, S3, ok2, x2, it2, _⟩
      exact hG α2 S3 H2 (xD.trans x2) ok2 it2
    · rintro i x H2 H3 hi ⟨α2, S3, ok2, x2, it2, lp⟩ y
      obtain ⟨dx, q1, x3, ok3, r3⟩ := hY i α2 S3 H2 x H3 (xD.trans x2) ok2 it2 hi y
      have hdrop : its.drop i = dx :: its.drop (i + 1) := by
        rw [List.drop_eq_getElem_cons hi]
        rw [List.getElem?_eq_getElem hi] at q1
        rw [Option.some.inj q1]
      rw [hdrop] at lp
      simp only [loopH, Option.bind_eq_some_iff] at lp
      obtain ⟨S4, ⟨env1, a1, ⟨b, S5⟩, t1, f1⟩, lp⟩ := lp
      split at lp
      · rename_i st4
        have en3 : En X.K α2 H3 (wipeD env vs) (wipe σ vs) := wipeD_En (en.mono (x1.trans (xD.trans (x2.trans x3)))) vs
        refine ⟨α2, _, dx, env1, r3, en3, a1, fun σ2 en4 w4 => ⟨by rw [w4 vs hgo]; exact wipe_wipe fun _ h => h, ?_⟩⟩
        refine ⟨α2, env1, S3, b, S5, ok3, en4, t1, fun α5 H5 x5 ok5 => ?_⟩
        cases b with
        | true =>
          rw [if_pos rfl] at f1 ⊢
          simp only [Option.bind_eq_some_iff] at f1
          obtain ⟨⟨dy, S6⟩, f1, f2⟩ := f1
          refine ⟨α5, env1, S5, dy, S6, ok5, en4.mono x5, f1, fun α6 H6 vy x6 ok6 r6 => ?_⟩
          simp only [pushD] at f2
          split at f2
          · rename_i acc e7
            split at f2
            · rename_i hz
              simp only [Option.some.injEq] at f2
              subst f2
              have xx := x2.trans (x3.trans (x5.trans x6))
              have kk := xx.pre _ _ kD
              obtain ⟨a', vacc, e8, e9, e10, e11⟩ := ok6.lst e7 (.ref kk)
              cases e8
              exact ⟨vacc, e10, most_lt (by rw [e11.len]; exact hz), α6, _, ok6.write kk e10 (o := .lst (acc ++ [dy])) (u := .lst (vacc ++ [vy])) (e11.append (Rps.one r6)), xx.trans (Xt.write e10), st4, lp⟩
            · cases f2
          · cases f2
        | false =>
          rw [if_neg Bool.false_ne_true] at f1 ⊢
          simp only [Option.some.injEq] at f1
          subst f1
          exact ⟨α5, _, ok5, x2.trans (x3.trans x5), st4, lp⟩
      · cases lp
    · rintro H2 ⟨α2, S3, ok2, x2, it2, lp⟩
      rw [List.drop_length] at lp
      simp only [loopH, Option.some.injEq] at lp
      subst lp
      exact kn α2 H2 _ (x1.trans (xD.trans x2)) ok2 (.ref (x2.pre _ _ kD))
  · cases e
theorem tYes_of {K : PySem.W.Frag} {σ : L2.St} {H : Hp} {Q : Bool → Hp → Prop} (h : trT K Γ (.c (.bl true)) σ H Q) : tYes σ H Q := by
  obtain ⟨α, env, S, b, S', ok, en, e, k⟩ := h
  simp only [tst, ev, Option.bind_some, tru, Option.map_some, Option.some.injEq, Prod.mk.injEq] at e
  obtain ⟨rfl, rfl⟩ := e
  exact k α H Xt.refl ok
theorem xts_nil : PTs X [] (trT X.K Γ (.c (.bl true))) := ⟨fun pins s σ H Q I h => pts_nil.run pins s σ H Q I (tYes_of h)⟩
theorem xts_one {c : Expr} (h : PT X c (trT X.K Γ ci)) : PTs X [c] (trT X.K Γ ci) := pts_one h
theorem xe_lc (hc : X.calm = true) (hN : X.N.Nodup) (hi : PI X tg iter (trI X.K Γ k cs)) (N0 : List Str) (sc0 : Scope) (ok : blkC N0 sc0 scope own = true)
    (hg : ∀ (s : Shared) (H : Hp) (C : Addr) (cl : List (Str × Addr)) (fp : List Addr), PG (X.blk s H scope (compEnvC scope cl C X.env) fp) tg (trG X.K g)) (ht : ∀ (s : Shared) (H : Hp) (C : Addr) (cl : List (Str × Addr)) (fp : List Addr), PTs (X.blk s H scope (compEnvC scope cl C X.env) fp) ifs (trT X.K Γ ci))
    (he : ∀ (s : Shared) (H : Hp) (C : Addr) (cl : List (Str × Addr)) (fp : List Addr), PE (X.blk s H scope (compEnvC scope cl C X.env) fp) elt (tr X.K Γ ce)) (hs : ∀ x, foldedSetIterable iter X.env x = pure x := by intro _; rfl) (hN0 : X.N = N0 := by rfl) (hs0 : X.env.scope = sc0 := by rfl) :
    PE X (.ListComp elt [⟨tg, iter, ifs, 0⟩] scope pos) (tr X.K Γ (.lc k cs g ci ce (own.map (·.2)))) :=
  pe_w (pe_lc hc hN hi (blkOk_by (by rw [hN0, hs0]; exact ok)) hg ht he hs) fun σ H Q h => w_lc h
theorem xs_setlc {i : Nat} {y : Str} {py spos : Pos} (hc : X.calm = true) (hN : X.N.Nodup) (hy : X.N[i]? = some y) (hyl : X.env.scope.names.lookup y = some .local)
    (hsw : swapsWith (.ListComp elt [⟨tg, iter, ifs, 0⟩] scope pos) (some (.Name y py)) spos.line X.env = pure true) (hi : PI X tg iter (trI X.K Γ k cs)) (N0 : List Str) (sc0 : Scope) (ok : blkC N0 sc0 scope own = true)
    (hg : ∀ (s : Shared) (H : Hp) (C : Addr) (cl : List (Str × Addr)) (fp : List Addr), PG (X.blk s H scope (compEnvC scope cl C X.env) fp) tg (trG X.K g)) (ht : ∀ (s : Shared) (H : Hp) (C : Addr) (cl : List (Str × Addr)) (fp : List Addr), PTs (X.blk s H scope (compEnvC scope cl C X.env) fp) ifs (trT X.K Γ ci))
    (he : ∀ (s : Shared) (H : Hp) (C : Addr) (cl : List (Str × Addr)) (fp : List Addr), PE (X.blk s H scope (compEnvC scope cl C X.env) fp) elt (tr X.K Γ ce)) (hs : ∀ x, foldedSetIterable iter X.env x = pure x := by intro _; rfl) (hN0 : X.N = N0 := by rfl) (hs0 : X.env.scope = sc0 := by rfl) :
    PS X (.Assign [.Name y py] (.ListComp elt [⟨tg, iter, ifs, 0⟩] scope pos) spos) (trS X.K Γ (.asg (.name i) (.lc k cs g ci ce (own.map (·.2))))) :=
  ps_w (ps_setLc hc hN hy hyl hsw hi (blkOk_by (by rw [hN0, hs0]; exact ok)) hg ht he hs) fun D σ H ⟨α, env, S, o, env', S', ok, en, e, kn⟩ => by
    simp only [ex, Option.bind_eq_some_iff, Option.map_eq_some_iff, Prod.mk.injEq, asgG, Option.some.injEq] at e
    obtain ⟨⟨d, S1⟩, e1, _, rfl, rfl, rfl, rfl⟩ := e
    exact w_lc ⟨α, env, S, d, S1, ok, en, e1, fun α1 H1 v x1 ok1 r1 => kn α1 H1 x1 ok1 _ ((en.mono x1).set i r1)⟩
end

/-! ### statements -/
section
variable {X : Cx} {Γ : Fs} {st : Stmt} {rest a b : List Stmt} {e tg : Expr} {c1 c2 : Sx} {ce cs : E} {pos : Pos} {g : G}
theorem xs_nil : PSs X [] (trS X.K Γ .skip) := pss_w pss_nil fun D σ H ⟨α, env, S, o, env', S', ok, en, e, k⟩ => by
  simp only [ex, Option.some.injEq, Prod.mk.injEq] at e
  obtain ⟨rfl, rfl, rfl⟩ := e
  exact k α H Xt.refl ok σ en
theorem xs_cons (h1 : PS X st (trS X.K Γ c1)) (h2 : PSs X rest (trS X.K Γ c2)) : PSs X (st :: rest) (trS X.K Γ (.seq c1 c2)) :=
  pss_w (pss_cons h1 h2) fun D σ H ⟨α, env, S, o, env', S', ok, en, e, k⟩ => by
    simp only [ex, Option.bind_eq_some_iff] at e
    obtain ⟨⟨o1, env1, S1⟩, e1, e2⟩ := e
    refine ⟨α, env, S, o1, env1, S1, ok, en, e1, fun α1 H1 x1 ok1 => ?_⟩
    cases o1 with
    | nx => exact fun σ1 en1 => ⟨α1, env1, S1, o, env', S', ok1, en1, e2, fun α2 H2 x2 ok2 => k α2 H2 (x1.trans x2) ok2⟩
    | _ =>
      simp only [Option.some.injEq, Prod.mk.injEq] at e2
      obtain ⟨rfl, rfl, rfl⟩ := e2
      exact k α1 H1 x1 ok1
theorem xs_one (h1 : PS X st (trS X.K Γ c1)) : PSs X [st] (trS X.K Γ c1) := pss_one h1
theorem xs_pass : PS X (.Pass pos) (trS X.K Γ .skip) := ps_w ps_pass fun D σ H ⟨α, env, S, o, env', S', ok, en, e, k⟩ => by
  simp only [ex, Option.some.injEq, Prod.mk.injEq] at e
  obtain ⟨rfl, rfl, rfl⟩ := e
  exact k α H Xt.refl ok σ en
theorem xs_brk : PS X (.Break pos) (trS X.K Γ .brk) := ps_w ps_break fun D σ H ⟨α, env, S, o, env', S', ok, en, e, k⟩ => by
  simp only [ex, Option.some.injEq, Prod.mk.injEq] at e
  obtain ⟨rfl, rfl, rfl⟩ := e
  exact k α H Xt.refl ok σ en
theorem xs_cont : PS X (.Continue pos) (trS X.K Γ .cont) := ps_w ps_continue fun D σ H ⟨α, env, S, o, env', S', ok, en, e, k⟩ => by
  simp only [ex, Option.some.injEq, Prod.mk.injEq] at e
  obtain ⟨rfl, rfl, rfl⟩ := e
  exact k α H Xt.refl ok σ en
theorem xs_stuck : PS X st (trS X.K Γ .stuck) := ps_w ps_never fun D σ H ⟨α, env, S, o, env', S', ok, en, e, k⟩ => by simp [ex] at e
theorem xs_drop (he : PE X e (tr X.K Γ ce)) (hs : swapsWith e none pos.line X.env = pure false := by rfl) : PS X (.Expr e pos) (trS X.K Γ (.drop ce)) := ps_w (ps_expr he hs) fun D σ H ⟨α, env, S, o, env', S', ok, en, e, k⟩ => by
  simp only [ex, Option.map_eq_some_iff, Prod.mk.injEq] at e
  obtain ⟨⟨d, S1⟩, e1, rfl, rfl, rfl⟩ := e
  exact ⟨α, env, S, d, S1, ok, en, e1, fun α1 H1 v x1 ok1 r1 => k α1 H1 x1 ok1 σ (en.mono x1)⟩
theorem xs_ret (he : PE X e (tr X.K Γ ce)) : PS X (.Return (some e) pos) (trS X.K Γ (.ret ce)) := ps_w (ps_ret he) fun D σ H ⟨α, env, S, o, env', S', ok, en, e, k⟩ => by
  simp only [ex, Option.map_eq_some_iff, Prod.mk.injEq] at e
  obtain ⟨⟨d, S1⟩, e1, rfl, rfl, rfl⟩ := e
  exact ⟨α, env, S, d, S1, ok, en, e1, fun α1 H1 v x1 ok1 r1 => k α1 H1 x1 ok1 v r1⟩
theorem xs_retN : PS X (.Return none pos) (trS X.K Γ .retN) := ps_w ps_retN fun D σ H ⟨α, env, S, o, env', S', ok, en, e, k⟩ => by
  simp only [ex, Option.some.injEq, Prod.mk.injEq] at e
  obtain ⟨rfl, rfl, rfl⟩ := e
  exact k α H Xt.refl ok _ .non
theorem xs_if {c : Expr} (hc : PT X c (trT X.K Γ ce)) (ha : PSs X a (trS X.K Γ c1)) (hb : PSs X b (trS X.K Γ c2)) : PS X (.If c a b pos) (trS X.K Γ (.ite ce c1 c2)) :=
  ps_w (ps_if hc ha hb) fun D σ H ⟨α, env, S, o, env', S', ok, en, e, k⟩ => by
    simp only [ex, Option.bind_eq_some_iff] at e
    obtain ⟨⟨t, S1⟩, e1, e2⟩ := e
    refine ⟨α, env, S, t, S1, ok, en, e1, fun α1 H1 x1 ok1 => ?_⟩
    cases t with
    | true =>
      rw [if_pos rfl] at e2 ⊢
      exact ⟨α1, env, S1, o, env', S', ok1, en.mono x1, e2, fun α2 H2 x2 ok2 => k α2 H2 (x1.trans x2) ok2⟩
    | false =>
      rw [if_neg Bool.false_ne_true] at e2 ⊢
      exact ⟨α1, env, S1, o, env', S', ok1, en.mono x1, e2, fun α2 H2 x2 ok2 => k α2 H2 (x1.trans x2) ok2⟩
theorem xs_asg (he : PE X e (tr X.K Γ ce)) (hg : PG X tg (trG X.K g)) (hs : swapsWithSole [tg] e pos.line X.env = pure false := by rfl) (hw : swappedStores [tg] e X.env = pure none := by rfl)
    (h1 : (assignEach [tg] X.env).map (·.2) = [assign tg X.env] := by rfl) : PS X (.Assign [tg] e pos) (trS X.K Γ (.asg g ce)) :=
  ps_w (ps_asg he hg hs hw h1) fun D σ H ⟨α, env, S, o, env', S', ok, en, e, k⟩ => by
    simp only [ex, Option.bind_eq_some_iff, Option.map_eq_some_iff, Prod.mk.injEq] at e
    obtain ⟨⟨d, S1⟩, e1, env1, e2, rfl, rfl, rfl⟩ := e
    exact ⟨α, env, S, d, S1, ok, en, e1, fun α1 H1 v x1 ok1 r1 => ⟨α1, env, d, env1, r1, en.mono x1, e2, fun σ' en' _ => k α1 H1 x1 ok1 σ' en'⟩⟩
theorem xs_set (i : Nat) {x : Str} {pos' : Pos} (hN : X.N.Nodup) (he : PE X e (tr X.K Γ ce)) (hi : X.N[i]? = some x := by rfl) (hx : Loc X.env.scope x := by first | exact Or.inl rfl | exact Or.inr rfl) (hs : swapsWith e (some (.Name x pos')) pos.line X.env = pure false := by rfl) (hf : X.fn x = true ∨ X.env.scope.names.lookup x = some .local := by first | exact .inl rfl | exact .inr rfl | assumption) :
    PS X (.Assign [.Name x pos'] e pos) (trS X.K Γ (.asg (.name i) ce)) :=
  ps_w (ps_set hN hi hx he hs hf) fun D σ H ⟨α, env, S, o, env', S', ok, en, e, k⟩ => by
    simp only [ex, Option.bind_eq_some_iff, Option.map_eq_some_iff, Prod.mk.injEq, asgG, Option.some.injEq] at e
    obtain ⟨⟨d, S1⟩, e1, env1, rfl, rfl, rfl, rfl⟩ := e
    exact ⟨α, env, S, d, S1, ok, en, e1, fun α1 H1 v x1 ok1 r1 => k α1 H1 x1 ok1 _ ((en.mono x1).set i r1)⟩
def rSet (K : PySem.W.Frag) : TSet := fun o i v H Q => ∃ α S d1 d2 d3 S', Ok K α S H ∧ Rp K α H d1 o ∧ Rp K α H d2 i ∧ Rp K α H d3 v ∧ setD d1 d2 d3 S = some S' ∧ ∀ α' H', Xt K α H α' H' → Ok K α' S' H' → Q H'
theorem p_set : PSet X (rSet X.K) := by
  intro pins s σ H o i v ov iv u Q I ro ri rv ⟨α, S, d1, d2, d3, S', ok, r1, r2, r3, e, k⟩
  cases d1 with
  | ref kk =>
    cases d2 with
    | int j =>
      simp only [setD] at e
      split at e
      · rename_i xs e1
        simp only [Option.map_eq_some_iff] at e
        obtain ⟨m, e2, rfl⟩ := e
        obtain ⟨p, vs, rfl, e3, e4, e5⟩ := ok.lst e1 r1
        cases r2
        exact set_list pins s σ H _ _ v ov iv u Q I ro ri rv ⟨p, vs, j, m, rfl, rfl, e4, by rw [e5.len]; exact e2, k α _ (Xt.write e4) (ok.write e3 e4 (o := .lst (xs.set m d3)) (u := .lst (vs.set m v)) (e5.set m r3))⟩
      · cases e
    | _ => simp [setD] at e
  | _ => simp [setD] at e
theorem xs_setix {o i : Expr} {co ci : E} {p : Pos} (he : PE X e (tr X.K Γ ce)) (ho : PE X o (tr X.K Γ co)) (hi : PE X i (tr X.K Γ ci)) (hs : swapsWithSole [.Subscript o i p] e pos.line X.env = pure false := by rfl) (hw : swappedStores [.Subscript o i p] e X.env = pure none := by rfl)
    (h1 : (assignEach [.Subscript o i p] X.env).map (·.2) = [assign (.Subscript o i p) X.env] := by rfl)
    (ha : ∀ v, assign (.Subscript o i p) X.env v = (do
      let ov ← holding [v] (eval o X.env)
      let iv ← holding [v, ov] (eval i X.env)
      standAt p
      holding [v, ov, iv] (setItem ov iv v)
      release [v, ov, iv] []) := by intro _; rfl) : PS X (.Assign [.Subscript o i p] e pos) (trS X.K Γ (.setix co ci ce)) :=
  ps_w (ps_asg he (pg_sub ho hi p_set ha) hs hw h1) fun D σ H ⟨α, env, S, oo, env', S', ok, en, e, k⟩ => by
    simp only [ex, Option.bind_eq_some_iff, Option.map_eq_some_iff, Prod.mk.injEq] at e
    obtain ⟨⟨d, S1⟩, e1, ⟨d2, S2⟩, e2, ⟨d3, S3⟩, e3, S4, e4, rfl, rfl, rfl⟩ := e
    exact ⟨α, env, S, d, S1, ok, en, e1, fun α1 H1 v x1 ok1 r1 => ⟨α1, env, S1, d2, S2, ok1, en.mono x1, e2, fun α2 H2 v2 x2 ok2 r2 => ⟨α2, env, S2, d3, S3, ok2, en.mono (x1.trans x2), e3, fun α3 H3 v3 x3 ok3 r3 =>
      ⟨α3, S3, d2, d3, d, S4, ok3, r2.mono x3, r3, r1.mono (x2.trans x3), e4, fun α4 H4 x4 ok4 => k α4 H4 (x1.trans (x2.trans (x3.trans x4))) ok4 σ (en.mono (x1.trans (x2.trans (x3.trans x4))))⟩⟩⟩⟩
theorem xs_for {k : Ik} {iter : Expr} {body : List Stmt} (hp : PassesOwn (model X.prog X.w) X.A X.env X.xe) (hc : X.calm = true) (hi : PI X tg iter (trI X.K Γ k cs)) (hg : PG X tg (trG X.K g)) (hb : PSs X body (trS X.K Γ c1))
    (hs : ∀ x, foldedSetIterable iter X.env x = pure x := by intro _; rfl) : PS X (.For tg iter body [] pos) (trS X.K Γ (.for_ k cs g c1)) :=
  ps_w (ps_for hp hc hi hg hb hs) fun D σ H ⟨α, env, S, o, env', S', ok, en, e, kn⟩ => by
    simp only [ex, Option.bind_eq_some_iff] at e
    obtain ⟨⟨d1, S1⟩, e1, ds, e2, its, e3, e4⟩ := e
    cases argsOf_some e2
    refine ⟨α, env, S, ds, S1, its, ok, en, e1, e3, fun α1 H1 J G Y x1 ok1 w hG hY => ?_⟩
    refine for_it w (fun i σ2 H2 => ∃ α2 env2 S2, Ok X.K α2 S2 H2 ∧ En X.K α2 H2 env2 σ2 ∧ Xt X.K α1 H1 α2 H2 ∧ items k ds S2 = some its ∧
      loopS (fun d env1 S1' => (asgG g d env1).bind fun env2 => ex Γ c1 env2 S1') (fun S1' => items k ds S1' = some its) (its.drop i) env2 S2 = some (o, env', S')) ⟨α1, env, S1, ok1, en.mono x1, Xt.refl, e3, e4⟩ ?_ ?_ ?_
    · rintro i σ2 H2 hi ⟨α2, env2, S2, ok2, en2, x2, it2, _⟩
      exact hG α2 S2 H2 x2 ok2 it2
    · rintro i x σ2 H2 H3 hi ⟨α2, env2, S2, ok2, en2, x2, it2, lp⟩ y
      obtain ⟨dx, q1, x3, ok3, r3⟩ := hY i α2 S2 H2 x H3 x2 ok2 it2 hi y
      have hdrop : its.drop i = dx :: its.drop (i + 1) := by
        rw [List.drop_eq_getElem_cons hi]
        rw [List.getElem?_eq_getElem hi] at q1
        rw [Option.some.inj q1]
      rw [hdrop] at lp
      simp only [loopS, Option.bind_eq_some_iff] at lp
      obtain ⟨⟨o3, env3, S3⟩, ⟨env4, a1, f1⟩, lp⟩ := lp
      refine ⟨α2, env2, dx, env4, r3, en2.mono x3, a1, fun σ4 en4 _ => ⟨α2, env4, S2, o3, env3, S3, ok3, en4, f1, fun α5 H5 x5 ok5 => ?_⟩⟩
      have xx := x1.trans (x2.trans (x3.trans x5))
      cases o3 with
      | nx =>
        simp only at lp
        split at lp
        · rename_i st4
          exact fun σ5 en5 => ⟨α5, env3, S3, ok5, en5, x2.trans (x3.trans x5), st4, lp⟩
        · cases lp
      | cont =>
        simp only at lp
        split at lp
        · rename_i st4
          exact fun σ5 en5 => ⟨α5, env3, S3, ok5, en5, x2.trans (x3.trans x5), st4, lp⟩
        · cases lp
      | brk =>
        simp only [Option.some.injEq, Prod.mk.injEq] at lp
        obtain ⟨rfl, rfl, rfl⟩ := lp
        exact kn α5 H5 xx ok5
      | ret d =>
        simp only [Option.some.injEq, Prod.mk.injEq] at lp
        obtain ⟨rfl, rfl, rfl⟩ := lp
        exact kn α5 H5 xx ok5
    · rintro σ2 H2 ⟨α2, env2, S2, ok2, en2, x2, it2, lp⟩
      rw [List.drop_length] at lp
      simp only [loopS, Option.some.injEq, Prod.mk.injEq] at lp
      obtain ⟨rfl, rfl, rfl⟩ := lp
      exact kn α2 H2 (x1.trans x2) ok2 σ2 en2
end

/-! ### a def -/
section
variable {P : Program} {w : World} {K : PySem.W.Frag} {mg : Str → Option Value} {base : Heap}
theorem start_En {α : List Addr} {H : Hp} {ds : List D} {vs : List V} (r : Rps K α H ds vs) (N : List Str) (m : Nat) (hm : N.length = m) : En K α H (ds.map some ++ List.replicate (m - ds.length) none) (L2.start N vs) := by
  refine ⟨by simp [L2.start, r.len, hm], fun i d h => ?_⟩
  unfold L2.start
  by_cases hi : i < ds.length
  · rw [List.getElem?_append_left (by simpa using hi), List.getElem?_map] at h
    rw [List.getElem?_eq_getElem hi] at h
    obtain ⟨v, h1, h2⟩ := r.get (List.getElem?_eq_getElem hi)
    simp only [Option.map_some, Option.some.injEq] at h
    subst h
    exact ⟨v, by rw [List.getElem?_append_left (by rw [List.length_map, r.len]; exact hi), List.getElem?_map, h1]; rfl, h2⟩
  · rw [List.getElem?_append_right (by simpa using hi), List.getElem?_replicate] at h
    split at h <;> cases h
theorem run_succ {T : Nat → Option Fd} {n f : Nat} {ds : List D} {S : Hd} {r : D × Hd} {F : Fd} (hT : T f = some F) (h : run T (n + 1) f ds S = some r) :
    ds.length = F.np ∧ outD (ex (run T n) F.body (ds.map some ++ List.replicate (F.m - ds.length) none) S) = some r := by
  simp only [run_step, hT, Option.bind_some] at h
  split at h
  · exact ⟨by assumption, h⟩
  · cases h
theorem fn_ok {T : Nat → Option Fd} {n f : Nat} {x : Str} {ps N : List Str} {st : Stmt} {fa : Addr} {fd : FuncData} {F : Fd} (hF : Fun K x x st fa fd) (S : FnScope N ps (defScope st)) (hT : T f = some F) (hnp : ps.length = F.np) (hm : N.length = F.m)
    (der : ∀ (cdv : Value) (A : Around) (outer : List Env) (s : Shared) (H : Hp) (E : XK), Room n (A.deeper (PyProof.Rows.envOfC x (defScope st) s.heap.objs.size fa cdv)) →
      PSs (cxOf CX0 P w K mg base N x (defScope st) fa cdv A outer s H E).nox (defBody st) (trS K (run T n) F.body)) :
    FnOk P w K mg base CX0 (n + 1) fa fd ps (spF K (run T (n + 1)) f) := by
  refine hF.ok S (fun vs H Q E h => ?_) fun cdv A outer s H vs Q E hr h => ?_
  · obtain ⟨α, S0, ds, d, S', ok, rs, e, _⟩ := h
    rw [rs.len, (run_succ hT e).1, hnp]
  · obtain ⟨α, S0, ds, d, S', ok, rs, e, k⟩ := h
    refine ⟨_, der cdv A outer s H E hr, ?_⟩
    have h2 := (run_succ hT e).2
    unfold outD at h2
    simp only [Option.bind_eq_some_iff] at h2
    obtain ⟨⟨o, env', S1⟩, e1, e2⟩ := h2
    refine ⟨α, _, S0, o, env', S1, ok, start_En rs N F.m hm, e1, fun α1 H1 x1 ok1 => ?_⟩
    cases o with
    | nx =>
      simp only [Option.some.injEq, Prod.mk.injEq] at e2
      obtain ⟨rfl, rfl⟩ := e2
      exact fun σ' _ => k α1 H1 _ x1 ok1 .non
    | ret d' =>
      simp only [Option.some.injEq, Prod.mk.injEq] at e2
      obtain ⟨rfl, rfl⟩ := e2
      exact fun v r => k α1 H1 v x1 ok1 r
    | _ => cases e2
theorem fn_ok0 {T : Nat → Option Fd} {f : Nat} {x : Str} {ps N : List Str} {st : Stmt} {fa : Addr} {fd : FuncData} (hF : Fun K x x st fa fd) (S : FnScope N ps (defScope st)) : FnOk P w K mg base CX0 0 fa fd ps (spF K (run T 0) f) := by
  have no : ∀ vs H Q E, ¬ spF K (run T 0) f vs H Q E := fun vs H Q E ⟨α, S0, ds, d, S', ok, rs, e, _⟩ => by simp [run_zero] at e
  exact ⟨fun vs H Q E h => absurd h (no vs H Q E), fun A outer s H args us vs Q E _ _ _ _ h => absurd h (no vs H Q E)⟩
end
end Ix

namespace Ix
open PySem PySem.Spec PyProof.Rows L2
/-! ### enumerate over a tuple -/
/-- the tuple at a, each item beside its number in a new pair -/
def ItnT (K : PySem.W.Frag) (a : Addr) : It where
  go := fun i H => ∃ (vs : List V) (v : V), SqT K H a vs ∧ vs[i]? = some v
  yld := fun i H u H' => ∃ p v, u = .ref p ∧ H p = none ∧ H' = upd H p (.tup [.int (i : Nat), v]) ∧ ∀ vs, SqT K H a vs → vs[i]? = some v
  stop := fun i H => ∃ vs : List V, SqT K H a vs ∧ vs.length ≤ i
def enSt (a e it : Addr) (i : Nat) (h : Heap) : Prop := (∃ last, IsEnum h e it ((i : Nat) : Int) last) ∧ h.IsTupleIter it a i ∧ e ≠ it ∧ e ≠ a ∧ a ≠ it
theorem turn_numT {prog : Program} {wd : World} {F : PySem.W.Frag} {ts : List Expr} {j : Nat} {tp : Pos} (a e it : Addr) :
    Turn prog wd F (.Tuple ts j tp) (ItnT F a) [e, it] e (enSt a e it) where
  mem := List.mem_cons_self
  obj := by
    rintro i h ⟨⟨last, en⟩, ⟨o, ho, hc, hd⟩, _⟩ b hb
    rcases List.mem_cons.mp hb with z | z
    · subst z
      exact ⟨_, en, fun v q => nomatch q⟩
    · rw [List.mem_singleton.mp z]
      exact ⟨o, ho, fun v q => by rw [hd] at q; cases q⟩
  keep := by
    rintro i h h' ⟨⟨last, en⟩, ti, r⟩ k
    exact ⟨⟨last, k e List.mem_cons_self _ en⟩, ti.at fun o q => k it (by simp) o q, r⟩
  item := by
    intro Y hP hw hK hc i pins s σ H E I hf st hg
    subst hP hw hK
    obtain ⟨⟨last, en⟩, ti, n1, n2, n3⟩ := st
    obtain ⟨vs, v, sq, hv⟩ := hg
    obtain ⟨its, rv, p, _⟩ := I.tuple sq
    obtain ⟨u, hu, ru⟩ := rv.get hv
    have le : e < s.heap.objs.size := Heap.lt_size en
    have li : it < s.heap.objs.size := by
      obtain ⟨_, q, _⟩ := ti
      exact Heap.lt_size q
    have hi : i < its.toArray.size := by
      have := (List.getElem?_eq_some_iff.mp hu).1
      simpa using this
    have none1 : Y.A.in1.handled = none := I.ok.hd hc
    refine wpAny_pyNext_enum_itemD (Draws.tuple none1 it a n3 its.toArray) en ⟨ti, p⟩ hi n1 (by simp [n1, n2]) fun x h' tk hx ho hit hT hsz hk => ?_
    have ex : x = u := by
      have : its[i]? = some x := by simpa using hx
      rw [hu] at this
      exact (Option.some.inj this).symm
    subst ex
    refine ⟨_, rfl, wpAny_letOwnedTupleGo_enum (s := { s with heap := h', toks := tk + 1 }) ho fun h2 en2 sb => ?_⟩
    have hT2 : h2.get? s.heap.objs.size = some { cls := .type "tuple", data := .seq #[.int i tk, x] } := (sb.2 _ (Nat.ne_of_gt le)).trans hT
    have new : ObjOk Y.prog Y.w (upd H s.heap.objs.size (.tup [.int (i : Nat), v])) h2 s.heap.objs.size (.tup [.int (i : Nat), v]) := by
      refine ⟨?_, [.int i tk, x], .cons ⟨_, rfl⟩ (.cons ru .nil), ⟨_, hT2, rfl, _, rfl⟩⟩
      show 2 ≤ sizeLine
      decide
    have keepAll : ∀ b o, b ∉ [e, it] → s.heap.get? b = some o → h2.get? b = some o := by
      intro b o hb q
      have b1 : b ≠ e := fun z => hb (by simp [z])
      have b2 : b ≠ it := fun z => hb (by simp [z])
      exact (sb.2 b b1).trans (hk b o b1 b2 q)
    have I1 : Inv Y pins σ (upd H s.heap.objs.size (.tup [.int (i : Nat), v])) { s with heap := h2, toks := tk + 1 } :=
      I.turnedNew (t' := tk + 1) (ch := [e, it]) (fun b o hb q => keepAll b o hb q) hf (Nat.le_refl _) new
    refine ⟨.ref s.heap.objs.size, _, I1, rfl, ⟨_, v, rfl, I.hok.fresh (Nat.le_refl _), rfl, fun ws hw2 => by rw [I.tuple_inj hw2 sq]; exact hv⟩, ⟨⟨x, ?_⟩, hit.1.at fun o q => (sb.2 it (Ne.symm n1)).trans q, n1, n2, n3⟩, ?_⟩
    · rw [show ((i + 1 : Nat) : Int) = (i : Int) + 1 by omega]
      exact en2
    · intro b hb
      have lb : b < s.heap.objs.size := by
        rcases List.mem_cons.mp hb with z | z
        · rw [z]; exact le
        · rw [List.mem_singleton.mp z]; exact li
      rw [upd_ne (Nat.ne_of_lt lb)]
      exact (hf b hb).1
  done := by
    intro Y hP hw hK hc i pins s σ H E I hf st hg
    subst hP hw hK
    obtain ⟨⟨last, en⟩, ti, n1, n2, n3⟩ := st
    obtain ⟨vs, sq, hv⟩ := hg
    obtain ⟨its, rv, p, _⟩ := I.tuple sq
    obtain ⟨f0, f1, f2, f3, f4, f5⟩ := hf it (by simp)
    have hl := rv.length
    have hT : s.TypeIs (.ref e) "enumerate" := ⟨_, en, rfl⟩
    unfold pyNext
    refine wpAny_bind (wpAny_attempt (wpAny_callSpecial?_slot (name := Str.ofString "__next__") hT F.slot_enumerate_next
      (wpAny_call_entry F.slot_enumerate_next hT F.entry_enumerate_next ?_ (F.args_enumerate_next_1 _))))
    show wpAny _ _ (field (.ref e) 2 >>= _) _ _ _
    refine wpAny_bind (wpAny_field en rfl (x := .ref it) rfl ?_)
    refine wpAny_bind (wpAny_nextOf_tuple_end (I.ok.hd hc) ti p (by simp; omega) fun h' x ex hx => ?_)
    obtain ⟨o, ho, hcl⟩ := hx
    refine wpAny_bind (wpAny_isInstance (T := "StopIteration") (b := true) ⟨o, ho, hcl⟩ isSubtype_stop ?_)
    exact wpAny_pure ⟨rfl, I.turned (t' := s.toks) (fun b o hb q => ex b o hb q) f0 f1 f3 f4 f5⟩
  self := fun A i s Q E st h => by
    obtain ⟨⟨last, en⟩, _⟩ := st
    exact wpAny_pyIter_enum en h
/-- enumerate(v) of one argument: its two new objects -/
theorem enum_new1 {v : Value} {o : Obj} {G : Heap → Prop} (B : Begins v o G) :
    Meets (Builtin.«enumerate.__new__» ⟨[.type "enumerate", v], []⟩) (fun _ R s => G s.heap ∧
      R (.ok (.ret (.ref (s.heap.push o).objs.size)))
        { s with heap := (s.heap.push o).push { cls := .type "enumerate", data := .fields #[.none, .bool false, .ref s.heap.objs.size, rawInt 0, .none, .none] } }) :=
  .of_wp fun prog w A R s h => by
    obtain ⟨hp, g, d, tk, os⟩ := s
    obtain ⟨g1, h⟩ := h
    have hsub := sub_enumerate
    have it1 : ∀ {A' : Around} {E : Value → Shared → Prop} {Q : Value → Shared → Prop}, Q (.ref hp.objs.size) ⟨hp.push o, g, d, tk, os⟩ →
        wpAny (model prog w) A' (pyIter v) Q E ⟨hp, g, d, tk, os⟩ := fun q => B.iter prog w _ _ ⟨hp, g, d, tk, os⟩ _ g1 q
    wp_walk using it1
    refine wpAny_stack_any fun st => wpAny_pure ?_
    split
    · rename_i c _ _ _ _ _
      cases (c == Value.type "enumerate") <;> (wp_walk using it1; exact ⟨_, rfl, h⟩)
    · wp_walk using it1
      exact ⟨_, rfl, h⟩
theorem call_enum1 {prog : Program} {w : World} {A : Around} {E : Value → Shared → Prop} {s : Shared} {v : Value} {o : Obj} {G : Heap → Prop} {Q : Value → Shared → Prop} (B : Begins v o G) (g1 : G s.heap)
    (h : ∀ h', IsEnum h' (s.heap.objs.size + 1) s.heap.objs.size 0 .none → h'.get? s.heap.objs.size = some o → h'.objs.size = s.heap.objs.size + 2 →
      (∀ b z, s.heap.get? b = some z → h'.get? b = some z) → Q (.ref (s.heap.objs.size + 1)) { s with heap := h' }) :
    wpAny (model prog w) A (call (.type "enumerate") [v]) Q E s := by
  refine callType_new F.called_enumerate (by decide) (F.typeCall_enumerate_1 _) (F.newCall_enumerate_1 _) (fun obj => F.args_object_init_2 obj _)
    F.entry_enumerate_new (enum_new1 B) ⟨g1, ?_⟩
  have sz : (s.heap.push o).objs.size = s.heap.objs.size + 1 := Heap.size_push ..
  show _ ∧ _
  rw [sz]
  have en : IsEnum ((s.heap.push o).push { cls := .type "enumerate", data := .fields #[.none, .bool false, .ref s.heap.objs.size, rawInt 0, .none, .none] })
      (s.heap.objs.size + 1) s.heap.objs.size 0 .none := by
    have q := Heap.get?_push_size (s.heap.push o) (o := { cls := .type "enumerate", data := .fields #[.none, .bool false, .ref s.heap.objs.size, rawInt 0, .none, .none] }) rfl
    rw [sz] at q
    exact q
  refine ⟨⟨_, en, rfl⟩, h _ en (Heap.get?_push_of_some _ (Heap.get?_push_size _ B.free)) (by rw [Heap.size_push, sz]) fun b z q => ?_⟩
  exact Heap.get?_push_of_some _ (Heap.get?_push_of_some _ q)
def iNum (K : PySem.W.Frag) (ta : TA) : TI := fun σ H R => ta σ H fun us H1 => ∃ a vs, us = [.ref a] ∧ SqT K H1 a vs ∧ R (ItnT K a) H1
theorem pi_enumT {X : Cx} {e : Expr} {ta : TA} {p pos tp : Pos} {ts : List Expr} {j : Nat} (hg : Gl X "enumerate") (hm : X.mg "enumerate" = none) (ha : PA X [e] ta) (hs : starEach [e] X.env = [(false, eval e X.env)] := by rfl) :
    PI X (.Tuple ts j tp) (.Call (.Name "enumerate" p) [e] [] pos) (iNum X.K ta) := by
  refine ⟨fun pins s σ H R I h => ?_⟩
  refine Call_ (ld_blt I hg hm boot_enumerate (PyProof.Rows.callWith_type1 (thn (ha.run pos pins s σ H _ I h) fun us s1 ⟨vs, H1, I1, r1, a, xs, q0, sq, q⟩ => ?_) hs rfl))
  subst q0
  cases r1 with
  | cons r rr =>
    cases rr
    cases r
    obtain ⟨its, rv, p', _⟩ := I1.tuple sq
    refine call_enum1 (begins_tuple a its.toArray) p' fun h' en hit hsz hk => wpAny_pyIter_enum en ?_
    have I2 : Inv X pins σ H1 { s1 with heap := h' } := I1.kept (t' := s1.toks) hk
    have la : a < s1.heap.objs.size := by
      obtain ⟨oa, ho, _⟩ := id p'
      exact Heap.lt_size ho
    refine ⟨s1.heap.objs.size + 1, [s1.heap.objs.size + 1, s1.heap.objs.size], _, _, H1, rfl, I2, turn_numT a (s1.heap.objs.size + 1) s1.heap.objs.size, ⟨⟨.none, en⟩, ⟨_, hit, rfl, rfl⟩, Nat.succ_ne_self _, Nat.ne_of_gt (Nat.lt_succ_of_lt la), Nat.ne_of_lt la⟩, fun b hb => ?_, q⟩
    have lb : s1.heap.objs.size ≤ b := by
      rcases List.mem_cons.mp hb with z | z
      · rw [z]; exact Nat.le_succ _
      · rw [List.mem_singleton.mp z]; exact Nat.le_refl _
    exact I1.fpOk lb (I1.hok.fresh lb)
end Ix

namespace Ix
open PySem L2
/-! ### x += e, enumerate -/
section
variable {X : Cx} {Γ : Fs} {e : Expr} {ce : E} {pos : Pos}
theorem w_aug {i : Nat} {o : Bo} {D : Ends} {σ : L2.St} {H : Hp} (f : Int → Int → Int) (hf : ∀ env S a b S1, env[i]? = some (some (.int a)) → ev Γ ce env S = some (.int b, S1) → ex Γ (.aug i o ce) env S = some (.nx, env.set i (some (.int (f a b))), S1))
    (ho : o = .add ∨ o = .sub) (h : trS X.K Γ (.aug i o ce) D σ H) : tAug i (tr X.K Γ ce) (ipI f) D σ H := by
  obtain ⟨α, env, S, out, env', S', ok, en, e1, k⟩ := h
  have e0 := e1
  simp only [ex] at e1
  split at e1
  · rename_i a ea
    simp only [Option.bind_eq_some_iff] at e1
    obtain ⟨⟨d, S1⟩, e2, e3⟩ := e1
    have hd : ∃ b, d = .int b := by
      rcases ho with rfl | rfl <;> (cases d <;> simp at e3; exact ⟨_, rfl⟩)
    obtain ⟨b, rfl⟩ := hd
    rw [hf env S a b S1 ea e2] at e0
    simp only [Option.some.injEq, Prod.mk.injEq] at e0
    obtain ⟨rfl, rfl, rfl⟩ := e0
    obtain ⟨v, hv, rv⟩ := en.at_ i _ ea
    cases rv
    refine ⟨_, hv, α, env, S, .int b, S1, ok, en, e2, fun α1 H1 w x1 ok1 r1 => ?_⟩
    cases r1
    exact ⟨a, b, rfl, rfl, k α1 H1 x1 ok1 _ ((en.mono x1).set i (.int _))⟩
  · cases e1
theorem xs_aug_add (i : Nat) {x : Str} {p : Pos} (hN : X.N.Nodup) (he : PE X e (tr X.K Γ ce)) (hi : X.N[i]? = some x := by rfl) (hx : Loc X.env.scope x := by first | exact Or.inl rfl | exact Or.inr rfl)
    (hf : X.fn x = true ∨ X.env.scope.names.lookup x = some .local := by first | exact .inl rfl | exact .inr rfl | assumption) : PS X (.AugAssign (.Name x p) .Add e pos) (trS X.K Γ (.aug i .add ce)) :=
  ps_w (ps_aug hN hi hx he ip_add hf) fun D σ H h => w_aug (fun a b => a + b) (fun env S a b S1 h1 h2 => by simp only [ex, h1, h2, Option.bind_some]) (.inl rfl) h
theorem xs_aug_sub (i : Nat) {x : Str} {p : Pos} (hN : X.N.Nodup) (he : PE X e (tr X.K Γ ce)) (hi : X.N[i]? = some x := by rfl) (hx : Loc X.env.scope x := by first | exact Or.inl rfl | exact Or.inr rfl)
    (hf : X.fn x = true ∨ X.env.scope.names.lookup x = some .local := by first | exact .inl rfl | exact .inr rfl | assumption) : PS X (.AugAssign (.Name x p) .Sub e pos) (trS X.K Γ (.aug i .sub ce)) :=
  ps_w (ps_aug hN hi hx he ip_sub hf) fun D σ H h => w_aug (fun a b => a - b) (fun env S a b S1 h1 h2 => by simp only [ex, h1, h2, Option.bind_some]) (.inr rfl) h
end
section
variable {X : Cx} {Γ : Fs} {a b : Expr} {cs : E} {pos : Pos}
/-- x, y = a, b -/
theorem xs_par {i j : Nat} {x y : Str} {px py pt : Pos} {kt k2 pt2} (hc : X.calm = true) (hN : X.N.Nodup) (hi : X.N[i]? = some x) (hj : X.N[j]? = some y) (hij : i ≠ j)
    (hx : X.env.scope.names.lookup x = some .local) (hy : X.env.scope.names.lookup y = some .local) (ha : PA X [a, b] (trA X.K Γ cs))
    (hw : swappedStores [.Tuple [.Name x px, .Name y py] kt pt] (.Tuple [a, b] k2 pt2) X.env = pure (some [x, y]) := by rfl)
    (hs : swapsWithSole [.Tuple [.Name x px, .Name y py] kt pt] (.Tuple [a, b] k2 pt2) pos.line X.env = pure false := by rfl) :
    PS X (.Assign [.Tuple [.Name x px, .Name y py] kt pt] (.Tuple [a, b] k2 pt2) pos) (trS X.K Γ (.asg (.tup (.cons (.name i) (.cons (.name j) .nil))) (.tup cs))) :=
  ps_w (ps_par hc hN hi hj hij hx hy ha hw hs) fun D σ H ⟨α, env, S, o, env', S', ok, en, e1, k⟩ => by
    simp only [ex, ev, Option.bind_eq_some_iff, Option.map_eq_some_iff, Prod.mk.injEq] at e1
    obtain ⟨⟨d, S1⟩, ⟨⟨d2, S2⟩, e2, ds, e3, e4⟩, env1, e5, rfl, rfl, rfl⟩ := e1
    cases argsOf_some e3
    split at e4
    · simp only [Option.some.injEq, Prod.mk.injEq] at e4
      obtain ⟨rfl, rfl⟩ := e4
      refine ⟨α, env, S, ds, S2, ok, en, e2, fun α1 H1 vs x1 ok1 r1 => ?_⟩
      match ds, e5, r1 with
      | [d1, d2], e5, r1 =>
        obtain ⟨v, u, rfl, r2, r3⟩ := r1.two'
        simp only [asgG, Option.bind_some, Option.some.injEq] at e5
        subst e5
        exact ⟨v, u, rfl, k α1 H1 x1 ok1 _ (((en.mono x1).set i r2).set j r3)⟩
      | [], e5, r1 => simp [asgG] at e5
      | [_], e5, r1 => simp [asgG] at e5
      | _ :: _ :: _ :: _, e5, r1 => simp [asgG] at e5
    · cases e4
end
section
variable {K : PySem.W.Frag} {a : Addr} {n : Nat}
theorem walk_numL : Walk (Ite K a) n (fun H => ∃ vs, SqL K H a vs ∧ vs.length = n) (fun i H v H' => ∃ T x, v = .ref T ∧ H T = none ∧ H' = upd H T (.tup [.int (i : Nat), x]) ∧ ∀ xs, SqL K H a xs → xs[i]? = some x) :=
  ⟨fun i _ hi ⟨vs, q, l⟩ => ⟨vs, vs[i]'(by omega), q, by simp⟩, fun _ ⟨vs, q, l⟩ => ⟨vs, q, by omega⟩, fun _ _ _ _ _ _ y => y⟩
theorem walk_numT : Walk (ItnT K a) n (fun H => ∃ vs, SqT K H a vs ∧ vs.length = n) (fun i H v H' => ∃ T x, v = .ref T ∧ H T = none ∧ H' = upd H T (.tup [.int (i : Nat), x]) ∧ ∀ xs, SqT K H a xs → xs[i]? = some x) :=
  ⟨fun i _ hi ⟨vs, q, l⟩ => ⟨vs, vs[i]'(by omega), q, by simp⟩, fun _ ⟨vs, q, l⟩ => ⟨vs, q, by omega⟩, fun _ _ _ _ _ _ y => y⟩
theorem num_turn {α : List Addr} {S : Hd} {H H3 : Hp} {xs : List D} {vs : List V} {v : V} {i : Nat} {T : Addr} {x : V} (ok : Ok K α S H) (r1 : Rps K α H xs vs) (e1 : v = .ref T) (hT : H T = none) (e2 : H3 = upd H T (.tup [.int (i : Nat), x]))
    (h1 : vs[i]? = some x) : ∃ d, (xs.mapIdx fun i d => D.tup [.int (i : Int), d])[i]? = some d ∧ Xt K α H α H3 ∧ Ok K α S H3 ∧ Rp K α H3 d v := by
  obtain ⟨dx, q1, q2⟩ := r1.getV h1
  subst e1 e2
  exact ⟨.tup [.int (i : Int), dx], by rw [List.getElem?_mapIdx, q1]; rfl, Xt.fresh hT, ok.fresh hT, Rp.newT hT (.cons (.int _) (.cons q2 .nil))⟩
end
section
variable {X : Cx} {Γ : Fs} {e : Expr} {cs : E} {pos p : Pos}
theorem num_items {S : Hd} {x : D} {its : List D} (h : items .enum [x] S = some its) : ∃ xs, seqOf S x = some xs ∧ its = xs.mapIdx fun i d => .tup [.int (i : Int), d] := by
  simp only [items, Option.map_eq_some_iff] at h
  obtain ⟨xs, h1, h2⟩ := h
  exact ⟨xs, h1, h2.symm⟩
theorem xi_enum {elts : List Expr} {kk : Nat} {tpos : Pos} (hg : Gl X "enumerate") (hm : X.mg "enumerate" = none) (ha : PA X [e] (trA X.K Γ cs)) (hs : starEach [e] X.env = [(false, eval e X.env)] := by rfl) :
    PI X (.Tuple elts kk tpos) (.Call (.Name "enumerate" p) [e] [] pos) (trI X.K Γ .enum cs) := by
  refine ⟨fun pins s σ H R I ⟨α, env, S, ds, S', its, ok, en, e1, e3, k⟩ => ?_⟩
  match ds, e1, e3 with
  | [x], e1, e3 =>
    obtain ⟨xs, h1, ei⟩ := num_items e3
    cases hx : isTup x with
    | true =>
      refine (pi_enumT hg hm ha hs).run pins s σ H R I ⟨α, env, S, _, S', ok, en, e1, fun α1 H1 vs x1 ok1 r1 => ?_⟩
      obtain ⟨v, rfl, r2⟩ := r1.one'
      obtain ⟨a, _, rfl, _, _⟩ := seq_of ok1 r2 h1
      obtain ⟨vs, z1, q1⟩ := seq_tup ok1 r2 h1 hx
      refine ⟨a, vs, rfl, z1, k α1 H1 _ _ _ x1 ok1 walk_numT (fun α2 S2 H2 x2 ok2 e4 => ?_) fun i α2 S2 H2 w H3 x2 ok2 e4 hi ⟨T, x', f1, f2, f3, f4⟩ => ?_⟩
      · obtain ⟨xs', g1, g3⟩ := num_items e4
        obtain ⟨vs', w1, w2⟩ := seq_tup ok2 (r2.mono x2) g1 hx
        exact ⟨vs', w1, by rw [w2.len, g3, List.length_mapIdx]⟩
      · obtain ⟨xs', g1, g3⟩ := num_items e4
        obtain ⟨vs', w1, w2⟩ := seq_tup ok2 (r2.mono x2) g1 hx
        rw [g3]
        exact num_turn ok2 w2 f1 f2 f3 (f4 _ w1)
    | false =>
      refine (pi_enum hg hm ha hs).run pins s σ H R I ⟨α, env, S, _, S', ok, en, e1, fun α1 H1 vs x1 ok1 r1 => ?_⟩
      obtain ⟨v, rfl, r2⟩ := r1.one'
      obtain ⟨a, _, rfl, _, _⟩ := seq_of ok1 r2 h1
      obtain ⟨vs, z1, q1⟩ := seq_lst ok1 r2 h1 hx
      refine ⟨a, vs, rfl, z1, k α1 H1 _ _ _ x1 ok1 walk_numL (fun α2 S2 H2 x2 ok2 e4 => ?_) fun i α2 S2 H2 w H3 x2 ok2 e4 hi ⟨T, x', f1, f2, f3, f4⟩ => ?_⟩
      · obtain ⟨xs', g1, g3⟩ := num_items e4
        obtain ⟨vs', w1, w2⟩ := seq_lst ok2 (r2.mono x2) g1 hx
        exact ⟨vs', w1, by rw [w2.len, g3, List.length_mapIdx]⟩
      · obtain ⟨xs', g1, g3⟩ := num_items e4
        obtain ⟨vs', w1, w2⟩ := seq_lst ok2 (r2.mono x2) g1 hx
        rw [g3]
        exact num_turn ok2 w2 f1 f2 f3 (f4 _ w1)
  | [], e1, e3 => simp [items] at e3
  | x :: y :: _, e1, e3 => simp [items] at e3
end

/-! ### defs with keyword-only defaults -/
section
/-- a def whose keyword-only parameters have defaults (kws) -/
structure FnID (P : Program) (w : World) (K : PySem.W.Frag) (mg : Str → Option Value) (base : Heap) (Γ : Fs) (n f : Nat) (x : Str) (ps : List Str) (st : Stmt) (kws : List (Str × V)) : Prop where
  ex : ∃ (fa : Addr) (fd : FuncData), mg x = some (.ref fa) ∧ FunD K x x (defArgs st) (defBody st) (defScope st) [] kws fa fd ∧ FnOk P w K mg base CX0 n fa fd ps (spF K Γ f)
def conE : List D → E
  | [] => .nil
  | d :: ds => .cons (.c d) (conE ds)
def appE (c : E) (ds : List D) : E := match c with
  | .cons a es => .cons a (appE es ds)
  | _ => conE ds
theorem consts_ev {Γ : Fs} {env : Sl} {S : Hd} : ∀ ds : List D, ev Γ (conE ds) env S = some (.tup ds, S)
  | [] => rfl
  | d :: ds => by
    simp only [conE, ev, Option.bind_some, consts_ev ds, argsOf, Option.map_some]
theorem appE_ev {Γ : Fs} {env : Sl} : ∀ {ck : E} {m : Nat} {ds : List D} {S S' : Hd} {d : D}, narg ck = some m → ev Γ (appE ck ds) env S = some (d, S') → ∃ zs, ev Γ ck env S = some (.tup zs, S') ∧ d = .tup (zs ++ ds)
  | .nil, m, ds, S, S', d, _, e => by
    simp only [appE] at e
    rw [consts_ev] at e
    simp only [Option.some.injEq, Prod.mk.injEq] at e
    obtain ⟨rfl, rfl⟩ := e
    exact ⟨[], rfl, rfl⟩
  | .cons a es, m, ds, S, S', d, h, e => by
    simp only [narg, Option.map_eq_some_iff] at h
    obtain ⟨m1, h, _⟩ := h
    simp only [appE, ev, Option.bind_eq_some_iff, Option.map_eq_some_iff, Prod.mk.injEq] at e
    obtain ⟨⟨d1, S1⟩, e1, ⟨d2, S2⟩, e2, zs, e3, rfl, rfl⟩ := e
    obtain ⟨ws, w1, w2⟩ := appE_ev h e2
    cases argsOf_some e3
    cases w2
    exact ⟨d1 :: ws, by simp only [ev, e1, w1, Option.bind_some, argsOf, Option.map_some], rfl⟩
variable {X : Cx} {Γ : Fs} {e : Expr} {es : List Expr} {cs ck : E} {pos p : Pos} {n f : Nat} {x : Str} {ps : List Str} {st : Stmt} {kws0 : List (Str × V)}
theorem kb_of {fa : Addr} {fd : FuncData} (F : FunD X.K x x (defArgs st) (defBody st) (defScope st) [] kws0 fa fd) (ks : List Str) (ms : List (Str × V)) (perm : List Nat) (m : Nat) (hk0 : kws0 ≠ []) (hms : ∀ q ∈ ms, q ∈ kws0)
    (kb : ∀ (D : Addr) (doc pm : Value) (an : Option Addr) (cdv ct : Value) (us mv ws : List Value), us.length = m → mv.length = ms.length → ws.length = ks.length →
      KwChain D ((ms.map (·.1)).zip mv) (bindArgs (PySem.W.fnOf x x (defArgs st) (defBody st) (defScope st) .none (.ref D) doc pm an cdv ct) ⟨us, ks.zip ws⟩) (ps.zip (permV perm (us ++ (ws ++ mv))))) :
    ∃ mv : List Value, KBn X.K fd ps m ks (fun us ws => permV perm (us ++ (ws ++ mv))) (fun vs zs => permV perm (vs ++ (zs ++ ms.map (·.2)))) :=
  F.kbinds0 m ks ms (fun us mv ws => permV perm (us ++ (ws ++ mv))) hk0 hms (fun r1 r2 r3 => rel_perm (r1.append (r3.append r2)) perm) kb
/-- f(e, .., k = v, ..), the keyword-only parameters ms lack -/
theorem xe_callD {kws : List Keyword} (F : FnID X.prog X.w X.K X.mg X.base Γ n f x ps st kws0) (ks : List Str) (ms : List (Str × V)) (ds0 : List D) (perm : List Nat) (m : Nat) (hk0 : kws0 ≠ []) (hms : ∀ q ∈ ms, q ∈ kws0)
    (hds : ∀ α H, Rps X.K α H ds0 (ms.map (·.2)))
    (kb : ∀ (D : Addr) (doc pm : Value) (an : Option Addr) (cdv ct : Value) (us mv ws : List Value), us.length = m → mv.length = ms.length → ws.length = ks.length →
      KwChain D ((ms.map (·.1)).zip mv) (bindArgs (PySem.W.fnOf x x (defArgs st) (defBody st) (defScope st) .none (.ref D) doc pm an cdv ct) ⟨us, ks.zip ws⟩) (ps.zip (permV perm (us ++ (ws ++ mv)))))
    (hn : narg cs = some m) (hnk : narg ck = some ks.length) (hr : Room n X.A) (hg : Gl X x) (ha : PA X (e :: es) (trA X.K Γ cs)) (hk : PK X kws (trA X.K Γ ck))
    (hall : (backToKw pos (keywordEach kws X.env)).all (·.1.isSome) = true := by rfl) (hks : (backToKw pos (keywordEach kws X.env)).filterMap (·.1) = ks := by rfl)
    (hdb : (x == ("__debug__" : Str)) = false := by decide) (he : starEach (e :: es) X.env = (false, eval e X.env) :: starEach es X.env := by rfl)
    (hpl : ((backTo pos (starEach (e :: es) X.env)).any (·.1) || (backToKw pos (keywordEach kws X.env)).any (·.1.isNone)) = false := by rfl) :
    PE X (.Call (.Name x p) (e :: es) kws pos) (tr X.K Γ (.callK f cs (appE ck ds0) perm)) := by
  obtain ⟨fa, fd, h1, h2, h3⟩ := F.ex
  obtain ⟨mv, hB⟩ := kb_of h2 ks ms perm m hk0 hms kb
  refine pe_w (pe_callN (E := E0) h3 hr hg h1 h2.kp hB pass0 ha hk hall hks hdb he hpl) fun σ H Q ⟨α, env, S, d, S', ok, en, e, k⟩ => ?_
  simp only [ev, Option.bind_eq_some_iff] at e
  obtain ⟨⟨d1, S1⟩, e1, ds, e2, ⟨d2, S2⟩, e3, zs, e4, e5⟩ := e
  cases argsOf_some e2
  obtain ⟨ws0, e6, e7⟩ := appE_ev hnk e3
  cases e7
  cases argsOf_some e4
  have l1 := narg_len hn e1
  have l2 := narg_len hnk e6
  exact ⟨α, env, S, ds, S1, ok, en, e1, fun α1 H1 vs x1 ok1 r1 => ⟨α1, env, S1, ws0, S2, ok1, en.mono x1, e6, fun α2 H2 ws x2 ok2 r2 => ⟨by rw [r1.len, l1], by rw [r2.len, l2],
      α2, S2, _, d, S', ok2, ((r1.mono x2).append (r2.append (hds _ _))).perm perm, e5, fun α3 H3 v x3 ok3 r3 => k α3 H3 v (x1.trans (x2.trans x3)) ok3 r3⟩⟩⟩
/-- f(k = v, ..), the same -/
theorem xe_callD0 {kws : List Keyword} (F : FnID X.prog X.w X.K X.mg X.base Γ n f x ps st kws0) (ks : List Str) (ms : List (Str × V)) (ds0 : List D) (perm : List Nat) (hk0 : kws0 ≠ []) (hms : ∀ q ∈ ms, q ∈ kws0)
    (hds : ∀ α H, Rps X.K α H ds0 (ms.map (·.2)))
    (kb : ∀ (D : Addr) (doc pm : Value) (an : Option Addr) (cdv ct : Value) (us mv ws : List Value), us.length = 0 → mv.length = ms.length → ws.length = ks.length →
      KwChain D ((ms.map (·.1)).zip mv) (bindArgs (PySem.W.fnOf x x (defArgs st) (defBody st) (defScope st) .none (.ref D) doc pm an cdv ct) ⟨us, ks.zip ws⟩) (ps.zip (permV perm (us ++ (ws ++ mv)))))
    (hnk : narg ck = some ks.length) (hr : Room n X.A) (hg : Gl X x) (hk : PK X kws (trA X.K Γ ck))
    (hall : (backToKw pos (keywordEach kws X.env)).all (·.1.isSome) = true := by rfl) (hks : (backToKw pos (keywordEach kws X.env)).filterMap (·.1) = ks := by rfl)
    (hdb : (x == ("__debug__" : Str)) = false := by decide)
    (hpl : ((backTo pos (starEach [] X.env)).any (·.1) || (backToKw pos (keywordEach kws X.env)).any (·.1.isNone)) = false := by rfl) :
    PE X (.Call (.Name x p) [] kws pos) (tr X.K Γ (.callK f .nil (appE ck ds0) perm)) := by
  obtain ⟨fa, fd, h1, h2, h3⟩ := F.ex
  obtain ⟨mv, hB⟩ := kb_of h2 ks ms perm 0 hk0 hms kb
  refine ⟨fun pins s σ H Q I h => ?_⟩
  obtain ⟨α, env, S, d, S', ok, en, e, k⟩ := h
  simp only [ev, Option.bind_eq_some_iff, Option.some.injEq] at e
  obtain ⟨_, rfl, ds, e1, ⟨d2, S2⟩, e3, zs, e4, e5⟩ := e
  cases argsOf_some e1
  obtain ⟨ws0, e6, e7⟩ := appE_ev hnk e3
  cases e7
  cases argsOf_some e4
  have l2 := narg_len hnk e6
  refine wpAny_Call_Name_kw (ld_glob I hg h1 ?_ hdb)
  refine PySem.W.callWith_KW0 (h₀ := X.base) I.ok.mod.kin h2.kp hall (thn (hk.run pos pins s σ H (fun ws H2 => ws.length = ks.length ∧ spF X.K Γ f (permV perm ([] ++ (ws ++ ms.map (·.2)))) H2 Q E0) I ?_) fun ws s2 ⟨zs, H2, I2, rz, l3, q2⟩ => ⟨I2.kIn, ?_⟩) hpl
  · exact ⟨α, env, S, ws0, S2, ok, en, e6, fun α2 H2 ws x2 ok2 r2 => ⟨by rw [r2.len, l2], α2, S2, _, d, S', ok2, Rps.perm (Rps.nil.append (r2.append (hds _ _))) perm, e5, fun α3 H3 v x3 ok3 r3 => k α3 H3 v (x2.trans x3) ok3 r3⟩⟩
  · rw [hks]
    exact run_fnN h3 hr hB pass0 I2 (.nil : Vals [] []) rz rfl l3 q2
end
end Ix

namespace Ix
open PySem L2
/-! ### what a result is to satisfy -/
def M {β : Type} (r : Option β) (Q : β → Prop) : Prop := ∃ a, r = some a ∧ Q a
theorem M_some {β : Type} {a : β} {Q : β → Prop} : M (some a) Q = Q a := propext ⟨fun ⟨_, e, q⟩ => by cases e; exact q, fun q => ⟨a, rfl, q⟩⟩
theorem M_none {β : Type} {Q : β → Prop} : M (none : Option β) Q = False := propext ⟨fun ⟨_, e, _⟩ => (by cases e), False.elim⟩
theorem M_bind {β γ : Type} {r : Option β} {f : β → Option γ} {Q : γ → Prop} : M (r.bind f) Q = M r (fun a => M (f a) Q) := propext (by
  cases r with
  | none => exact ⟨fun ⟨_, e, _⟩ => (by cases e), fun ⟨_, e, _⟩ => (by cases e)⟩
  | some a => exact ⟨fun h => ⟨a, rfl, h⟩, fun ⟨_, e, h⟩ => by cases e; exact h⟩)
theorem M_map {β γ : Type} {r : Option β} {f : β → γ} {Q : γ → Prop} : M (r.map f) Q = M r (fun a => Q (f a)) := propext (by
  cases r with
  | none => exact ⟨fun ⟨_, e, _⟩ => (by cases e), fun ⟨_, e, _⟩ => (by cases e)⟩
  | some a => exact ⟨fun ⟨_, e, h⟩ => ⟨a, rfl, by cases e; exact h⟩, fun ⟨_, e, h⟩ => ⟨_, rfl, by cases e; exact h⟩⟩)
theorem M_ite {β : Type} {c : Prop} [Decidable c] {a b : Option β} {Q : β → Prop} : M (if c then a else b) Q = if c then M a Q else M b Q := by split <;> rfl
theorem M.imp {β : Type} {r : Option β} {P Q : β → Prop} (h : M r P) (k : ∀ a, P a → Q a) : M r Q := let ⟨a, e, p⟩ := h; ⟨a, e, k a p⟩
theorem run_M {T : Nat → Option Fd} {n f : Nat} {F : Fd} {ds : List D} {S : Hd} {Q : D × Hd → Prop} (hT : T f = some F) (hl : ds.length = F.np) (h : M (ex (run T n) F.body (ds.map some ++ List.replicate (F.m - ds.length) none) S) fun r => M (outD (some r)) Q) : M (run T (n + 1) f ds S) Q := by
  simp only [run_step, hT, Option.bind_some]
  rw [if_pos hl]
  obtain ⟨r, e, q⟩ := h
  rw [e]
  exact q
/-- S' keeps what S has, but for the cell p -/
def Le (p : Nat) (S S' : Hd) : Prop := ∀ (k : Nat) (o : O), k ≠ p → S[k]? = some o → S'[k]? = some o
def Lq (S S' : Hd) : Prop := ∀ (k : Nat) (o : O), S[k]? = some o → S'[k]? = some o
theorem Lq.refl (S : Hd) : Lq S S := fun _ _ h => h
theorem Lq.trans {S1 S2 S3 : Hd} (a : Lq S1 S2) (b : Lq S2 S3) : Lq S1 S3 := fun k o h => b k o (a k o h)
theorem Le.refl (p : Nat) (S : Hd) : Le p S S := fun _ _ _ h => h
theorem Le.trans {p : Nat} {S1 S2 S3 : Hd} (a : Le p S1 S2) (b : Le p S2 S3) : Le p S1 S3 := fun k o n h => b k o n (a k o n h)
theorem Lq.le {p : Nat} {S S' : Hd} (a : Lq S S') : Le p S S' := fun k o _ h => a k o h
theorem Lq.app (S T : Hd) : Lq S (S ++ T) := fun k o h => by rw [List.getElem?_append_left (List.getElem?_eq_some_iff.mp h).1]; exact h
theorem Le.app (p : Nat) (S T : Hd) : Le p S (S ++ T) := (Lq.app S T).le
theorem Le.set (p : Nat) (S : Hd) (o : O) : Le p S (S.set p o) := fun k u n h => by rw [List.getElem?_set_ne (fun e => n e.symm)]; exact h
/-- the pot at p -/
def Pot (p : Nat) (S : Hd) : Prop := ∃ q : Int, S[p]? = some (.lst [.int q])
theorem Pot.app {p : Nat} {S : Hd} (h : Pot p S) (T : Hd) : Pot p (S ++ T) := let ⟨q, e⟩ := h; ⟨q, Lq.app S T p _ e⟩
theorem lt_of_get {S : Hd} {k : Nat} {o : O} (h : S[k]? = some o) : k < S.length := (List.getElem?_eq_some_iff.mp h).1
end Ix

namespace Ix
open PySem L2
/-! ### the operations on known values -/
section
variable {S : Hd} {i j : Int} {x y d : D} {xs ys : List D} {k : Nat}
theorem q_add : binD .add (.int i) (.int j) S = some (.int (i + j), S) := rfl
theorem q_sub : binD .sub (.int i) (.int j) S = some (.int (i - j), S) := rfl
theorem q_mod (h : 0 < j) : binD .mod (.int i) (.int j) S = some (.int (i % j), S) := if_pos h
theorem q_addT (h : xs.length + ys.length ≤ most) : binD .add (.tup xs) (.tup ys) S = some (.tup (xs ++ ys), S) := if_pos h
theorem q_addL {a b : Nat} (h1 : S[a]? = some (.lst xs)) (h2 : S[b]? = some (.lst ys)) (h : xs.length + ys.length ≤ most) : binD .add (.ref a) (.ref b) S = some (alloc S (xs ++ ys)) := by
  simp only [binD, h1, h2]
  exact if_pos h
theorem q_mulW (h : i.natAbs.log2 + j.natAbs.log2 < 1000000) : binD .mul (.int i) (.int j) S = some (.int (i * j), S) := if_pos h
theorem log2_le {n : Nat} (m : Nat) (h : n < 2 ^ m) (h0 : 0 < m) : n.log2 < m := PySem.Flt.log2_lt_of h0 h
theorem q_mul (h1 : -(2 ^ 64) < i) (h2 : i < 2 ^ 64) (h3 : -(2 ^ 64) < j) (h4 : j < 2 ^ 64) : binD .mul (.int i) (.int j) S = some (.int (i * j), S) := q_mulW (by
  have a := log2_le (n := i.natAbs) 64 (by omega) (by decide)
  have b := log2_le (n := j.natAbs) 64 (by omega) (by decide)
  omega)
theorem q_fdivW (h : 0 < j) (h2 : j.natAbs.log2 < 9000) : binD .fdiv (.int i) (.int j) S = some (.int (i / j), S) := if_pos ⟨h, h2⟩
theorem q_fdiv (h : 0 < j) (h2 : j < 2 ^ 64) : binD .fdiv (.int i) (.int j) S = some (.int (i / j), S) := q_fdivW h (by
  have a := log2_le (n := j.natAbs) 64 (by omega) (by decide)
  omega)
theorem q_pow (h : 0 ≤ j) (h1 : j ≤ 1000000) (h2 : i.natAbs < 2 ^ 64) : binD .pow (.int i) (.int j) S = some (.int (i ^ j.toNat), S) := if_pos ⟨h, h1, h2⟩
theorem q_lt : cmpD .lt (.int i) (.int j) S = some (.bl (decide (i < j)), S) := rfl
theorem q_le : cmpD .le (.int i) (.int j) S = some (.bl (decide (i ≤ j)), S) := rfl
theorem q_gt : cmpD .gt (.int i) (.int j) S = some (.bl (decide (j < i)), S) := rfl
theorem q_ge : cmpD .ge (.int i) (.int j) S = some (.bl (decide (j ≤ i)), S) := rfl
theorem q_eqI : cmpD .eq (.int i) (.int j) S = some (.bl (decide (i = j)), S) := rfl
theorem q_neI : cmpD .ne (.int i) (.int j) S = some (.bl (!decide (i = j)), S) := rfl
theorem q_eqB {b c : Bool} : cmpD .eq (.bl b) (.bl c) S = some (.bl (decide (b = c)), S) := rfl
theorem q_neB {b c : Bool} : cmpD .ne (.bl b) (.bl c) S = some (.bl (!decide (b = c)), S) := rfl
theorem q_eqS {b c : Str} : cmpD .eq (.str b) (.str c) S = some (.bl (decide (b = c)), S) := rfl
theorem q_isN : cmpD .is_ x .non S = some (.bl (isNon x), S) := rfl
theorem q_notN : cmpD .isnot x .non S = some (.bl (!isNon x), S) := rfl
theorem q_in (h1 : flat x = true) (h2 : seqOf S y = some xs) (h3 : xs.all flat = true) : cmpD .in_ x y S = some (.bl (xs.any fun z => eqF z x), S) := by
  simp only [cmpD, h1, if_true, h2, Option.bind_some, h3]
theorem q_notin (h1 : flat x = true) (h2 : seqOf S y = some xs) (h3 : xs.all flat = true) : cmpD .notin x y S = some (.bl (!xs.any fun z => eqF z x), S) := by
  simp only [cmpD, h1, if_true, h2, Option.bind_some, h3]
theorem q_seqT : seqOf S (.tup xs) = some xs := rfl
theorem q_seqR {ns : List Int} : seqOf S (.ro ns) = some (ns.map .int) := rfl
theorem q_seqL (h : S[k]? = some (.lst xs)) : seqOf S (.ref k) = some xs := by simp only [seqOf, h]
theorem q_ixT : ixD (.tup xs) (.int i) S = (atI xs i).map fun d => (d, S) := rfl
theorem q_ixR {ns : List Int} : ixD (.ro ns) (.int i) S = (atI (ns.map .int) i).map fun d => (d, S) := rfl
theorem q_ixL (h : S[k]? = some (.lst xs)) : ixD (.ref k) (.int i) S = (atI xs i).map fun d => (d, S) := by simp only [ixD, seqOf, h, Option.bind_some]
theorem atI_lt {β : Type} {xs : List β} (h0 : 0 ≤ i) (h : i < xs.length) : atI xs i = xs[i.toNat]? := by
  unfold atI ixN
  rw [if_pos h0, if_pos h]
  rfl
theorem atI_0 {β : Type} {a : β} {l : List β} : atI (a :: l) 0 = some a := by
  rw [atI_lt (by omega) (by simp)]
  rfl
theorem atI_1 {β : Type} {a b : β} {l : List β} : atI (a :: b :: l) 1 = some b := by
  rw [atI_lt (by omega) (by simp; omega)]
  rfl
theorem atI_2 {β : Type} {a b c : β} {l : List β} : atI (a :: b :: c :: l) 2 = some c := by
  rw [atI_lt (by omega) (by simp; omega)]
  rfl
theorem atI_last {β : Type} {xs : List β} (h : xs ≠ []) : atI xs (-1) = some (xs.getLast h) := by
  have hl : 0 < xs.length := List.length_pos_iff.mpr h
  unfold atI ixN
  rw [if_neg (by omega), if_pos (by omega)]
  show xs[(-1 + (xs.length : Int)).toNat]? = _
  have : (-1 + (xs.length : Int)).toNat = xs.length - 1 := by omega
  rw [this, List.getLast_eq_getElem, List.getElem?_eq_getElem (by omega)]
theorem q_slT {l h : Option Int} : slD (.tup xs) l h S = some (.tup (cutD xs l h), S) := rfl
theorem q_slL {l h : Option Int} (e : S[k]? = some (.lst xs)) : slD (.ref k) l h S = some (alloc S (cutD xs l h)) := by simp only [slD, seqOf, e, Option.map_some]
theorem q_slR {l h : Option Int} {ns : List Int} : slD (.ro ns) l h S = some (alloc S (cutD (ns.map .int) l h)) := rfl
theorem q_revT : revD (.tup xs) S = some (.tup xs.reverse, S) := rfl
theorem q_len (h : seqOf S x = some xs) : bltD .len [x] S = some (.int xs.length, S) := by simp only [bltD, h, Option.map_some]
theorem q_int : bltD .int_ [.int i] S = some (.int i, S) := rfl
theorem q_intB {b : Bool} : bltD .int_ [.bl b] S = some (.int (if b then 1 else 0), S) := rfl
theorem q_max : bltD .max_ [.int i, .int j] S = some (.int (if j > i then j else i), S) := rfl
theorem q_min : bltD .min_ [.int i, .int j] S = some (.int (if j < i then j else i), S) := rfl
theorem q_abs : bltD .abs_ [.int i] S = some (.int (if i < 0 then -i else i), S) := rfl
theorem bools_map {bs : List Bool} : bools (bs.map .bl) = some bs := by
  induction bs with
  | nil => rfl
  | cons b bs ih => simp only [List.map_cons, bools, ih, Option.map_some]
theorem q_all {bs : List Bool} (h : S[k]? = some (.lst (bs.map .bl))) : bltD .all_ [.ref k] S = some (.bl (bs.all id), S) := by
  simp only [bltD, isTup, seqOf, h, Option.bind_some, bools_map, Option.map_some, Bool.false_eq_true, if_false]
theorem q_tupT : bltD .tuple_ [.tup xs] S = some (.tup xs, S) := rfl
theorem q_tupL (h : S[k]? = some (.lst xs)) : bltD .tuple_ [.ref k] S = some (.tup xs, S) := by simp only [bltD, seqOf, h, Option.map_some]
theorem q_list (h : seqOf S x = some xs) : bltD .list_ [x] S = some (alloc S xs) := by simp only [bltD, h, Option.map_some]
theorem q_isi {c n : String} (h : plainTy c = true) (h2 : tyName S x = some n) : bltD .isi [x, .ty c] S = some (.bl (isaN n c), S) := by
  simp only [bltD, h, if_true, h2, Option.map_some]
theorem q_isiT {n : String} {cs : List D} {ts : List String} (h : tysOf cs = some ts) (h2 : tyName S x = some n) : bltD .isi [x, .tup cs] S = some (.bl (ts.any (isaN n)), S) := by
  simp only [bltD, h, Option.bind_some, h2, Option.map_some]
theorem n_tup : tyName S (.tup xs) = some "tuple" := rfl
theorem n_int : tyName S (.int i) = some "int" := rfl
theorem n_bl {b : Bool} : tyName S (.bl b) = some "bool" := rfl
theorem n_non : tyName S .non = some "NoneType" := rfl
theorem n_str {z : Str} : tyName S (.str z) = some "str" := rfl
theorem n_ref (h : S[k]? = some (.lst xs)) : tyName S (.ref k) = some "list" := by simp only [tyName, h]
theorem q_app (h : S[k]? = some (.lst xs)) (hz : xs.length < most) : methD .append (.ref k) [d] S = some (.non, S.set k (.lst (xs ++ [d]))) := by
  simp only [methD, h]
  exact if_pos hz
theorem q_isL (h : S[k]? = some (.lst xs)) : isLst S (.ref k) = true := by simp only [isLst, h]
theorem q_set {m : Nat} (h : S[k]? = some (.lst xs)) (hm : ixN xs.length i = some m) : setD (.ref k) (.int i) d S = some (S.set k (.lst (xs.set m d))) := by simp only [setD, h, hm, Option.map_some]
theorem q_push (h : S[k]? = some (.lst xs)) (hz : xs.length < most) : pushD k d S = some (S.set k (.lst (xs ++ [d]))) := by
  simp only [pushD, h]
  exact if_pos hz
theorem u_bl {b : Bool} : tru S (.bl b) = some b := rfl
theorem u_int : tru S (.int i) = some (i != 0) := rfl
theorem u_non : tru S .non = some false := rfl
theorem u_tup : tru S (.tup xs) = some (!xs.isEmpty) := rfl
theorem u_ref (h : S[k]? = some (.lst xs)) : tru S (.ref k) = some (!xs.isEmpty) := by simp only [tru, seqOf, h, Option.map_some]
theorem g_name {i : Nat} {env : Sl} : asgG (.name i) d env = some (env.set i (some d)) := rfl
theorem g_tup {g : G} {env : Sl} : asgG (.tup g) (.tup xs) env = asgG g (.tup xs) env := rfl
theorem g_nil {env : Sl} : asgG .nil (.tup []) env = some env := rfl
theorem g_cons {g h : G} {env : Sl} : asgG (.cons g h) (.tup (d :: xs)) env = (asgG g d env).bind fun e => asgG h (.tup xs) e := rfl
theorem a_tup : argsOf (.tup xs) = some xs := rfl
theorem t_eq (r : Option (D × Hd)) : tst r = r.bind fun x => (tru x.2 x.1).map fun b => (b, x.2) := rfl
theorem al_eq : alloc S xs = (.ref S.length, S ++ [.lst xs]) := rfl
theorem o_ret {env : Sl} : outD (some (.ret d, env, S)) = some (d, S) := rfl
theorem o_nx {env : Sl} : outD (some (.nx, env, S)) = some (.non, S) := rfl
theorem i_seq : items .seq [x] S = seqOf S x := rfl
theorem i_rng (h1 : -(2 ^ 62) ≤ i) (h2 : i < 2 ^ 62) : items .range1 [.int i] S = some ((List.range i.toNat).map fun (m : Nat) => .int (0 + (m : Int))) := if_pos ⟨h1, h2⟩
end
/-! ### loops -/
open Classical in
theorem M_loopS {turn : D → Sl → Hd → Option (Out × Sl × Hd)} {still : Hd → Prop} {Q : Out × Sl × Hd → Prop} (I : Nat → Sl → Hd → Prop) : ∀ {its : List D} {m : Nat} {env : Sl} {S : Hd}, I m env S →
    (∀ (i : Nat) (d : D) (env : Sl) (S : Hd), its[i]? = some d → I (m + i) env S → M (turn d env S) fun r => match r.1 with
      | .brk => Q (.nx, r.2)
      | .ret x => Q (.ret x, r.2)
      | _ => still r.2.2 ∧ I (m + i + 1) r.2.1 r.2.2) →
    (∀ env S, I (m + its.length) env S → Q (.nx, env, S)) → M (loopS turn still its env S) Q
  | [], m, env, S, h0, hs, hd => by
    simp only [loopS, M_some]
    exact hd env S h0
  | d :: ds, m, env, S, h0, hs, hd => by
    simp only [loopS, M_bind]
    refine (hs 0 d env S rfl h0).imp fun r h => ?_
    obtain ⟨o, env1, S1⟩ := r
    have go : still S1 ∧ I (m + 0 + 1) env1 S1 → M (if still S1 then loopS turn still ds env1 S1 else none) Q := fun ⟨a, b⟩ => by
      rw [if_pos a]
      refine M_loopS I (m := m + 1) b (fun i d env S h1 h2 => ?_) fun env S h => hd env S ?_
      · have := hs (i + 1) d env S (by simpa using h1) (by rw [show m + (i + 1) = m + 1 + i by omega]; exact h2)
        refine this.imp fun r h => ?_
        rw [show m + 1 + i + 1 = m + (i + 1) + 1 by omega]
        exact h
      · rw [List.length_cons, show m + (ds.length + 1) = m + 1 + ds.length by omega]
        exact h
    cases o with
    | nx => exact go h
    | cont => exact go h
    | brk => simp only [M_some]; exact h
    | ret x => simp only [M_some]; exact h
open Classical in
theorem M_loopH {turn : D → Hd → Option Hd} {still : Hd → Prop} {Q : Hd → Prop} (I : Nat → Hd → Prop) : ∀ {its : List D} {m : Nat} {S : Hd}, I m S →
    (∀ (i : Nat) (d : D) (S : Hd), its[i]? = some d → I (m + i) S → M (turn d S) fun S1 => still S1 ∧ I (m + i + 1) S1) →
    (∀ S, I (m + its.length) S → Q S) → M (loopH turn still its S) Q
  | [], m, S, h0, hs, hd => by
    simp only [loopH, M_some]
    exact hd S h0
  | d :: ds, m, S, h0, hs, hd => by
    simp only [loopH, M_bind]
    refine (hs 0 d S rfl h0).imp fun S1 ⟨a, b⟩ => ?_
    rw [if_pos a]
    refine M_loopH I (m := m + 1) b (fun i d S h1 h2 => ?_) fun S h => hd S ?_
    · have := hs (i + 1) d S (by simpa using h1) (by rw [show m + (i + 1) = m + 1 + i by omega]; exact h2)
      refine this.imp fun r h => ?_
      rw [show m + 1 + i + 1 = m + (i + 1) + 1 by omega]
      exact h
    · rw [List.length_cons, show m + (ds.length + 1) = m + 1 + ds.length by omega]
      exact h
/-- a comprehension whose elements change nothing that stands: v tells each item's value -/
theorem M_lc {Γ : Fs} {k : Ik} {cs ce : E} {g : G} {own : List Nat} {env : Sl} {S S1 : Hd} {ds its : List D} {Q : D × Hd → Prop} (v : Nat → D) (ho : gOk own g = true) (h1 : ev Γ cs env S = some (.tup ds, S1)) (h2 : items k ds S1 = some its) (hz : its.length < most)
    (he : ∀ (i : Nat) (d : D) (S2 : Hd), its[i]? = some d → Lq S1 S2 → ∃ env1, asgG g d (wipeD env own) = some env1 ∧ M (ev Γ ce env1 S2) fun r => r.1 = v i ∧ Lq S2 r.2)
    (hit : ∀ S2, Lq S1 S2 → items k ds S2 = some its)
    (hq : ∀ (j : Nat) (S2 : Hd), S1.length ≤ j → S2[j]? = some (.lst ((List.range its.length).map v)) → Lq S1 S2 → Q (.ref j, S2)) : M (ev Γ (.lc k cs g (.c (.bl true)) ce own) env S) Q := by
  simp only [ev, ho, if_true, h1, Option.bind_some, argsOf, h2, M_map]
  refine M_loopH (fun i S2 => S2[S1.length]? = some (.lst ((List.range i).map v)) ∧ Lq S1 S2) (m := 0) ⟨by simp, Lq.app _ _⟩ (fun i d S2 hi ⟨a, b⟩ => ?_) fun S2 ⟨a, b⟩ => ?_
  · obtain ⟨env1, e1, m1⟩ := he i d S2 hi b
    simp only [e1, Option.bind_some, tst, tru, Option.map_some, if_true, M_bind]
    refine m1.imp fun r ⟨e2, l2⟩ => ?_
    have hlt : i < its.length := (List.getElem?_eq_some_iff.mp hi).1
    rw [q_push (l2 _ _ a) (by simp; omega), M_some]
    have l3 : Lq S1 (r.2.set S1.length (.lst (((List.range (0 + i)).map v) ++ [r.1]))) := fun k' o h => by
      rw [List.getElem?_set_ne (by have := lt_of_get h; omega)]
      exact l2 _ _ (b _ _ h)
    refine ⟨hit _ l3, ?_, l3⟩
    rw [List.getElem?_set_self (lt_of_get (l2 _ _ a)), e2, Nat.zero_add, List.range_succ, List.map_append]
    rfl
  · rw [Nat.zero_add] at a
    exact hq _ S2 (Nat.le_refl _) a b
end Ix

namespace Ix
open PySem L2
theorem seq_M {Γ : Fs} {s t : Sx} {env : Sl} {S : Hd} {Q : Out × Sl × Hd → Prop} (P : Sl → Hd → Prop) (h : M (ex Γ s env S) fun r => r.1 = .nx ∧ P r.2.1 r.2.2) (k : ∀ env S, P env S → M (ex Γ t env S) Q) : M (ex Γ (.seq s t) env S) Q := by
  simp only [ex, M_bind]
  refine h.imp fun r ⟨e, p⟩ => ?_
  rw [e]
  exact k _ _ p
theorem seq_Mx {Γ : Fs} {s t : Sx} {env : Sl} {S : Hd} {Q : Out × Sl × Hd → Prop} (h : M (ex Γ s env S) fun r => match r.1 with
    | .nx => M (ex Γ t r.2.1 r.2.2) Q
    | _ => Q r) : M (ex Γ (.seq s t) env S) Q := by
  simp only [ex, M_bind]
  refine h.imp fun r q => ?_
  obtain ⟨o, e, S1⟩ := r
  cases o with
  | nx => exact q
  | _ => simp only [M_some]; exact q
theorem atI_ints {ns : List Int} {i : Int} (h0 : 0 ≤ i) (h : i < ns.length) : ∃ z, ns[i.toNat]? = some z ∧ z ∈ ns ∧ atI (ns.map D.int) i = some (.int z) := by
  have hi : i.toNat < ns.length := by omega
  refine ⟨ns[i.toNat], List.getElem?_eq_getElem hi, List.getElem_mem hi, ?_⟩
  rw [atI_lt h0 (by simpa using h), List.getElem?_map, List.getElem?_eq_getElem hi]
  rfl
theorem Lq.at {S S' : Hd} (a : Lq S S') {k : Nat} {o : O} (h : S[k]? = some o) : S'[k]? = some o := a k o h
theorem Le.at {p : Nat} {S S' : Hd} (a : Le p S S') {k : Nat} {o : O} (n : k ≠ p) (h : S[k]? = some o) : S'[k]? = some o := a k o n h
theorem get_new {S : Hd} {o : O} : (S ++ [o])[S.length]? = some o := by simp
theorem Pot.lt {p : Nat} {S : Hd} (h : Pot p S) : p < S.length := let ⟨_, e⟩ := h; lt_of_get e
theorem Pot.ne {p : Nat} {S : Hd} (h : Pot p S) : S.length ≠ p := Nat.ne_of_gt h.lt
theorem Pot.lq {p : Nat} {S S' : Hd} (h : Pot p S) (l : Lq S S') : Pot p S' := let ⟨q, e⟩ := h; ⟨q, l p _ e⟩
theorem Lq.set {S S' : Hd} (l : Lq S S') {k : Nat} {o : O} (h : S.length ≤ k) : Lq S (S'.set k o) := fun j u e => by
  rw [List.getElem?_set_ne (by have := lt_of_get e; omega)]
  exact l j u e
end Ix
namespace Ix
open PySem L2
theorem q_pow10 {j : Int} {S : Hd} (h : 0 ≤ j) (h1 : j ≤ 1000000) : binD .pow (.int 10) (.int j) S = some (.int (10 ^ j.toNat), S) := q_pow h h1 (by decide)
end Ix
namespace Ix
theorem rng_get {β : Type} {n i : Nat} {d : β} {f : Nat → β} (h : ((List.range n).map f)[i]? = some d) : i < n ∧ d = f i := by
  rw [List.getElem?_map] at h
  by_cases hi : i < n
  · rw [List.getElem?_range hi] at h
    exact ⟨hi, (Option.some.inj h).symm⟩
  · rw [List.getElem?_eq_none (by simpa using hi)] at h
    cases h
end Ix
namespace Ix
open PySem L2
theorem atI_k {β : Type} {xs : List β} {a : β} (k : Nat) (h : xs[k]? = some a) : atI xs (k : Int) = some a := atI_nat h
theorem atI_3 {β : Type} {a b c d : β} {l : List β} : atI (a :: b :: c :: d :: l) 3 = some d := atI_k 3 rfl
theorem atI_4 {β : Type} {a b c d e : β} {l : List β} : atI (a :: b :: c :: d :: e :: l) 4 = some e := atI_k 4 rfl
theorem atI_5 {β : Type} {a b c d e f : β} {l : List β} : atI (a :: b :: c :: d :: e :: f :: l) 5 = some f := atI_k 5 rfl
theorem atI_6 {β : Type} {a b c d e f g : β} {l : List β} : atI (a :: b :: c :: d :: e :: f :: g :: l) 6 = some g := atI_k 6 rfl
theorem atI_7 {β : Type} {a b c d e f g h : β} {l : List β} : atI (a :: b :: c :: d :: e :: f :: g :: h :: l) 7 = some h := atI_k 7 rfl
theorem M_blt1 {Γ : Fs} {B : Bl} {e : E} {env : Sl} {S : Hd} {Q : D × Hd → Prop} (h : M (ev Γ e env S) fun x => M (bltD B [x.1] x.2) Q) : M (ev Γ (.blt B (.cons e .nil)) env S) Q := by
  simp only [ev, M_bind, M_map, M_some, argsOf, Option.map_some, Option.bind_some]
  exact h
end Ix
namespace Ix
open PySem L2
theorem for_M {Γ : Fs} {k : Ik} {es : E} {g : G} {b : Sx} {env : Sl} {S : Hd} {Q : Out × Sl × Hd → Prop}
    (h : M (ev Γ es env S) fun x => ∃ ds its, x.1 = .tup ds ∧ items k ds x.2 = some its ∧ M (loopS (fun d e S1 => (asgG g d e).bind fun e2 => ex Γ b e2 S1) (fun S1 => items k ds S1 = some its) its env x.2) Q) : M (ex Γ (.for_ k es g b) env S) Q := by
  simp only [ex, M_bind]
  refine h.imp fun x ⟨ds, its, e1, e2, m⟩ => ?_
  rw [e1]
  simp only [argsOf, M_some, e2]
  exact m
theorem ite_M {Γ : Fs} {c : E} {s t : Sx} {env : Sl} {S : Hd} {Q : Out × Sl × Hd → Prop} (h : M (tst (ev Γ c env S)) fun r => if r.1 = true then M (ex Γ s env r.2) Q else M (ex Γ t env r.2) Q) : M (ex Γ (.ite c s t) env S) Q := by
  simp only [ex, M_bind, M_ite]
  exact h
end Ix
namespace Ix
open PySem L2
/-- a result that changes nothing that stands -/
def Pu (r : Option (D × Hd)) (v : D) (S : Hd) : Prop := M r fun x => x.1 = v ∧ Lq S x.2
theorem Pu.use {r : Option (D × Hd)} {v : D} {S : Hd} {Q : D × Hd → Prop} (h : Pu r v S) (k : ∀ S', Lq S S' → Q (v, S')) : M r Q := h.imp fun ⟨d, S'⟩ ⟨e, l⟩ => by
  have e : d = v := e
  subst e
  exact k S' l
theorem Pu.run {T : Nat → Option Fd} {n f : Nat} {F : Fd} {ds : List D} {S : Hd} {v : D} (hT : T f = some F) (hl : ds.length = F.np) (h : M (ex (run T n) F.body (ds.map some ++ List.replicate (F.m - ds.length) none) S) fun r => M (outD (some r)) fun x => x.1 = v ∧ Lq S x.2) : Pu (Ix.run T (n + 1) f ds S) v S := run_M hT hl h
theorem cut_1 {xs : List D} : cutD xs (some 1) none = xs.drop 1 := by
  unfold cutD
  have e1 : HT.sIx xs.length 0 (some 1) = min 1 xs.length := rfl
  have e2 : HT.sIx xs.length xs.length none = xs.length := rfl
  rw [e1, e2]
  cases xs with
  | nil => rfl
  | cons x xs =>
    have : min 1 (x :: xs).length = 1 := by simp
    rw [this, List.take_of_length_le (by simp)]
theorem zip_get {L : List Int} {i : Nat} {d : D} (h : (List.zipWith (fun a b => D.tup [a, b]) (L.map .int) ((L.map .int).drop 1))[i]? = some d) : ∃ x y, L[i]? = some x ∧ L[i + 1]? = some y ∧ d = .tup [.int x, .int y] := by
  rw [List.getElem?_zipWith, List.getElem?_drop, List.getElem?_map, List.getElem?_map, show 1 + i = i + 1 by omega] at h
  cases h1 : L[i]? with
  | none => rw [h1] at h; simp at h
  | some x =>
    cases h2 : L[i + 1]? with
    | none => rw [h1, h2] at h; simp at h
    | some y =>
      rw [h1, h2] at h
      simp at h
      exact ⟨x, y, rfl, rfl, h.symm⟩
theorem M_all {Γ : Fs} {k : Ik} {cs ce : E} {g : G} {own : List Nat} {env : Sl} {S S1 : Hd} {ds its : List D} {Q : D × Hd → Prop} (b : Nat → Bool) (ho : gOk own g = true) (h1 : ev Γ cs env S = some (.tup ds, S1)) (l1 : Lq S S1) (h2 : items k ds S1 = some its) (hz : its.length < most)
    (he : ∀ (i : Nat) (d : D) (S2 : Hd), its[i]? = some d → Lq S1 S2 → ∃ env1, asgG g d (wipeD env own) = some env1 ∧ M (ev Γ ce env1 S2) fun r => r.1 = .bl (b i) ∧ Lq S2 r.2)
    (hit : ∀ S2, Lq S1 S2 → items k ds S2 = some its) (hq : ∀ S2, Lq S S2 → Q (.bl ((List.range its.length).all b), S2)) :
    M (ev Γ (.blt .all_ (.cons (.lc k cs g (.c (.bl true)) ce own) .nil)) env S) Q := by
  refine M_blt1 (M_lc (fun i => .bl (b i)) ho h1 h2 hz he hit fun j S2 hj hg l => ?_)
  have e : (List.range its.length).map (fun i => D.bl (b i)) = ((List.range its.length).map b).map .bl := by
    rw [List.map_map]
    rfl
  rw [e] at hg
  simp only [q_all hg, M_some]
  rw [List.all_map]
  exact hq S2 (l1.trans l)
theorem M_allT {Γ : Fs} {k : Ik} {cs ce : E} {g : G} {own : List Nat} {env : Sl} {S S1 : Hd} {ds its : List D} {Q : D × Hd → Prop} (ho : gOk own g = true) (h1 : ev Γ cs env S = some (.tup ds, S1)) (l1 : Lq S S1) (h2 : items k ds S1 = some its) (hz : its.length < most)
    (he : ∀ (i : Nat) (d : D) (S2 : Hd), its[i]? = some d → Lq S1 S2 → ∃ env1, asgG g d (wipeD env own) = some env1 ∧ M (ev Γ ce env1 S2) fun r => r.1 = .bl true ∧ Lq S2 r.2)
    (hit : ∀ S2, Lq S1 S2 → items k ds S2 = some its) (hq : ∀ S2, Lq S S2 → Q (.bl true, S2)) :
    M (ev Γ (.blt .all_ (.cons (.lc k cs g (.c (.bl true)) ce own) .nil)) env S) Q :=
  M_all (fun _ => true) ho h1 l1 h2 hz he hit fun S2 l => by
    rw [show ((List.range its.length).all fun _ => true) = true by simp]
    exact hq S2 l
theorem isi_ii {i : Int} {S : Hd} : bltD .isi [.int i, .ty "int"] S = some (.bl true, S) := by
  rw [q_isi (c := "int") (n := "int") (by decide) rfl]
  rfl
theorem isi_ib {i : Int} {S : Hd} : bltD .isi [.int i, .ty "bool"] S = some (.bl false, S) := by
  rw [q_isi (c := "bool") (n := "int") (by decide) rfl]
  rfl
theorem isi_tt {xs : List D} {S : Hd} : bltD .isi [.tup xs, .ty "tuple"] S = some (.bl true, S) := by
  rw [q_isi (c := "tuple") (n := "tuple") (by decide) rfl]
  rfl
theorem isi_itl {i : Int} {S : Hd} : bltD .isi [.int i, .tup [.ty "tuple", .ty "list"]] S = some (.bl false, S) := by
  rw [q_isiT (cs := [.ty "tuple", .ty "list"]) (ts := ["tuple", "list"]) (n := "int") (by simp only [tysOf, show plainTy "tuple" = true by decide, show plainTy "list" = true by decide, if_true, Option.map_some]) rfl]
  rfl
theorem isi_btl {i : Bool} {S : Hd} : bltD .isi [.bl i, .tup [.ty "tuple", .ty "list"]] S = some (.bl false, S) := by
  rw [q_isiT (cs := [.ty "tuple", .ty "list"]) (ts := ["tuple", "list"]) (n := "bool") (by simp only [tysOf, show plainTy "tuple" = true by decide, show plainTy "list" = true by decide, if_true, Option.map_some]) rfl]
  rfl
theorem isi_ttl {xs : List D} {S : Hd} : bltD .isi [.tup xs, .tup [.ty "tuple", .ty "list"]] S = some (.bl true, S) := by
  rw [q_isiT (cs := [.ty "tuple", .ty "list"]) (ts := ["tuple", "list"]) (n := "tuple") (by simp only [tysOf, show plainTy "tuple" = true by decide, show plainTy "list" = true by decide, if_true, Option.map_some]) rfl]
  rfl
theorem isi_tl {xs : List D} {S : Hd} : bltD .isi [.tup xs, .ty "list"] S = some (.bl false, S) := by
  rw [q_isi (c := "list") (n := "tuple") (by decide) rfl]
  rfl
theorem isi_bb {i : Bool} {S : Hd} : bltD .isi [.bl i, .ty "bool"] S = some (.bl true, S) := by
  rw [q_isi (c := "bool") (n := "bool") (by decide) rfl]
  rfl
theorem isi_ltl {xs : List D} {k : Nat} {S : Hd} (h : S[k]? = some (.lst xs)) : bltD .isi [.ref k, .tup [.ty "tuple", .ty "list"]] S = some (.bl true, S) := by
  rw [q_isiT (cs := [.ty "tuple", .ty "list"]) (ts := ["tuple", "list"]) (n := "list") (by simp only [tysOf, show plainTy "tuple" = true by decide, show plainTy "list" = true by decide, if_true, Option.map_some]) (n_ref h)]
  rfl
theorem isi_ll {xs : List D} {k : Nat} {S : Hd} (h : S[k]? = some (.lst xs)) : bltD .isi [.ref k, .ty "list"] S = some (.bl true, S) := by
  rw [q_isi (c := "list") (n := "list") (by decide) (n_ref h)]
  rfl
theorem M_and {Γ : Fs} {a b : E} {env : Sl} {S : Hd} {Q : D × Hd → Prop} (h : M (ev Γ a env S) fun x => x.1 = .bl true ∧ M (ev Γ b env x.2) Q) : M (ev Γ (.and_ a b) env S) Q := by
  simp only [ev, M_bind]
  refine h.imp fun x ⟨e, m⟩ => ?_
  rw [e]
  exact m
end Ix
namespace Ix
open PySem L2
theorem Lq.ple {S0 S S' : Hd} {p : Nat} (a : Lq S0 S) (b : Le p S S') (h : S0.length ≤ p) : Lq S0 S' := fun k o e => b k o (by have := lt_of_get e; omega) (a k o e)
theorem cut_mem {xs : List D} {l h : Option Int} {i : Nat} {d : D} (e : (cutD xs l h)[i]? = some d) : d ∈ xs := by
  unfold cutD at e
  exact List.mem_of_mem_drop (List.mem_of_mem_take (List.mem_of_getElem? e))
theorem cut_len {xs : List D} {l h : Option Int} : (cutD xs l h).length ≤ xs.length := by
  unfold cutD
  rw [List.length_take, List.length_drop]
  omega
theorem cell_get {ns : List Int} {c : Int} {l h : Option Int} {i : Nat} {d : D} (e : ([D.int c] ++ cutD (ns.map .int) l h)[i]? = some d) : ∃ z, d = .int z := by
  have := List.mem_of_getElem? e
  rcases List.mem_append.mp this with q | q
  · exact ⟨c, List.mem_singleton.mp q⟩
  · obtain ⟨j, hj⟩ := List.getElem?_of_mem q
    obtain ⟨z, _, rfl⟩ := List.mem_map.mp (cut_mem hj)
    exact ⟨z, rfl⟩
end Ix

namespace Ix
open PySem L2
theorem Lq.len {S S' : Hd} (a : Lq S S') : S.length ≤ S'.length := by
  rcases Nat.lt_or_ge S'.length S.length with h | h
  · have e := a S'.length _ (List.getElem?_eq_getElem h)
    have := lt_of_get e
    omega
  · exact h
/-- a comprehension over known items: c tells which of them are kept, v what each becomes -/
theorem M_lcx {β : Type} {Γ : Fs} {k : Ik} {cs cc ce : E} {g : G} {own : List Nat} {env : Sl} {S : Hd} {Q : D × Hd → Prop} (xs : List β) (f : β → D) (c : β → Bool) (v : β → D) (ho : gOk own g = true)
    (h1 : M (ev Γ cs env S) fun x => ∃ ds S1, x = (.tup ds, S1) ∧ Lq S S1 ∧ ∀ S2, Lq S1 S2 → items k ds S2 = some (xs.map f)) (hz : xs.length < most)
    (he : ∀ (x : β) (S2 : Hd), x ∈ xs → Lq S S2 → ∃ env1, asgG g (f x) (wipeD env own) = some env1 ∧ M (tst (ev Γ cc env1 S2)) fun r => r.1 = c x ∧ Lq S2 r.2 ∧ (c x = true → M (ev Γ ce env1 r.2) fun y => y.1 = v x ∧ Lq r.2 y.2))
    (hq : ∀ (j : Nat) (S2 : Hd), S.length ≤ j → S2[j]? = some (.lst ((xs.filter c).map v)) → Lq S S2 → Q (.ref j, S2)) : M (ev Γ (.lc k cs g cc ce own) env S) Q := by
  simp only [ev, ho, if_true, M_bind]
  refine h1.imp ?_
  rintro _ ⟨ds, S1, rfl, l1, hit⟩
  simp only [M_bind, argsOf, M_some, hit S1 (Lq.refl _), M_map]
  refine M_loopH (fun i S2 => S2[S1.length]? = some (.lst (((xs.take i).filter c).map v)) ∧ Lq S1 S2) (m := 0) ⟨by simp, Lq.app _ _⟩ (fun i d S2 hi ⟨a, b⟩ => ?_) fun S2 ⟨a, b⟩ => ?_
  · rw [List.getElem?_map] at hi
    cases hx : xs[i]? with
    | none => rw [hx] at hi; cases hi
    | some x =>
      rw [hx] at hi
      simp only [Option.map_some, Option.some.injEq] at hi
      subst hi
      obtain ⟨env1, e1, m1⟩ := he x S2 (List.mem_of_getElem? hx) (l1.trans b)
      have et : xs.take (0 + i + 1) = xs.take (0 + i) ++ [x] := by
        rw [Nat.zero_add, List.take_add_one, hx]
        rfl
      simp only [e1, Option.bind_some, M_bind]
      refine m1.imp fun r ⟨e2, l2, m2⟩ => ?_
      have hlt : i < xs.length := (List.getElem?_eq_some_iff.mp hx).1
      cases hc : c x with
      | false =>
        rw [e2, hc]
        simp only [Bool.false_eq_true, if_false, M_some]
        refine ⟨hit _ (b.trans l2), ?_, b.trans l2⟩
        rw [et, List.filter_append]
        simp only [List.filter_cons, hc, Bool.false_eq_true, if_false, List.filter_nil, List.append_nil]
        exact l2 _ _ a
      | true =>
        rw [e2, hc]
        simp only [if_true, M_bind]
        refine (m2 hc).imp fun y ⟨e3, l3⟩ => ?_
        have hl : ((xs.take (0 + i)).filter c).length ≤ xs.length := Nat.le_trans (List.length_filter_le _ _) (by rw [List.length_take]; omega)
        have hl2 : ((xs.take (0 + i)).filter c).length ≤ i := Nat.le_trans (List.length_filter_le _ _) (by rw [List.length_take]; omega)
        rw [q_push (l3 _ _ (l2 _ _ a)) (by rw [List.length_map]; omega), M_some]
        have l4 : Lq S1 (y.2.set S1.length (.lst ((((xs.take (0 + i)).filter c).map v) ++ [y.1]))) := Lq.set (b.trans (l2.trans l3)) (Nat.le_refl _)
        refine ⟨hit _ l4, ?_, l4⟩
        rw [List.getElem?_set_self (lt_of_get (l3 _ _ (l2 _ _ a))), e3, et, List.filter_append, List.map_append]
        simp only [List.filter_cons, hc, if_true, List.filter_nil, List.map_cons, List.map_nil]
  · rw [Nat.zero_add, List.length_map, List.take_length] at a
    exact hq _ S2 l1.len a (l1.trans b)
theorem filt_true {β : Type} {xs : List β} : xs.filter (fun _ => true) = xs := List.filter_eq_self.mpr (by simp)
theorem map_get {β : Type} {xs : List β} {f : β → D} {i : Nat} {d : D} (h : (xs.map f)[i]? = some d) : ∃ x, xs[i]? = some x ∧ x ∈ xs ∧ d = f x := by
  rw [List.getElem?_map] at h
  cases hx : xs[i]? with
  | none => rw [hx] at h; cases h
  | some j =>
    rw [hx] at h
    simp only [Option.map_some, Option.some.injEq] at h
    exact ⟨j, rfl, List.mem_of_getElem? hx, h.symm⟩
/-- ascending lists of the same numbers are the same -/
theorem asc_ext : ∀ {A B : List Int}, A.Pairwise (· < ·) → B.Pairwise (· < ·) → (∀ x, x ∈ A ↔ x ∈ B) → A = B
  | [], [], _, _, _ => rfl
  | [], b :: B, _, _, h => absurd ((h b).mpr List.mem_cons_self) (by simp)
  | a :: A, [], _, _, h => absurd ((h a).mp List.mem_cons_self) (by simp)
  | a :: A, b :: B, ha, hb, h => by
    rw [List.pairwise_cons] at ha hb
    have e : a = b := by
      have h1 := (h a).mp List.mem_cons_self
      have h2 := (h b).mpr List.mem_cons_self
      rcases List.mem_cons.mp h1 with q | q
      · exact q
      · rcases List.mem_cons.mp h2 with r | r
        · exact r.symm
        · have := ha.1 b r
          have := hb.1 a q
          omega
    subst e
    congr 1
    refine asc_ext ha.2 hb.2 fun x => ⟨fun q => ?_, fun q => ?_⟩
    · rcases List.mem_cons.mp ((h x).mp (List.mem_cons_of_mem _ q)) with r | r
      · have := ha.1 x q
        omega
      · exact r
    · rcases List.mem_cons.mp ((h x).mpr (List.mem_cons_of_mem _ q)) with r | r
      · have := hb.1 x q
        omega
      · exact r
theorem M_tup2 {Γ : Fs} {a b : E} {env : Sl} {S : Hd} {Q : D × Hd → Prop} (h : M (ev Γ a env S) fun x => M (ev Γ b env x.2) fun y => Q (.tup [x.1, y.1], y.2)) : M (ev Γ (.tup (.cons a (.cons b .nil))) env S) Q := by
  simp only [ev, M_bind, M_map, M_some, argsOf, Option.map_some, Option.bind_some, List.length_cons, List.length_nil, show (0 + 1 + 1 : Nat) ≤ most by decide, if_true]
  exact h
theorem i_rng2 {i j : Int} {S : Hd} (h1 : -(2 ^ 62) ≤ i) (h2 : i < 2 ^ 62) (h3 : -(2 ^ 62) ≤ j) (h4 : j < 2 ^ 62) : items .range2 [.int i, .int j] S = some ((List.range (j - i).toNat).map fun (m : Nat) => .int (i + (m : Int))) := if_pos ⟨h1, h2, h3, h4⟩
end Ix

namespace Lw
open PySem L2 Ix
/-- 0: is_number (value) -/
def b_is_number : Sx := (.ret (.and_ (.blt .isi (.cons (.var 0) (.cons (.c (.ty "int")) (.nil)))) (.not_ (.blt .isi (.cons (.var 0) (.cons (.c (.ty "bool")) (.nil)))))))
/-- 1: is_pair (value) -/
def b_is_pair : Sx := (.ret (.and_ (.blt .isi (.cons (.var 0) (.cons (.c (.ty "tuple")) (.nil)))) (.cmp .eq (.blt .len (.cons (.var 0) (.nil))) (.c (.int 2)))))
/-- 2: check_number (value) -/
def b_check_number : Sx := (.ite (.not_ (.call 0 (.cons (.var 0) (.nil))))
    .stuck .skip)
/-- 3: is_ascending (numbers, one, other) -/
def b_is_ascending : Sx := (.ret (.blt .all_ (.cons (.lc .zip (.cons (.var 0) (.cons (.sl true false (.var 0) (.c (.int 1)) .nop) (.nil))) (.tup (.cons (.name 1) (.cons (.name 2) .nil))) (.c (.bl true)) (.cmp .lt (.var 1) (.var 2)) [1, 2]) (.nil))))
/-- 4: _is_near (value) -/
def b_is_near : Sx := (.ret (.and_ (.call 0 (.cons (.var 0) (.nil))) (.chain .le .le (.neg (.c (.int 900))) (.var 0) (.c (.int 900)))))
/-- 5: _are_offsets (value, item) -/
def b_are_offsets : Sx := (.seq (.ite (.or_ (.not_ (.blt .isi (.cons (.var 0) (.cons (.c (.ty "tuple")) (.nil))))) (.not_ (.chain .le .le (.c (.int 1)) (.blt .len (.cons (.var 0) (.nil))) (.c (.int 3)))))
    (.ret (.c (.bl false))) .skip)
    (.ret (.and_ (.blt .all_ (.cons (.lc .seq (.cons (.var 0) .nil) (.name 1) (.c (.bl true)) (.call 4 (.cons (.var 1) (.nil))) [1]) (.nil))) (.call 3 (.cons (.var 0) (.nil))))))
/-- 6: is_zone (value, offsets, spacing) -/
def b_is_zone : Sx := (.seq (.ite (.not_ (.call 1 (.cons (.var 0) (.nil))))
    (.ret (.c (.bl false))) .skip)
    (.seq (.asg (.tup (.cons (.name 1) (.cons (.name 2) .nil))) (.var 0))
    (.seq (.ite (.or_ (.not_ (.call 5 (.cons (.var 1) (.nil)))) (.not_ (.call 0 (.cons (.var 2) (.nil)))))
    (.ret (.c (.bl false))) .skip)
    (.ret (.chain .lt .le (.bin .sub (.ix (.var 1) (.neg (.c (.int 1)))) (.ix (.var 1) (.c (.int 0)))) (.var 2) (.c (.int 1000000)))))))
/-- 7: check_zone (value) -/
def b_check_zone : Sx := (.ite (.not_ (.call 6 (.cons (.var 0) (.nil))))
    .stuck .skip)
/-- 8: _are_jumps (zone, offset, marks, moments, mark, offsets, spaced, moment, later, ahead, behind) -/
def b_are_jumps : Sx := (.seq (.asg (.name 3) (.lc .seq (.cons (.var 2) .nil) (.name 4) (.c (.bl true)) (.ix (.var 4) (.c (.int 0))) [4]))
    (.seq (.asg (.name 5) (.bin .add (.lst (.cons (.var 1) (.nil))) (.lc .seq (.cons (.var 2) .nil) (.name 4) (.c (.bl true)) (.ix (.var 4) (.c (.int 1))) [4])))
    (.seq (.asg (.name 6) (.blt .all_ (.cons (.lc .zip (.cons (.var 3) (.cons (.sl true false (.var 3) (.c (.int 1)) .nop) (.nil))) (.tup (.cons (.name 7) (.cons (.name 8) .nil))) (.c (.bl true)) (.cmp .ge (.bin .sub (.var 8) (.var 7)) (.ix (.var 0) (.c (.int 1)))) [7, 8]) (.nil))))
    (.ret (.and_ (.var 6) (.blt .all_ (.cons (.lc .zip (.cons (.var 5) (.cons (.sl true false (.var 5) (.c (.int 1)) .nop) (.nil))) (.tup (.cons (.name 9) (.cons (.name 10) .nil))) (.c (.bl true)) (.cmp .ne (.var 9) (.var 10)) [9, 10]) (.nil))))))))
/-- 9: is_offset (zone, value) -/
def b_is_offset : Sx := (.ret (.and_ (.call 0 (.cons (.var 1) (.nil))) (.cmp .in_ (.var 1) (.ix (.var 0) (.c (.int 0))))))
/-- 10: _is_mark (zone, value) -/
def b_is_mark : Sx := (.ret (.and_ (.call 1 (.cons (.var 1) (.nil))) (.and_ (.call 0 (.cons (.ix (.var 1) (.c (.int 0))) (.nil))) (.call 9 (.cons (.var 0) (.cons (.ix (.var 1) (.c (.int 1))) (.nil)))))))
/-- 11: are_marks (zone, value, item) -/
def b_are_marks : Sx := (.ret (.and_ (.blt .isi (.cons (.var 1) (.cons (.c (.ty "tuple")) (.nil)))) (.blt .all_ (.cons (.lc .seq (.cons (.var 1) .nil) (.name 2) (.c (.bl true)) (.call 10 (.cons (.var 0) (.cons (.var 2) (.nil)))) [2]) (.nil)))))
/-- 12: fits_as_table (zone, value, offset, jumps) -/
def b_fits_as_table : Sx := (.seq (.ite (.not_ (.call 1 (.cons (.var 1) (.nil))))
    (.ret (.c (.bl false))) .skip)
    (.seq (.asg (.tup (.cons (.name 2) (.cons (.name 3) .nil))) (.var 1))
    (.seq (.ite (.or_ (.not_ (.call 9 (.cons (.var 0) (.cons (.var 2) (.nil))))) (.not_ (.call 11 (.cons (.var 0) (.cons (.var 3) (.nil))))))
    (.ret (.c (.bl false))) .skip)
    (.ret (.call 8 (.cons (.var 0) (.cons (.var 2) (.cons (.var 3) (.nil)))))))))
/-- 13: check_table (zone, value) -/
def b_check_table : Sx := (.ite (.not_ (.call 12 (.cons (.var 0) (.cons (.var 1) (.nil)))))
    .stuck .skip)
/-- 14: held_offset (table, moment, offset, jumps, start, later) -/
def b_held_offset : Sx := (.seq (.asg (.tup (.cons (.name 2) (.cons (.name 3) .nil))) (.var 0))
    (.seq (.for_ .seq (.cons (.var 3) .nil) (.tup (.cons (.name 4) (.cons (.name 5) .nil)))
    (.seq (.ite (.cmp .gt (.var 4) (.var 1))
    (.brk) .skip)
    (.asg (.name 2) (.var 5))))
    (.ret (.var 2))))
/-- 15: offset_at (zone, table, moment) -/
def b_offset_at : Sx := (.seq (.drop (.call 7 (.cons (.var 0) (.nil))))
    (.seq (.drop (.call 13 (.cons (.var 0) (.cons (.var 1) (.nil)))))
    (.seq (.drop (.call 2 (.cons (.var 2) (.nil))))
    (.ret (.call 14 (.cons (.var 1) (.cons (.var 2) (.nil))))))))
/-- 16: reading_at (zone, table, moment) -/
def b_reading_at : Sx := (.seq (.drop (.call 7 (.cons (.var 0) (.nil))))
    (.seq (.drop (.call 13 (.cons (.var 0) (.cons (.var 1) (.nil)))))
    (.seq (.drop (.call 2 (.cons (.var 2) (.nil))))
    (.ret (.bin .add (.var 2) (.call 14 (.cons (.var 1) (.cons (.var 2) (.nil)))))))))
/-- 17: _law_digits (_law_cell, _law_mixed, _law_full, _law_k) -/
def b_digits : Sx := (.seq (.ite (.cmp .ge (.var 0) (.bin .pow (.c (.int 10)) (.c (.int 18))))
    (.ret (.lst (.cons (.bin .sub (.var 0) (.bin .pow (.c (.int 10)) (.c (.int 18)))) (.nil)))) .skip)
    (.seq (.asg (.name 1) (.bin .add (.bin .mod (.blt .int_ (.cons (.var 0) (.nil))) (.bin .add (.bin .pow (.c (.int 10)) (.c (.int 38))) (.c (.int 133)))) (.c (.int 7))))
    (.seq (.asg (.name 2) (.c (.int 1)))
    (.seq (.for_ .range1 (.cons (.c (.int 19)) (.nil)) (.name 3)
    (.seq (.asg (.name 1) (.bin .mod (.bin .add (.bin .add (.bin .add (.bin .mul (.var 1) (.var 1)) (.bin .mul (.c (.int 31415926535)) (.var 1))) (.bin .mul (.c (.int 271829)) (.var 3))) (.c (.int 17))) (.bin .add (.bin .pow (.c (.int 10)) (.c (.int 41))) (.c (.int 9)))))
    (.ite (.cmp .gt (.var 3) (.c (.int 2)))
    (.asg (.name 2) (.bin .add (.bin .mul (.var 2) (.bin .pow (.c (.int 10)) (.c (.int 41)))) (.var 1))) .skip)))
    (.ret (.lst (.cons (.var 2) (.nil))))))))
/-- 18: _law_draw (_law_pot, _law_upto, _law_digit) -/
def b_draw : Sx := (.seq (.asg (.name 2) (.bin .mod (.blt .int_ (.cons (.ix (.var 0) (.c (.int 0))) (.nil))) (.var 1)))
    (.seq (.setix (.var 0) (.c (.int 0)) (.bin .fdiv (.ix (.var 0) (.c (.int 0))) (.var 1)))
    (.ret (.var 2))))
/-- 19: _law_any_hour (_law_pot, _law_kind) -/
def b_any_hour : Sx := (.seq (.asg (.name 1) (.call 18 (.cons (.var 0) (.cons (.c (.int 4)) (.nil)))))
    (.seq (.ite (.cmp .lt (.var 1) (.c (.int 2)))
    (.ret (.bin .sub (.call 18 (.cons (.var 0) (.cons (.c (.int 241)) (.nil)))) (.c (.int 120)))) .skip)
    (.seq (.ite (.cmp .eq (.var 1) (.c (.int 2)))
    (.ret (.bin .sub (.call 18 (.cons (.var 0) (.cons (.bin .add (.bin .mul (.c (.int 18)) (.bin .pow (.c (.int 10)) (.c (.int 11)))) (.c (.int 1))) (.nil)))) (.bin .mul (.c (.int 9)) (.bin .pow (.c (.int 10)) (.c (.int 11)))))) .skip)
    (.ret (.ix (.lst (.cons (.c (.int 0)) (.cons (.c (.int 1)) (.cons (.neg (.c (.int 1))) (.cons (.c (.int 1440)) (.cons (.neg (.c (.int 525600))) (.cons (.bin .sub (.bin .sub (.bin .pow (.c (.int 10)) (.c (.int 12))) (.c (.int 1))) (.bin .mul (.c (.int 2)) (.bin .pow (.c (.int 10)) (.c (.int 8))))) (.cons (.bin .sub (.c (.int 1)) (.bin .pow (.c (.int 10)) (.c (.int 12)))) (.nil))))))))) (.call 18 (.cons (.var 0) (.cons (.c (.int 7)) (.nil)))))))))
/-- 20: _law_make_region (_law_pot, _law_kind, _law_low, _law_unit, _law_wide, _law_mid, _law_top, _law_shifts, _law_shift, _law_spare, _law_more) -/
def b_make_region : Sx := (.seq (.asg (.name 1) (.call 18 (.cons (.var 0) (.cons (.c (.int 6)) (.nil)))))
    (.seq (.asg (.name 2) (.neg (.c (.int 900))))
    (.seq (.ite (.cmp .lt (.var 1) (.c (.int 2)))
    (.asg (.name 2) (.bin .sub (.call 18 (.cons (.var 0) (.cons (.c (.int 7)) (.nil)))) (.c (.int 3)))) (.ite (.cmp .eq (.var 1) (.c (.int 2)))
    (.asg (.name 2) (.bin .mul (.c (.int 30)) (.bin .sub (.call 18 (.cons (.var 0) (.cons (.c (.int 45)) (.nil)))) (.c (.int 22))))) (.ite (.cmp .eq (.var 1) (.c (.int 4)))
    (.asg (.name 2) (.bin .sub (.call 18 (.cons (.var 0) (.cons (.c (.int 1201)) (.nil)))) (.c (.int 900)))) .skip)))
    (.seq (.asg (.tup (.cons (.name 3) (.cons (.name 4) .nil))) (.ix (.lst (.cons (.tup (.cons (.c (.int 1)) (.cons (.c (.int 4)) (.nil)))) (.cons (.tup (.cons (.c (.int 1)) (.cons (.c (.int 4)) (.nil)))) (.cons (.tup (.cons (.c (.int 30)) (.cons (.c (.int 4)) (.nil)))) (.cons (.tup (.cons (.c (.int 1)) (.cons (.c (.int 900)) (.nil)))) (.cons (.tup (.cons (.c (.int 1)) (.cons (.c (.int 300)) (.nil)))) (.cons (.tup (.cons (.c (.int 900)) (.cons (.c (.int 1)) (.nil)))) (.nil)))))))) (.var 1)))
    (.seq (.asg (.name 5) (.bin .add (.var 2) (.bin .mul (.var 3) (.bin .add (.c (.int 1)) (.call 18 (.cons (.var 0) (.cons (.var 4) (.nil))))))))
    (.seq (.asg (.name 6) (.bin .add (.var 5) (.bin .mul (.var 3) (.bin .add (.c (.int 1)) (.call 18 (.cons (.var 0) (.cons (.var 4) (.nil))))))))
    (.seq (.asg (.name 7) (.lst (.cons (.tup (.cons (.var 2) (.cons (.var 5) (.nil)))) (.cons (.tup (.cons (.var 2) (.cons (.var 5) (.cons (.var 6) (.nil))))) (.cons (.tup (.cons (.var 2) (.cons (.var 6) (.nil)))) (.cons (.tup (.cons (.var 2) (.cons (.var 5) (.cons (.var 6) (.nil))))) (.cons (.tup (.cons (.var 6) (.nil))) (.nil))))))))
    (.seq (.asg (.name 7) (.ix (.var 7) (.bin .fdiv (.call 18 (.cons (.var 0) (.cons (.c (.int 9)) (.nil)))) (.c (.int 2)))))
    (.seq (.ite (.cmp .eq (.call 18 (.cons (.var 0) (.cons (.c (.int 2)) (.nil)))) (.c (.int 1)))
    (.asg (.name 7) (.blt .tuple_ (.cons (.lc .seq (.cons (.rev (.var 7)) .nil) (.name 8) (.c (.bl true)) (.neg (.var 8)) [8]) (.nil)))) .skip)
    (.seq (.asg (.name 9) (.bin .sub (.ix (.var 7) (.neg (.c (.int 1)))) (.ix (.var 7) (.c (.int 0)))))
    (.seq (.asg (.name 10) (.lst (.cons (.c (.int 0)) (.cons (.c (.int 0)) (.cons (.c (.int 1)) (.cons (.call 18 (.cons (.var 0) (.cons (.c (.int 1000)) (.nil)))) (.cons (.call 18 (.cons (.var 0) (.cons (.bin .sub (.c (.int 1000000)) (.var 9)) (.nil)))) (.cons (.bin .sub (.c (.int 999999)) (.var 9)) (.nil)))))))))
    (.ret (.tup (.cons (.var 7) (.cons (.bin .add (.bin .add (.var 9) (.c (.int 1))) (.ix (.var 10) (.call 18 (.cons (.var 0) (.cons (.c (.int 6)) (.nil)))))) (.nil))))))))))))))))
/-- 21: _law_make_chart (_law_pot, _law_region, _law_upto, _law_shifts, _law_spacing, _law_at, _law_held, _law_hour, _law_jumps, _law_k, _law_more) -/
def b_make_chart : Sx := (.seq (.asg (.tup (.cons (.name 3) (.cons (.name 4) .nil))) (.var 1))
    (.seq (.asg (.name 5) (.call 18 (.cons (.var 0) (.cons (.blt .len (.cons (.var 3) (.nil))) (.nil)))))
    (.seq (.asg (.name 6) (.ix (.var 3) (.var 5)))
    (.seq (.asg (.name 7) (.call 19 (.cons (.var 0) (.nil))))
    (.seq (.asg (.name 8) (.lst (.nil)))
    (.seq (.for_ .range1 (.cons (.bin .mul (.call 18 (.cons (.var 0) (.cons (.bin .add (.var 2) (.c (.int 1))) (.nil)))) (.blt .int_ (.cons (.cmp .gt (.blt .len (.cons (.var 3) (.nil))) (.c (.int 1))) (.nil)))) (.nil)) (.name 9)
    (.seq (.asg (.name 5) (.bin .mod (.blt .int_ (.cons (.bin .add (.bin .add (.var 5) (.c (.int 1))) (.call 18 (.cons (.var 0) (.cons (.bin .sub (.blt .len (.cons (.var 3) (.nil))) (.c (.int 1))) (.nil))))) (.nil))) (.blt .len (.cons (.var 3) (.nil)))))
    (.seq (.drop (.meth .append (.var 8) (.cons (.tup (.cons (.var 7) (.cons (.ix (.var 3) (.var 5)) (.nil)))) (.nil))))
    (.seq (.asg (.name 7) (.bin .add (.var 7) (.var 4)))
    (.seq (.asg (.name 10) (.call 18 (.cons (.var 0) (.cons (.c (.int 5)) (.nil)))))
    (.ite (.cmp .gt (.var 10) (.c (.int 2)))
    (.asg (.name 7) (.bin .add (.var 7) (.call 18 (.cons (.var 0) (.cons (.ix (.lst (.cons (.c (.int 0)) (.cons (.c (.int 0)) (.cons (.c (.int 0)) (.cons (.c (.int 5)) (.cons (.bin .mul (.c (.int 2)) (.var 4)) (.nil))))))) (.var 10)) (.nil)))))) .skip))))))
    (.ret (.tup (.cons (.var 6) (.cons (.blt .tuple_ (.cons (.var 8) (.nil))) (.nil)))))))))))
/-- 22: _law_shift_at (_law_chart, _law_hour, _law_held, _law_at, _law_shift) -/
def b_shift_at : Sx := (.seq (.asg (.name 2) (.ix (.var 0) (.c (.int 0))))
    (.seq (.for_ .seq (.cons (.ix (.var 0) (.c (.int 1))) .nil) (.tup (.cons (.name 3) (.cons (.name 4) .nil)))
    (.ite (.cmp .le (.var 3) (.var 1))
    (.asg (.name 2) (.var 4)) .skip))
    (.ret (.var 2))))
/-- 23: _law_near (_law_pot, _law_region, _law_chart, _law_jumps, _law_hour, _law_wide, _law_any_near) -/
def b_near : Sx := (.seq (.asg (.name 3) (.ix (.var 2) (.c (.int 1))))
    (.seq (.ite (.or_ (.cmp .eq (.blt .len (.cons (.var 3) (.nil))) (.c (.int 0))) (.cmp .eq (.call 18 (.cons (.var 0) (.cons (.c (.int 8)) (.nil)))) (.c (.int 7))))
    (.ret (.call 19 (.cons (.var 0) (.nil)))) .skip)
    (.seq (.asg (.name 4) (.ix (.ix (.var 3) (.call 18 (.cons (.var 0) (.cons (.blt .len (.cons (.var 3) (.nil))) (.nil))))) (.c (.int 0))))
    (.seq (.asg (.name 5) (.bin .sub (.ix (.ix (.var 1) (.c (.int 0))) (.neg (.c (.int 1)))) (.ix (.ix (.var 1) (.c (.int 0))) (.c (.int 0)))))
    (.seq (.asg (.name 6) (.bin .sub (.bin .sub (.call 18 (.cons (.var 0) (.cons (.bin .add (.bin .mul (.c (.int 2)) (.var 5)) (.c (.int 5))) (.nil)))) (.var 5)) (.c (.int 2))))
    (.seq (.asg (.name 4) (.bin .add (.var 4) (.ix (.lst (.cons (.c (.int 0)) (.cons (.neg (.c (.int 1))) (.cons (.c (.int 1)) (.cons (.var 5) (.cons (.neg (.var 5)) (.cons (.bin .sub (.var 5) (.c (.int 1))) (.cons (.bin .sub (.c (.int 1)) (.var 5)) (.cons (.var 6) (.nil)))))))))) (.call 18 (.cons (.var 0) (.cons (.c (.int 8)) (.nil)))))))
    (.ret (.blt .max_ (.cons (.bin .sub (.c (.int 1)) (.bin .pow (.c (.int 10)) (.c (.int 12)))) (.cons (.blt .min_ (.cons (.bin .sub (.bin .pow (.c (.int 10)) (.c (.int 12))) (.c (.int 1))) (.cons (.var 4) (.nil)))) (.nil)))))))))))
/-- 24: _law_whole (_law_thing) -/
def b_whole : Sx := (.ret (.and_ (.blt .isi (.cons (.var 0) (.cons (.c (.ty "int")) (.nil)))) (.not_ (.blt .isi (.cons (.var 0) (.cons (.c (.ty "bool")) (.nil)))))))
/-- 25: _law_same (_law_told, _law_due, _law_k) -/
def b_same : Sx := (.seq (.ite (.blt .isi (.cons (.var 1) (.cons (.tup (.cons (.c (.ty "tuple")) (.cons (.c (.ty "list")) (.nil)))) (.nil))))
    (.seq (.ite (.or_ (.not_ (.blt .isi (.cons (.var 0) (.cons (.tup (.cons (.c (.ty "tuple")) (.cons (.c (.ty "list")) (.nil)))) (.nil))))) (.cmp .ne (.blt .isi (.cons (.var 0) (.cons (.c (.ty "list")) (.nil)))) (.blt .isi (.cons (.var 1) (.cons (.c (.ty "list")) (.nil))))))
    (.ret (.c (.bl false))) .skip)
    (.ret (.and_ (.cmp .eq (.blt .len (.cons (.var 0) (.nil))) (.blt .len (.cons (.var 1) (.nil)))) (.blt .all_ (.cons (.lc .range1 (.cons (.blt .len (.cons (.var 1) (.nil))) (.nil)) (.name 2) (.c (.bl true)) (.call 25 (.cons (.ix (.var 0) (.var 2)) (.cons (.ix (.var 1) (.var 2)) (.nil)))) [2]) (.nil)))))) .skip)
    (.seq (.ite (.cmp .is_ (.var 1) (.c .non))
    (.ret (.cmp .is_ (.var 0) (.c .non))) .skip)
    (.seq (.ite (.blt .isi (.cons (.var 1) (.cons (.c (.ty "bool")) (.nil))))
    (.ret (.and_ (.blt .isi (.cons (.var 0) (.cons (.c (.ty "bool")) (.nil)))) (.cmp .eq (.var 0) (.var 1)))) .skip)
    (.seq (.ite (.blt .isi (.cons (.var 1) (.cons (.c (.ty "int")) (.nil))))
    (.ret (.and_ (.call 24 (.cons (.var 0) (.nil))) (.cmp .eq (.var 0) (.var 1)))) .skip)
    (.seq (.ite (.blt .isi (.cons (.var 1) (.cons (.c (.ty "str")) (.nil))))
    (.ret (.and_ (.blt .isi (.cons (.var 0) (.cons (.c (.ty "str")) (.nil)))) (.cmp .eq (.var 0) (.var 1)))) .skip)
    (.ret (.and_ (.not_ (.blt .isi (.cons (.var 0) (.cons (.tup (.cons (.c (.ty "tuple")) (.cons (.c (.ty "list")) (.cons (.c (.ty "int")) (.cons (.c (.ty "str")) (.nil)))))) (.nil))))) (.cmp .isnot (.var 0) (.c .non)))))))))
/-- 26: law (_law_script, _law_cell, _law_pot, _law_pairs, _law_k, _law_region, _law_made, _law_chart, _law_hour, _law_due) -/
def b_law_k04 : Sx := (.seq (.for_ .seq (.cons (.bin .add (.lst (.cons (.bin .add (.bin .pow (.c (.int 10)) (.c (.int 60))) (.c (.int 733091582246670195518844))) (.nil))) (.sl false true (.var 0) .nop (.c (.int 8)))) .nil) (.name 1)
    (.seq (.asg (.name 2) (.call 17 (.cons (.var 1) (.nil))))
    (.seq (.asg (.name 3) (.lst (.nil)))
    (.seq (.for_ .range1 (.cons (.c (.int 2)) (.nil)) (.name 4)
    (.seq (.asg (.name 5) (.call 20 (.cons (.var 2) (.nil))))
    (.seq (.asg (.name 6) (.call 21 (.cons (.var 2) (.cons (.var 5) (.cons (.ix (.lst (.cons (.c (.int 2)) (.cons (.c (.int 9)) (.cons (.c (.int 60)) (.nil))))) (.call 18 (.cons (.var 2) (.cons (.c (.int 3)) (.nil))))) (.nil))))))
    (.drop (.meth .append (.var 3) (.cons (.tup (.cons (.var 5) (.cons (.var 6) (.nil)))) (.nil)))))))
    (.for_ .range1 (.cons (.c (.int 6)) (.nil)) (.name 4)
    (.for_ .seq (.cons (.var 3) .nil) (.tup (.cons (.name 5) (.cons (.name 7) .nil)))
    (.seq (.asg (.name 8) (.bin .add (.call 23 (.cons (.var 2) (.cons (.var 5) (.cons (.var 7) (.nil))))) (.ix (.lst (.cons (.c (.int 0)) (.cons (.c (.int 0)) (.cons (.c (.int 0)) (.cons (.c (.int 0)) (.cons (.c (.int 0)) (.cons (.c (.int 0)) (.cons (.bin .pow (.c (.int 10)) (.c (.int 12))) (.cons (.neg (.bin .pow (.c (.int 10)) (.c (.int 12)))) (.nil)))))))))) (.call 18 (.cons (.var 2) (.cons (.c (.int 8)) (.nil)))))))
    (.seq (.asg (.name 9) (.call 22 (.cons (.var 7) (.cons (.var 8) (.nil)))))
    (.seq (.ite (.not_ (.call 25 (.cons (.call 15 (.cons (.var 5) (.cons (.var 7) (.cons (.var 8) (.nil))))) (.cons (.var 9) (.nil)))))
    (.ret (.c (.bl false))) .skip)
    (.seq (.ite (.not_ (.call 25 (.cons (.callK 16 .nil (.cons (.var 8) (.cons (.var 7) (.cons (.var 5) .nil))) [2, 1, 0]) (.cons (.bin .add (.var 8) (.var 9)) (.nil)))))
    (.ret (.c (.bl false))) .skip)
    (.seq (.ite (.not_ (.call 25 (.cons (.callK 15 .nil (.cons (.var 7) (.cons (.var 5) (.cons (.var 8) .nil))) [1, 0, 2]) (.cons (.var 9) (.nil)))))
    (.ret (.c (.bl false))) .skip)
    (.ite (.not_ (.call 25 (.cons (.call 16 (.cons (.var 5) (.cons (.var 7) (.cons (.var 8) (.nil))))) (.cons (.bin .add (.var 8) (.var 9)) (.nil)))))
    (.ret (.c (.bl false))) .skip))))))))))))
    (.ret (.c (.bl true))))
/-- 27: matching_moments (reading, looks, moment, offset) -/
def b_matching_moments : Sx := (.ret (.lc .seq (.cons (.var 1) .nil) (.tup (.cons (.name 2) (.cons (.name 3) .nil))) (.cmp .eq (.bin .add (.var 2) (.var 3)) (.var 0)) (.var 2) [2, 3]))
/-- 28: moments_to_look_at (zone, reading, offset) -/
def b_moments_to_look_at : Sx := (.ret (.lc .seq (.cons (.rev (.ix (.var 0) (.c (.int 0)))) .nil) (.name 2) (.c (.bl true)) (.bin .sub (.var 1) (.var 2)) [2]))
/-- 29: looks_to_find (zone, table, reading, moment) -/
def b_looks_to_find : Sx := (.ret (.lc .seq (.cons (.call 28 (.cons (.var 0) (.cons (.var 2) (.nil)))) .nil) (.name 3) (.c (.bl true)) (.tup (.cons (.var 3) (.cons (.call 14 (.cons (.var 1) (.cons (.var 3) (.nil)))) (.nil)))) [3]))
/-- 30: moments_of (zone, table, reading) -/
def b_moments_of : Sx := (.seq (.drop (.call 7 (.cons (.var 0) (.nil))))
    (.seq (.drop (.call 13 (.cons (.var 0) (.cons (.var 1) (.nil)))))
    (.seq (.drop (.call 2 (.cons (.var 2) (.nil))))
    (.ret (.call 27 (.cons (.var 2) (.cons (.call 29 (.cons (.var 0) (.cons (.var 1) (.cons (.var 2) (.nil))))) (.nil))))))))
/-- 31: _law_hours_of (_law_chart, _law_shown, _law_jumps, _law_hours, _law_held, _law_k, _law_hour) -/
def b_hours_of : Sx := (.seq (.asg (.name 2) (.ix (.var 0) (.c (.int 1))))
    (.seq (.asg (.name 3) (.lst (.nil)))
    (.seq (.asg (.name 4) (.ix (.var 0) (.c (.int 0))))
    (.seq (.for_ .range1 (.cons (.bin .add (.blt .len (.cons (.var 2) (.nil))) (.c (.int 1))) (.nil)) (.name 5)
    (.seq (.asg (.name 6) (.bin .sub (.var 1) (.var 4)))
    (.seq (.ite (.and_ (.or_ (.cmp .eq (.var 5) (.c (.int 0))) (.cmp .le (.ix (.ix (.var 2) (.bin .sub (.var 5) (.c (.int 1)))) (.c (.int 0))) (.var 6))) (.or_ (.cmp .eq (.var 5) (.blt .len (.cons (.var 2) (.nil)))) (.cmp .lt (.var 6) (.ix (.ix (.var 2) (.var 5)) (.c (.int 0))))))
    (.drop (.meth .append (.var 3) (.cons (.var 6) (.nil)))) .skip)
    (.ite (.cmp .lt (.var 5) (.blt .len (.cons (.var 2) (.nil))))
    (.asg (.name 4) (.ix (.ix (.var 2) (.var 5)) (.c (.int 1)))) .skip))))
    (.ret (.var 3))))))
/-- 32: law (_law_script, _law_cell, _law_pot, _law_pairs, _law_k, _law_region, _law_made, _law_chart, _law_shown, _law_due, _law_told) -/
def b_law_k05 : Sx := (.seq (.for_ .seq (.cons (.bin .add (.lst (.cons (.bin .add (.bin .pow (.c (.int 10)) (.c (.int 60))) (.c (.int 188203764419925570813366))) (.nil))) (.sl false true (.var 0) .nop (.c (.int 8)))) .nil) (.name 1)
    (.seq (.asg (.name 2) (.call 17 (.cons (.var 1) (.nil))))
    (.seq (.asg (.name 3) (.lst (.nil)))
    (.seq (.for_ .range1 (.cons (.c (.int 2)) (.nil)) (.name 4)
    (.seq (.asg (.name 5) (.call 20 (.cons (.var 2) (.nil))))
    (.seq (.asg (.name 6) (.call 21 (.cons (.var 2) (.cons (.var 5) (.cons (.ix (.lst (.cons (.c (.int 2)) (.cons (.c (.int 9)) (.cons (.c (.int 60)) (.nil))))) (.call 18 (.cons (.var 2) (.cons (.c (.int 3)) (.nil))))) (.nil))))))
    (.drop (.meth .append (.var 3) (.cons (.tup (.cons (.var 5) (.cons (.var 6) (.nil)))) (.nil)))))))
    (.for_ .range1 (.cons (.c (.int 6)) (.nil)) (.name 4)
    (.for_ .seq (.cons (.var 3) .nil) (.tup (.cons (.name 5) (.cons (.name 7) .nil)))
    (.seq (.asg (.name 8) (.bin .add (.call 23 (.cons (.var 2) (.cons (.var 5) (.cons (.var 7) (.nil))))) (.ix (.ix (.var 5) (.c (.int 0))) (.call 18 (.cons (.var 2) (.cons (.blt .len (.cons (.ix (.var 5) (.c (.int 0))) (.nil))) (.nil)))))))
    (.seq (.asg (.name 8) (.bin .add (.var 8) (.ix (.lst (.cons (.c (.int 0)) (.cons (.c (.int 0)) (.cons (.c (.int 0)) (.cons (.c (.int 0)) (.cons (.c (.int 0)) (.cons (.c (.int 0)) (.cons (.bin .pow (.c (.int 10)) (.c (.int 12))) (.cons (.neg (.bin .pow (.c (.int 10)) (.c (.int 12)))) (.nil)))))))))) (.call 18 (.cons (.var 2) (.cons (.c (.int 8)) (.nil)))))))
    (.seq (.asg (.name 9) (.call 31 (.cons (.var 7) (.cons (.var 8) (.nil)))))
    (.seq (.asg (.name 10) (.call 30 (.cons (.var 5) (.cons (.var 7) (.cons (.var 8) (.nil))))))
    (.seq (.ite (.not_ (.call 25 (.cons (.var 10) (.cons (.var 9) (.nil)))))
    (.ret (.c (.bl false))) .skip)
    (.seq (.drop (.meth .append (.var 10) (.cons (.var 8) (.nil))))
    (.ite (.not_ (.call 25 (.cons (.callK 30 .nil (.cons (.var 8) (.cons (.var 7) (.cons (.var 5) .nil))) [2, 1, 0]) (.cons (.var 9) (.nil)))))
    (.ret (.c (.bl false))) .skip)))))))))))))
    (.ret (.c (.bl true))))
/-- 33: fits_as_looks (zone, value, look) -/
def b_fits_as_looks : Sx := (.ret (.and_ (.call 11 (.cons (.var 0) (.cons (.var 1) (.nil)))) (.call 3 (.cons (.lc .seq (.cons (.var 1) .nil) (.name 2) (.c (.bl true)) (.ix (.var 2) (.c (.int 0))) [2]) (.nil)))))
/-- 34: check_looks (zone, value) -/
def b_check_looks : Sx := (.ite (.not_ (.call 33 (.cons (.var 0) (.cons (.var 1) (.nil)))))
    .stuck .skip)
/-- 35: _loads (spacing, looks, loads, changes, k, look) -/
def b_loads : Sx := (.seq (.asg (.name 2) (.lst (.nil)))
    (.seq (.asg (.name 3) (.c (.int 0)))
    (.seq (.for_ .enum (.cons (.var 1) (.nil)) (.tup (.cons (.name 4) (.cons (.name 5) .nil)))
    (.seq (.ite (.and_ (.cmp .gt (.var 4) (.c (.int 0))) (.cmp .ne (.ix (.var 5) (.c (.int 1))) (.ix (.ix (.var 1) (.bin .sub (.var 4) (.c (.int 1)))) (.c (.int 1)))))
    (.aug 3 .add (.c (.int 1))) .skip)
    (.drop (.meth .append (.var 2) (.cons (.bin .sub (.bin .mul (.var 3) (.var 0)) (.ix (.var 5) (.c (.int 0)))) (.nil))))))
    (.ret (.var 2)))))
/-- 36: crowded_stretch (spacing, looks, loads, lightest, last, load, first) -/
def b_crowded_stretch : Sx := (.seq (.asg (.name 2) (.call 35 (.cons (.var 0) (.cons (.var 1) (.nil)))))
    (.seq (.asg (.name 3) (.c .non))
    (.seq (.for_ .enum (.cons (.var 2) (.nil)) (.tup (.cons (.name 4) (.cons (.name 5) .nil)))
    (.seq (.ite (.and_ (.cmp .isnot (.var 3) (.c .non)) (.cmp .ge (.bin .sub (.var 5) (.var 3)) (.var 0)))
    (.ret (.tup (.cons (.blt .max_ (.cons (.lc .range1 (.cons (.var 4) (.nil)) (.name 6) (.cmp .ge (.bin .sub (.var 5) (.ix (.var 2) (.var 6))) (.var 0)) (.var 6) [6]) (.nil))) (.cons (.var 4) (.nil))))) .skip)
    (.ite (.or_ (.cmp .is_ (.var 3) (.c .non)) (.cmp .lt (.var 5) (.var 3)))
    (.asg (.name 3) (.var 5)) .skip)))
    (.ret (.c .non)))))
/-- 37: can_hold (zone, looks) -/
def b_can_hold : Sx := (.seq (.drop (.call 7 (.cons (.var 0) (.nil))))
    (.seq (.drop (.call 34 (.cons (.var 0) (.cons (.var 1) (.nil)))))
    (.ret (.cmp .is_ (.call 36 (.cons (.ix (.var 0) (.c (.int 1))) (.cons (.var 1) (.nil)))) (.c .non)))))
/-- 38: crowded (zone, looks) -/
def b_crowded : Sx := (.seq (.drop (.call 7 (.cons (.var 0) (.nil))))
    (.seq (.drop (.call 34 (.cons (.var 0) (.cons (.var 1) (.nil)))))
    (.ret (.call 36 (.cons (.ix (.var 0) (.c (.int 1))) (.cons (.var 1) (.nil)))))))
/-- 39: _law_make_sights (_law_pot, _law_region, _law_pots, _law_shifts, _law_spacing, _law_hour, _law_brim, _law_at, _law_rows, _law_many, _law_calm, _law_k, _law_own, _law_least, _law_way, _law_beside, _law_turn) -/
def b_make_sights : Sx := (.seq (.asg (.tup (.cons (.name 3) (.cons (.name 4) .nil))) (.var 1))
    (.seq (.asg (.name 5) (.call 19 (.cons (.var 0) (.nil))))
    (.seq (.asg (.name 6) (.bin .sub (.var 5) (.var 4)))
    (.seq (.asg (.name 7) (.call 18 (.cons (.var 0) (.cons (.blt .len (.cons (.var 3) (.nil))) (.nil)))))
    (.seq (.asg (.name 8) (.lst (.nil)))
    (.seq (.asg (.name 9) (.blt .len (.cons (.var 2) (.nil))))
    (.seq (.asg (.name 10) (.ix (.lst (.cons (.var 9) (.cons (.c (.int 0)) (.cons (.call 18 (.cons (.var 0) (.cons (.bin .add (.var 9) (.c (.int 1))) (.nil)))) (.nil))))) (.call 18 (.cons (.var 0) (.cons (.c (.int 3)) (.nil))))))
    (.seq (.for_ .range1 (.cons (.var 9) (.nil)) (.name 11)
    (.seq (.asg (.name 12) (.ix (.var 2) (.var 11)))
    (.seq (.drop (.meth .append (.var 8) (.cons (.tup (.cons (.var 5) (.cons (.ix (.var 3) (.var 7)) (.nil)))) (.nil))))
    (.seq (.asg (.name 13) (.blt .max_ (.cons (.bin .add (.var 5) (.c (.int 1))) (.cons (.bin .add (.var 6) (.var 4)) (.nil)))))
    (.seq (.asg (.name 14) (.call 18 (.cons (.var 12) (.cons (.c (.int 9)) (.nil)))))
    (.seq (.asg (.name 15) (.lst (.cons (.var 13) (.cons (.var 13) (.cons (.bin .sub (.var 13) (.c (.int 1))) (.cons (.bin .add (.var 5) (.c (.int 1))) (.cons (.bin .add (.bin .add (.var 5) (.c (.int 1))) (.call 18 (.cons (.var 12) (.cons (.c (.int 7)) (.nil))))) (.cons (.bin .add (.var 13) (.call 18 (.cons (.var 12) (.cons (.c (.int 5)) (.nil))))) (.nil)))))))))
    (.seq (.asg (.name 15) (.bin .add (.var 15) (.lst (.cons (.bin .add (.bin .add (.var 5) (.c (.int 1))) (.call 18 (.cons (.var 12) (.cons (.bin .mul (.c (.int 2)) (.var 4)) (.nil))))) (.cons (.bin .add (.var 13) (.call 18 (.cons (.var 12) (.cons (.var 4) (.nil))))) (.nil))))))
    (.seq (.drop (.meth .append (.var 15) (.cons (.bin .add (.bin .add (.var 5) (.c (.int 1))) (.call 18 (.cons (.var 12) (.cons (.c (.int 1000000)) (.nil))))) (.nil))))
    (.seq (.asg (.name 16) (.bin .mul (.call 18 (.cons (.var 12) (.cons (.c (.int 3)) (.nil)))) (.blt .int_ (.cons (.cmp .gt (.blt .len (.cons (.var 3) (.nil))) (.c (.int 1))) (.nil)))))
    (.seq (.asg (.name 5) (.blt .max_ (.cons (.bin .add (.var 5) (.c (.int 1))) (.cons (.ix (.var 15) (.var 14)) (.nil)))))
    (.ite (.cmp .gt (.var 16) (.c (.int 0)))
    (.seq (.asg (.name 7) (.bin .mod (.blt .int_ (.cons (.bin .add (.bin .add (.var 7) (.c (.int 1))) (.call 18 (.cons (.var 12) (.cons (.bin .sub (.blt .len (.cons (.var 3) (.nil))) (.c (.int 1))) (.nil))))) (.nil))) (.blt .len (.cons (.var 3) (.nil)))))
    (.seq (.asg (.name 6) (.var 13))
    (.ite (.cmp .lt (.var 11) (.var 10))
    (.asg (.name 5) (.blt .max_ (.cons (.var 5) (.cons (.var 13) (.nil))))) .skip))) .skip)))))))))))
    (.ret (.blt .tuple_ (.cons (.var 8) (.nil))))))))))))
/-- 40: _law_crowd (_law_region, _law_sights, _law_tally, _law_k, _law_late, _law_back, _law_at, _law_changes) -/
def b_crowd : Sx := (.seq (.asg (.name 2) (.lst (.cons (.c (.int 0)) (.nil))))
    (.seq (.for_ .range2 (.cons (.c (.int 1)) (.cons (.blt .len (.cons (.var 1) (.nil))) (.nil))) (.name 3)
    (.drop (.meth .append (.var 2) (.cons (.bin .add (.ix (.var 2) (.neg (.c (.int 1)))) (.blt .int_ (.cons (.cmp .ne (.ix (.ix (.var 1) (.var 3)) (.c (.int 1))) (.ix (.ix (.var 1) (.bin .sub (.var 3) (.c (.int 1)))) (.c (.int 1)))) (.nil)))) (.nil)))))
    (.seq (.for_ .range1 (.cons (.blt .len (.cons (.var 1) (.nil))) (.nil)) (.name 4)
    (.for_ .range1 (.cons (.var 4) (.nil)) (.name 5)
    (.seq (.asg (.name 6) (.bin .sub (.bin .sub (.var 4) (.c (.int 1))) (.var 5)))
    (.seq (.asg (.name 7) (.bin .sub (.ix (.var 2) (.var 4)) (.ix (.var 2) (.var 6))))
    (.ite (.cmp .gt (.bin .mul (.bin .sub (.var 7) (.c (.int 1))) (.ix (.var 0) (.c (.int 1)))) (.bin .sub (.bin .sub (.ix (.ix (.var 1) (.var 4)) (.c (.int 0))) (.ix (.ix (.var 1) (.var 6)) (.c (.int 0)))) (.c (.int 1))))
    (.ret (.tup (.cons (.var 6) (.cons (.var 4) (.nil))))) .skip)))))
    (.ret (.c .non)))))
/-- 41: _law_some_sights (_law_pot, _law_region, _law_upto) -/
def b_some_sights : Sx := (.ret (.call 39 (.cons (.var 0) (.cons (.var 1) (.cons (.bin .mul (.lst (.cons (.var 0) (.nil))) (.call 18 (.cons (.var 0) (.cons (.bin .add (.var 2) (.c (.int 1))) (.nil))))) (.nil))))))
/-- 42: law (_law_script, _law_cell, _law_pot, _law_pairs, _law_k, _law_region, _law_made, _law_sights, _law_due) -/
def b_law_k11 : Sx := (.seq (.for_ .seq (.cons (.bin .add (.lst (.cons (.bin .add (.bin .pow (.c (.int 10)) (.c (.int 60))) (.c (.int 774210956833305518264097))) (.nil))) (.sl false true (.var 0) .nop (.c (.int 3)))) .nil) (.name 1)
    (.seq (.asg (.name 2) (.call 17 (.cons (.var 1) (.nil))))
    (.seq (.asg (.name 3) (.lst (.nil)))
    (.seq (.for_ .range1 (.cons (.c (.int 2)) (.nil)) (.name 4)
    (.seq (.asg (.name 5) (.call 20 (.cons (.var 2) (.nil))))
    (.seq (.asg (.name 6) (.call 41 (.cons (.var 2) (.cons (.var 5) (.cons (.ix (.lst (.cons (.c (.int 4)) (.cons (.c (.int 9)) (.cons (.c (.int 9)) (.cons (.c (.int 60)) (.cons (.c (.int 4)) (.cons (.c (.int 9)) (.cons (.c (.int 9)) (.cons (.c (.int 20)) (.nil)))))))))) (.call 18 (.cons (.var 2) (.cons (.c (.int 8)) (.nil))))) (.nil))))))
    (.drop (.meth .append (.var 3) (.cons (.tup (.cons (.var 5) (.cons (.var 6) (.nil)))) (.nil)))))))
    (.for_ .seq (.cons (.bin .add (.var 3) (.sl false true (.var 3) .nop (.c (.int 1)))) .nil) (.tup (.cons (.name 5) (.cons (.name 7) .nil)))
    (.seq (.asg (.name 8) (.call 40 (.cons (.var 5) (.cons (.var 7) (.nil)))))
    (.seq (.ite (.not_ (.call 25 (.cons (.call 37 (.cons (.var 5) (.cons (.var 7) (.nil)))) (.cons (.cmp .is_ (.var 8) (.c .non)) (.nil)))))
    (.ret (.c (.bl false))) .skip)
    (.seq (.ite (.not_ (.call 25 (.cons (.call 38 (.cons (.var 5) (.cons (.var 7) (.nil)))) (.cons (.var 8) (.nil)))))
    (.ret (.c (.bl false))) .skip)
    (.seq (.ite (.not_ (.call 25 (.cons (.callK 38 .nil (.cons (.var 7) (.cons (.var 5) .nil)) [1, 0]) (.cons (.var 8) (.nil)))))
    (.ret (.c (.bl false))) .skip)
    (.ite (.not_ (.call 25 (.cons (.callK 37 .nil (.cons (.var 7) (.cons (.var 5) .nil)) [1, 0]) (.cons (.cmp .is_ (.var 8) (.c .non)) (.nil)))))
    (.ret (.c (.bl false))) .skip))))))))))
    (.ret (.c (.bl true))))
/-- 43: earliest_table (zone, looks, offsets, spacing, jumps, look, following, moment) -/
def b_earliest_table : Sx := (.seq (.asg (.tup (.cons (.name 2) (.cons (.name 3) .nil))) (.var 0))
    (.seq (.ite (.not_ (.var 1))
    (.ret (.tup (.cons (.ix (.var 2) (.c (.int 0))) (.cons (.tup (.nil)) (.nil))))) .skip)
    (.seq (.asg (.name 4) (.lst (.nil)))
    (.seq (.for_ .zip (.cons (.var 1) (.cons (.sl true false (.var 1) (.c (.int 1)) .nop) (.nil))) (.tup (.cons (.name 5) (.cons (.name 6) .nil)))
    (.seq (.ite (.cmp .eq (.ix (.var 5) (.c (.int 1))) (.ix (.var 6) (.c (.int 1))))
    (.cont) .skip)
    (.seq (.asg (.name 7) (.bin .add (.ix (.var 5) (.c (.int 0))) (.c (.int 1))))
    (.seq (.ite (.var 4)
    (.asg (.name 7) (.blt .max_ (.cons (.var 7) (.cons (.bin .add (.ix (.ix (.var 4) (.neg (.c (.int 1)))) (.c (.int 0))) (.var 3)) (.nil))))) .skip)
    (.drop (.meth .append (.var 4) (.cons (.tup (.cons (.var 7) (.cons (.ix (.var 6) (.c (.int 1))) (.nil)))) (.nil))))))))
    (.ret (.tup (.cons (.ix (.ix (.var 1) (.c (.int 0))) (.c (.int 1))) (.cons (.blt .tuple_ (.cons (.var 4) (.nil))) (.nil)))))))))
/-- 44: early_table (zone, looks) -/
def b_early_table : Sx := (.seq (.drop (.call 7 (.cons (.var 0) (.nil))))
    (.seq (.drop (.call 34 (.cons (.var 0) (.cons (.var 1) (.nil)))))
    (.seq (.ite (.cmp .isnot (.call 36 (.cons (.ix (.var 0) (.c (.int 1))) (.cons (.var 1) (.nil)))) (.c .non))
    (.ret (.c .non)) .skip)
    (.ret (.call 43 (.cons (.var 0) (.cons (.var 1) (.nil))))))))
/-- 45: _law_among (_law_thing, _law_shifts) -/
def b_among : Sx := (.ret (.and_ (.call 24 (.cons (.var 0) (.nil))) (.cmp .in_ (.var 0) (.var 1))))
/-- 46: _law_is_chart (_law_region, _law_thing, _law_shifts, _law_spacing, _law_held, _law_hours, _law_jump) -/
def b_is_chart : Sx := (.seq (.asg (.tup (.cons (.name 2) (.cons (.name 3) .nil))) (.var 0))
    (.seq (.ite (.or_ (.not_ (.blt .isi (.cons (.var 1) (.cons (.c (.ty "tuple")) (.nil))))) (.or_ (.cmp .ne (.blt .len (.cons (.var 1) (.nil))) (.c (.int 2))) (.not_ (.call 45 (.cons (.ix (.var 1) (.c (.int 0))) (.cons (.var 2) (.nil)))))))
    (.ret (.c (.bl false))) .skip)
    (.seq (.ite (.not_ (.blt .isi (.cons (.ix (.var 1) (.c (.int 1))) (.cons (.c (.ty "tuple")) (.nil)))))
    (.ret (.c (.bl false))) .skip)
    (.seq (.asg (.name 4) (.ix (.var 1) (.c (.int 0))))
    (.seq (.asg (.name 5) (.lst (.nil)))
    (.seq (.for_ .seq (.cons (.ix (.var 1) (.c (.int 1))) .nil) (.name 6)
    (.seq (.ite (.or_ (.not_ (.blt .isi (.cons (.var 6) (.cons (.c (.ty "tuple")) (.nil))))) (.or_ (.cmp .ne (.blt .len (.cons (.var 6) (.nil))) (.c (.int 2))) (.not_ (.call 24 (.cons (.ix (.var 6) (.c (.int 0))) (.nil))))))
    (.ret (.c (.bl false))) .skip)
    (.seq (.ite (.or_ (.not_ (.call 45 (.cons (.ix (.var 6) (.c (.int 1))) (.cons (.var 2) (.nil))))) (.cmp .eq (.ix (.var 6) (.c (.int 1))) (.var 4)))
    (.ret (.c (.bl false))) .skip)
    (.seq (.ite (.and_ (.cmp .gt (.blt .len (.cons (.var 5) (.nil))) (.c (.int 0))) (.cmp .lt (.ix (.var 6) (.c (.int 0))) (.bin .add (.ix (.var 5) (.neg (.c (.int 1)))) (.var 3))))
    (.ret (.c (.bl false))) .skip)
    (.seq (.asg (.name 4) (.ix (.var 6) (.c (.int 1))))
    (.drop (.meth .append (.var 5) (.cons (.ix (.var 6) (.c (.int 0))) (.nil)))))))))
    (.ret (.c (.bl true)))))))))
/-- 47: _law_early_chart (_law_region, _law_sights, _law_jumps, _law_k, _law_hour) -/
def b_early_chart : Sx := (.seq (.asg (.name 2) (.lst (.nil)))
    (.seq (.for_ .range2 (.cons (.c (.int 1)) (.cons (.blt .len (.cons (.var 1) (.nil))) (.nil))) (.name 3)
    (.ite (.cmp .ne (.ix (.ix (.var 1) (.var 3)) (.c (.int 1))) (.ix (.ix (.var 1) (.bin .sub (.var 3) (.c (.int 1)))) (.c (.int 1))))
    (.seq (.asg (.name 4) (.bin .add (.ix (.ix (.var 1) (.bin .sub (.var 3) (.c (.int 1)))) (.c (.int 0))) (.c (.int 1))))
    (.seq (.ite (.cmp .gt (.blt .len (.cons (.var 2) (.nil))) (.c (.int 0)))
    (.asg (.name 4) (.blt .max_ (.cons (.var 4) (.cons (.bin .add (.ix (.ix (.var 2) (.neg (.c (.int 1)))) (.c (.int 0))) (.ix (.var 0) (.c (.int 1)))) (.nil))))) .skip)
    (.drop (.meth .append (.var 2) (.cons (.tup (.cons (.var 4) (.cons (.ix (.ix (.var 1) (.var 3)) (.c (.int 1))) (.nil)))) (.nil)))))) .skip))
    (.seq (.ite (.cmp .eq (.blt .len (.cons (.var 1) (.nil))) (.c (.int 0)))
    (.ret (.tup (.cons (.ix (.ix (.var 0) (.c (.int 0))) (.c (.int 0))) (.cons (.tup (.nil)) (.nil))))) .skip)
    (.ret (.tup (.cons (.ix (.ix (.var 1) (.c (.int 0))) (.c (.int 1))) (.cons (.blt .tuple_ (.cons (.var 2) (.nil))) (.nil))))))))
/-- 48: law (_law_script, _law_cell, _law_pot, _law_pairs, _law_k, _law_region, _law_made, _law_sights, _law_told, _law_hour, _law_shift) -/
def b_law_k12 : Sx := (.seq (.for_ .seq (.cons (.bin .add (.lst (.cons (.bin .add (.bin .pow (.c (.int 10)) (.c (.int 60))) (.c (.int 503392817744600295113878))) (.nil))) (.sl false true (.var 0) .nop (.c (.int 3)))) .nil) (.name 1)
    (.seq (.asg (.name 2) (.call 17 (.cons (.var 1) (.nil))))
    (.seq (.asg (.name 3) (.lst (.nil)))
    (.seq (.for_ .range1 (.cons (.c (.int 2)) (.nil)) (.name 4)
    (.seq (.asg (.name 5) (.call 20 (.cons (.var 2) (.nil))))
    (.seq (.asg (.name 6) (.call 41 (.cons (.var 2) (.cons (.var 5) (.cons (.ix (.lst (.cons (.c (.int 4)) (.cons (.c (.int 9)) (.cons (.c (.int 9)) (.cons (.c (.int 60)) (.cons (.c (.int 4)) (.cons (.c (.int 9)) (.cons (.c (.int 9)) (.cons (.c (.int 20)) (.nil)))))))))) (.call 18 (.cons (.var 2) (.cons (.c (.int 8)) (.nil))))) (.nil))))))
    (.drop (.meth .append (.var 3) (.cons (.tup (.cons (.var 5) (.cons (.var 6) (.nil)))) (.nil)))))))
    (.for_ .seq (.cons (.bin .add (.var 3) (.sl false true (.var 3) .nop (.c (.int 1)))) .nil) (.tup (.cons (.name 5) (.cons (.name 7) .nil)))
    (.seq (.asg (.name 8) (.call 44 (.cons (.var 5) (.cons (.var 7) (.nil)))))
    (.ite (.cmp .isnot (.call 40 (.cons (.var 5) (.cons (.var 7) (.nil)))) (.c .non))
    (.ite (.or_ (.cmp .isnot (.var 8) (.c .non)) (.cmp .isnot (.callK 44 .nil (.cons (.var 7) (.cons (.var 5) .nil)) [1, 0]) (.c .non)))
    (.ret (.c (.bl false))) .skip) (.seq (.ite (.or_ (.not_ (.call 25 (.cons (.var 8) (.cons (.call 47 (.cons (.var 5) (.cons (.var 7) (.nil)))) (.nil))))) (.not_ (.call 46 (.cons (.var 5) (.cons (.var 8) (.nil))))))
    (.ret (.c (.bl false))) .skip)
    (.seq (.ite (.not_ (.blt .all_ (.cons (.lc .seq (.cons (.var 7) .nil) (.tup (.cons (.name 9) (.cons (.name 10) .nil))) (.c (.bl true)) (.cmp .eq (.call 22 (.cons (.var 8) (.cons (.var 9) (.nil)))) (.var 10)) [9, 10]) (.nil))))
    (.ret (.c (.bl false))) .skip)
    (.ite (.not_ (.call 25 (.cons (.callK 44 .nil (.cons (.var 7) (.cons (.var 5) .nil)) [1, 0]) (.cons (.var 8) (.nil)))))
    (.ret (.c (.bl false))) .skip))))))))))
    (.ret (.c (.bl true))))
/-- 49: fitting_offsets (zone, looks, moment, offsets, spacing, ahead, look, behind, seen, left, offset) -/
def b_fitting_offsets : Sx := (.seq (.asg (.tup (.cons (.name 3) (.cons (.name 4) .nil))) (.var 0))
    (.seq (.asg (.name 5) (.blt .tuple_ (.cons (.lc .seq (.cons (.var 1) .nil) (.name 6) (.cmp .lt (.ix (.var 6) (.c (.int 0))) (.var 2)) (.var 6) [6]) (.nil))))
    (.seq (.asg (.name 7) (.blt .tuple_ (.cons (.lc .seq (.cons (.var 1) .nil) (.name 6) (.cmp .gt (.ix (.var 6) (.c (.int 0))) (.var 2)) (.var 6) [6]) (.nil))))
    (.seq (.asg (.name 8) (.lc .seq (.cons (.var 1) .nil) (.name 6) (.cmp .eq (.ix (.var 6) (.c (.int 0))) (.var 2)) (.ix (.var 6) (.c (.int 1))) [6]))
    (.seq (.asg (.name 9) (.lst (.nil)))
    (.seq (.for_ .seq (.cons (.or_ (.var 8) (.var 3)) .nil) (.name 10)
    (.ite (.cmp .is_ (.call 36 (.cons (.var 4) (.cons (.bin .add (.bin .add (.var 5) (.tup (.cons (.tup (.cons (.var 2) (.cons (.var 10) (.nil)))) (.nil)))) (.var 7)) (.nil)))) (.c .non))
    (.drop (.meth .append (.var 9) (.cons (.var 10) (.nil)))) .skip))
    (.ret (.var 9))))))))
/-- 50: offsets_left (zone, looks, moment) -/
def b_offsets_left : Sx := (.seq (.drop (.call 7 (.cons (.var 0) (.nil))))
    (.seq (.drop (.call 34 (.cons (.var 0) (.cons (.var 1) (.nil)))))
    (.seq (.drop (.call 2 (.cons (.var 2) (.nil))))
    (.ret (.call 49 (.cons (.var 0) (.cons (.var 1) (.cons (.var 2) (.nil)))))))))
/-- 51: _law_beside (_law_pot, _law_region, _law_sights, _law_hour, _law_spacing, _law_any_near) -/
def b_beside : Sx := (.seq (.ite (.or_ (.cmp .eq (.blt .len (.cons (.var 2) (.nil))) (.c (.int 0))) (.cmp .eq (.call 18 (.cons (.var 0) (.cons (.c (.int 8)) (.nil)))) (.c (.int 7))))
    (.ret (.call 19 (.cons (.var 0) (.nil)))) .skip)
    (.seq (.asg (.name 3) (.ix (.ix (.var 2) (.call 18 (.cons (.var 0) (.cons (.blt .len (.cons (.var 2) (.nil))) (.nil))))) (.c (.int 0))))
    (.seq (.asg (.name 4) (.ix (.var 1) (.c (.int 1))))
    (.seq (.asg (.name 5) (.ix (.lst (.cons (.bin .sub (.call 18 (.cons (.var 0) (.cons (.c (.int 21)) (.nil)))) (.c (.int 10))) (.cons (.bin .sub (.call 18 (.cons (.var 0) (.cons (.bin .add (.bin .mul (.c (.int 2)) (.var 4)) (.c (.int 1))) (.nil)))) (.var 4)) (.nil)))) (.call 18 (.cons (.var 0) (.cons (.c (.int 2)) (.nil))))))
    (.seq (.asg (.name 3) (.bin .add (.var 3) (.ix (.lst (.cons (.c (.int 0)) (.cons (.c (.int 1)) (.cons (.neg (.c (.int 1))) (.cons (.var 4) (.cons (.neg (.var 4)) (.cons (.bin .add (.var 4) (.c (.int 1))) (.cons (.bin .sub (.neg (.var 4)) (.c (.int 1))) (.cons (.var 5) (.cons (.var 5) (.nil))))))))))) (.call 18 (.cons (.var 0) (.cons (.c (.int 9)) (.nil)))))))
    (.ret (.blt .max_ (.cons (.bin .sub (.c (.int 1)) (.bin .pow (.c (.int 10)) (.c (.int 12)))) (.cons (.blt .min_ (.cons (.bin .sub (.bin .pow (.c (.int 10)) (.c (.int 12))) (.c (.int 1))) (.cons (.var 3) (.nil)))) (.nil))))))))))
/-- 52: _law_cells_sights (_law_pot, _law_region, _law_cells, _law_k, _law_cell) -/
def b_cells_sights : Sx := (.seq (.asg (.name 2) (.bin .add (.var 2) (.lc .range1 (.cons (.c (.int 3)) (.nil)) (.name 3) (.c (.bl true)) (.call 18 (.cons (.var 0) (.cons (.bin .pow (.c (.int 10)) (.c (.int 17))) (.nil)))) [3])))
    (.ret (.call 39 (.cons (.var 0) (.cons (.var 1) (.cons (.lc .seq (.cons (.sl false true (.var 2) .nop (.c (.int 60))) .nil) (.name 4) (.c (.bl true)) (.call 17 (.cons (.var 4) (.nil))) [4]) (.nil)))))))
/-- 53: _law_free (_law_region, _law_sights) -/
def b_free : Sx := (.seq (.ite (.or_ (.cmp .isnot (.call 37 (.cons (.var 0) (.cons (.var 1) (.nil)))) (.c (.bl true))) (.cmp .isnot (.call 38 (.cons (.var 0) (.cons (.var 1) (.nil)))) (.c .non)))
    (.ret (.c (.bl false))) .skip)
    (.ret (.cmp .isnot (.call 44 (.cons (.var 0) (.cons (.var 1) (.nil)))) (.c .non))))
/-- 54: law (_law_script, _law_pot, _law_region, _law_sights, _law_at, _law_cut, _law_without, _law_pair, _law_some, _law_low, _law_high, _law_changes, _law_k, _law_hour) -/
def b_law_k16 : Sx := (.seq (.asg (.name 1) (.call 17 (.cons (.ix (.bin .add (.var 0) (.lst (.cons (.bin .add (.bin .pow (.c (.int 10)) (.c (.int 60))) (.c (.int 250066378914227501936883))) (.nil)))) (.c (.int 0))) (.nil))))
    (.seq (.asg (.name 2) (.call 20 (.cons (.var 1) (.nil))))
    (.seq (.asg (.name 3) (.call 52 (.cons (.var 1) (.cons (.var 2) (.cons (.sl true false (.var 0) (.c (.int 1)) .nop) (.nil))))))
    (.seq (.asg (.name 4) (.call 18 (.cons (.var 1) (.cons (.blt .len (.cons (.var 3) (.nil))) (.nil)))))
    (.seq (.asg (.name 5) (.call 18 (.cons (.var 1) (.cons (.bin .add (.blt .len (.cons (.var 3) (.nil))) (.c (.int 1))) (.nil)))))
    (.seq (.asg (.name 6) (.bin .add (.sl false true (.var 3) .nop (.var 4)) (.sl true false (.var 3) (.bin .add (.var 4) (.c (.int 1))) .nop)))
    (.seq (.asg (.name 7) (.call 38 (.cons (.var 2) (.cons (.var 3) (.nil)))))
    (.seq (.ite (.cmp .is_ (.var 7) (.c .non))
    (.ret (.blt .all_ (.cons (.lc .seq (.cons (.lst (.cons (.var 3) (.cons (.var 6) (.cons (.sl false true (.var 3) .nop (.var 5)) (.cons (.sl true false (.var 3) (.var 5) .nop) (.nil)))))) .nil) (.name 8) (.c (.bl true)) (.call 53 (.cons (.var 2) (.cons (.var 8) (.nil)))) [8]) (.nil)))) .skip)
    (.seq (.ite (.or_ (.not_ (.blt .isi (.cons (.var 7) (.cons (.c (.ty "tuple")) (.nil))))) (.or_ (.cmp .ne (.blt .len (.cons (.var 7) (.nil))) (.c (.int 2))) (.or_ (.not_ (.call 24 (.cons (.ix (.var 7) (.c (.int 0))) (.nil)))) (.not_ (.call 24 (.cons (.ix (.var 7) (.c (.int 1))) (.nil)))))))
    (.ret (.c (.bl false))) .skip)
    (.seq (.asg (.tup (.cons (.name 9) (.cons (.name 10) .nil))) (.var 7))
    (.seq (.ite (.or_ (.cmp .lt (.var 9) (.c (.int 0))) (.or_ (.cmp .le (.var 10) (.var 9)) (.cmp .le (.blt .len (.cons (.var 3) (.nil))) (.var 10))))
    (.ret (.c (.bl false))) .skip)
    (.seq (.asg (.name 11) (.blt .len (.cons (.lc .range2 (.cons (.var 9) (.cons (.var 10) (.nil))) (.name 12) (.cmp .ne (.ix (.ix (.var 3) (.var 12)) (.c (.int 1))) (.ix (.ix (.var 3) (.bin .add (.var 12) (.c (.int 1)))) (.c (.int 1)))) (.var 12) [12]) (.nil))))
    (.seq (.ite (.cmp .le (.bin .mul (.bin .sub (.var 11) (.c (.int 1))) (.ix (.var 2) (.c (.int 1)))) (.bin .sub (.bin .sub (.ix (.ix (.var 3) (.var 10)) (.c (.int 0))) (.ix (.ix (.var 3) (.var 9)) (.c (.int 0)))) (.c (.int 1))))
    (.ret (.c (.bl false))) .skip)
    (.seq (.ite (.not_ (.call 25 (.cons (.call 38 (.cons (.var 2) (.cons (.sl true false (.var 3) (.var 9) .nop) (.nil)))) (.cons (.tup (.cons (.c (.int 0)) (.cons (.bin .sub (.var 10) (.var 9)) (.nil)))) (.nil)))))
    (.ret (.c (.bl false))) .skip)
    (.seq (.ite (.not_ (.call 25 (.cons (.call 38 (.cons (.var 2) (.cons (.sl false true (.var 3) .nop (.bin .add (.var 10) (.c (.int 1)))) (.nil)))) (.cons (.tup (.cons (.var 9) (.cons (.var 10) (.nil)))) (.nil)))))
    (.ret (.c (.bl false))) .skip)
    (.seq (.ite (.not_ (.call 25 (.cons (.call 38 (.cons (.var 2) (.cons (.sl true true (.var 3) (.var 9) (.bin .add (.var 10) (.c (.int 1)))) (.nil)))) (.cons (.tup (.cons (.c (.int 0)) (.cons (.bin .sub (.var 10) (.var 9)) (.nil)))) (.nil)))))
    (.ret (.c (.bl false))) .skip)
    (.seq (.ite (.or_ (.cmp .isnot (.call 37 (.cons (.var 2) (.cons (.sl false true (.var 3) .nop (.var 10)) (.nil)))) (.c (.bl true))) (.cmp .isnot (.call 37 (.cons (.var 2) (.cons (.sl true true (.var 3) (.bin .add (.var 9) (.c (.int 1))) (.bin .add (.var 10) (.c (.int 1)))) (.nil)))) (.c (.bl true))))
    (.ret (.c (.bl false))) .skip)
    (.seq (.ite (.or_ (.cmp .isnot (.call 37 (.cons (.var 2) (.cons (.var 3) (.nil)))) (.c (.bl false))) (.cmp .isnot (.call 44 (.cons (.var 2) (.cons (.var 3) (.nil)))) (.c .non)))
    (.ret (.c (.bl false))) .skip)
    (.seq (.asg (.name 13) (.call 51 (.cons (.var 1) (.cons (.var 2) (.cons (.var 3) (.nil))))))
    (.seq (.ite (.not_ (.call 25 (.cons (.call 50 (.cons (.var 2) (.cons (.var 3) (.cons (.var 13) (.nil))))) (.cons (.lst (.nil)) (.nil)))))
    (.ret (.c (.bl false))) .skip)
    (.ret (.or_ (.chain .le .le (.var 9) (.var 4) (.var 10)) (.cmp .is_ (.call 37 (.cons (.var 2) (.cons (.var 6) (.nil)))) (.c (.bl false)))))))))))))))))))))))))
/-- 55: is_rule (value, rules) -/
def b_is_rule : Sx := (.ret (.and_ (.blt .isi (.cons (.var 0) (.cons (.c (.ty "str")) (.nil)))) (.cmp .in_ (.var 0) (.var 1))))
/-- 56: check_rule (value, rules) -/
def b_check_rule : Sx := (.ite (.not_ (.call 55 (.cons (.var 0) (.cons (.var 1) (.nil)))))
    .stuck .skip)
/-- 57: _chosen (rule, rules, first, second) -/
def b_chosen : Sx := (.seq (.ite (.cmp .eq (.var 0) (.ix (.var 1) (.c (.int 0))))
    (.ret (.var 2)) .skip)
    (.seq (.ite (.cmp .eq (.var 0) (.ix (.var 1) (.c (.int 1))))
    (.ret (.var 3)) .skip)
    (.ret (.c .non))))
/-- 58: found_moment (reading, looks, fold, gap, moments) -/
def b_found_moment : Sx := (.seq (.asg (.name 4) (.call 27 (.cons (.var 0) (.cons (.var 1) (.nil)))))
    (.seq (.ite (.cmp .eq (.blt .len (.cons (.var 4) (.nil))) (.c (.int 1)))
    (.ret (.ix (.var 4) (.c (.int 0)))) .skip)
    (.seq (.ite (.var 4)
    (.ret (.call 57 (.cons (.var 2) (.cons (.c (.tup [.str "early", .str "late", .str "refuse"])) (.cons (.ix (.var 4) (.c (.int 0))) (.cons (.ix (.var 4) (.c (.int 1))) (.nil))))))) .skip)
    (.ret (.call 57 (.cons (.var 3) (.cons (.c (.tup [.str "ahead", .str "behind", .str "refuse"])) (.cons (.bin .sub (.var 0) (.ix (.ix (.var 1) (.c (.int 0))) (.c (.int 1)))) (.cons (.bin .sub (.var 0) (.ix (.ix (.var 1) (.neg (.c (.int 1)))) (.c (.int 1)))) (.nil))))))))))
/-- 59: find_moment (zone, table, reading, fold, gap) -/
def b_find_moment : Sx := (.seq (.drop (.call 7 (.cons (.var 0) (.nil))))
    (.seq (.drop (.call 13 (.cons (.var 0) (.cons (.var 1) (.nil)))))
    (.seq (.drop (.call 2 (.cons (.var 2) (.nil))))
    (.seq (.drop (.call 56 (.cons (.var 3) (.cons (.c (.tup [.str "early", .str "late", .str "refuse"])) (.nil)))))
    (.seq (.drop (.call 56 (.cons (.var 4) (.cons (.c (.tup [.str "ahead", .str "behind", .str "refuse"])) (.nil)))))
    (.ret (.call 58 (.cons (.var 2) (.cons (.call 29 (.cons (.var 0) (.cons (.var 1) (.cons (.var 2) (.nil))))) (.cons (.var 3) (.cons (.var 4) (.nil))))))))))))
/-- 60: _law_turned_region (_law_region, _law_back, _law_more, _law_shifts, _law_shift) -/
def b_turned_region : Sx := (.seq (.asg (.name 3) (.lc .seq (.cons (.ix (.var 0) (.c (.int 0))) .nil) (.name 4) (.c (.bl true)) (.bin .add (.var 4) (.var 2)) [4]))
    (.seq (.ite (.var 1)
    (.asg (.name 3) (.lc .seq (.cons (.rev (.ix (.var 0) (.c (.int 0)))) .nil) (.name 4) (.c (.bl true)) (.bin .sub (.var 2) (.var 4)) [4])) .skip)
    (.ret (.tup (.cons (.blt .tuple_ (.cons (.var 3) (.nil))) (.cons (.ix (.var 0) (.c (.int 1))) (.nil)))))))
/-- 61: _law_turned_chart (_law_chart, _law_back, _law_more, _law_later, _law_hour, _law_shift, _law_held, _law_jumps) -/
def b_turned_chart : Sx := (.seq (.ite (.not_ (.var 1))
    (.ret (.tup (.cons (.bin .add (.ix (.var 0) (.c (.int 0))) (.var 2)) (.cons (.blt .tuple_ (.cons (.lc .seq (.cons (.ix (.var 0) (.c (.int 1))) .nil) (.tup (.cons (.name 4) (.cons (.name 5) .nil))) (.c (.bl true)) (.tup (.cons (.bin .add (.var 4) (.var 3)) (.cons (.bin .add (.var 5) (.var 2)) (.nil)))) [4, 5]) (.nil))) (.nil))))) .skip)
    (.seq (.asg (.name 6) (.ix (.var 0) (.c (.int 0))))
    (.seq (.asg (.name 7) (.lst (.nil)))
    (.seq (.for_ .seq (.cons (.ix (.var 0) (.c (.int 1))) .nil) (.tup (.cons (.name 4) (.cons (.name 5) .nil)))
    (.seq (.drop (.meth .append (.var 7) (.cons (.tup (.cons (.bin .sub (.var 3) (.var 4)) (.cons (.bin .sub (.var 2) (.var 6)) (.nil)))) (.nil))))
    (.asg (.name 6) (.var 5))))
    (.ret (.tup (.cons (.bin .sub (.var 2) (.var 6)) (.cons (.blt .tuple_ (.cons (.rev (.var 7)) (.nil))) (.nil)))))))))
/-- 62: _law_cells_chart (_law_pot, _law_region, _law_cells, _law_shifts, _law_spacing, _law_at, _law_held, _law_hour, _law_jumps, _law_k, _law_cell, _law_own, _law_more) -/
def b_cells_chart : Sx := (.seq (.asg (.tup (.cons (.name 3) (.cons (.name 4) .nil))) (.var 1))
    (.seq (.asg (.name 5) (.call 18 (.cons (.var 0) (.cons (.blt .len (.cons (.var 3) (.nil))) (.nil)))))
    (.seq (.asg (.name 6) (.ix (.var 3) (.var 5)))
    (.seq (.asg (.name 7) (.call 19 (.cons (.var 0) (.nil))))
    (.seq (.asg (.name 8) (.lst (.nil)))
    (.seq (.asg (.name 2) (.bin .add (.var 2) (.lc .range1 (.cons (.c (.int 3)) (.nil)) (.name 9) (.c (.bl true)) (.call 18 (.cons (.var 0) (.cons (.bin .pow (.c (.int 10)) (.c (.int 17))) (.nil)))) [9])))
    (.seq (.for_ .seq (.cons (.sl false true (.var 2) .nop (.bin .mul (.c (.int 60)) (.blt .int_ (.cons (.cmp .gt (.blt .len (.cons (.var 3) (.nil))) (.c (.int 1))) (.nil))))) .nil) (.name 10)
    (.seq (.asg (.name 11) (.call 17 (.cons (.var 10) (.nil))))
    (.seq (.asg (.name 5) (.bin .mod (.blt .int_ (.cons (.bin .add (.bin .add (.var 5) (.c (.int 1))) (.call 18 (.cons (.var 11) (.cons (.bin .sub (.blt .len (.cons (.var 3) (.nil))) (.c (.int 1))) (.nil))))) (.nil))) (.blt .len (.cons (.var 3) (.nil)))))
    (.seq (.drop (.meth .append (.var 8) (.cons (.tup (.cons (.var 7) (.cons (.ix (.var 3) (.var 5)) (.nil)))) (.nil))))
    (.seq (.asg (.name 12) (.call 18 (.cons (.var 11) (.cons (.c (.int 4)) (.nil)))))
    (.seq (.asg (.name 7) (.bin .add (.var 7) (.var 4)))
    (.ite (.cmp .gt (.var 12) (.c (.int 1)))
    (.asg (.name 7) (.bin .add (.var 7) (.call 18 (.cons (.var 11) (.cons (.ix (.lst (.cons (.c (.int 0)) (.cons (.c (.int 0)) (.cons (.c (.int 5)) (.cons (.bin .mul (.c (.int 2)) (.var 4)) (.nil)))))) (.var 12)) (.nil)))))) .skip)))))))
    (.ret (.tup (.cons (.var 6) (.cons (.blt .tuple_ (.cons (.var 8) (.nil))) (.nil))))))))))))
/-- 63: _law_turned (_law_number, _law_back, _law_later) -/
def b_turned : Sx := (.seq (.ite (.cmp .is_ (.var 0) (.c .non))
    (.ret (.c .non)) .skip)
    (.seq (.ite (.var 1)
    (.ret (.bin .sub (.bin .sub (.var 2) (.c (.int 1))) (.var 0))) .skip)
    (.ret (.bin .add (.var 0) (.var 2)))))
/-- 64: _law_clocks_alike (_law_pot, _law_pair, _law_twin, _law_how, _law_region, _law_chart, _law_back, _law_more, _law_later, _law_hour, _law_shift, _law_there, _law_due) -/
def b_clocks_alike : Sx := (.seq (.asg (.tup (.cons (.name 4) (.cons (.name 5) .nil))) (.var 1))
    (.seq (.asg (.tup (.cons (.name 6) (.cons (.name 7) (.cons (.name 8) .nil)))) (.var 3))
    (.seq (.asg (.name 9) (.call 23 (.cons (.var 0) (.cons (.var 4) (.cons (.var 5) (.nil))))))
    (.seq (.asg (.name 10) (.call 15 (.cons (.var 4) (.cons (.var 5) (.cons (.var 9) (.nil))))))
    (.seq (.asg (.name 11) (.call 63 (.cons (.var 9) (.cons (.var 6) (.cons (.var 8) (.nil))))))
    (.seq (.ite (.not_ (.call 24 (.cons (.var 10) (.nil))))
    (.ret (.c (.bl false))) .skip)
    (.seq (.ite (.not_ (.call 25 (.cons (.call 15 (.cons (.ix (.var 2) (.c (.int 0))) (.cons (.ix (.var 2) (.c (.int 1))) (.cons (.var 11) (.nil))))) (.cons (.bin .add (.ix (.lst (.cons (.var 10) (.cons (.neg (.var 10)) (.nil)))) (.blt .int_ (.cons (.var 6) (.nil)))) (.var 7)) (.nil)))))
    (.ret (.c (.bl false))) .skip)
    (.seq (.asg (.name 12) (.call 63 (.cons (.call 16 (.cons (.var 4) (.cons (.var 5) (.cons (.var 9) (.nil))))) (.cons (.var 6) (.cons (.bin .add (.var 8) (.var 7)) (.nil))))))
    (.ret (.call 25 (.cons (.call 16 (.cons (.ix (.var 2) (.c (.int 0))) (.cons (.ix (.var 2) (.c (.int 1))) (.cons (.var 11) (.nil))))) (.cons (.var 12) (.nil)))))))))))))
/-- 65: _law_finds_alike (_law_pot, _law_pair, _law_twin, _law_how, _law_region, _law_chart, _law_back, _law_more, _law_later, _law_shown, _law_there, _law_hours, _law_due, _law_one, _law_early, _law_late, _law_ahead, _law_behind, _law_told) -/
def b_finds_alike : Sx := (.seq (.asg (.tup (.cons (.name 4) (.cons (.name 5) .nil))) (.var 1))
    (.seq (.asg (.tup (.cons (.name 6) (.cons (.name 7) (.cons (.name 8) .nil)))) (.var 3))
    (.seq (.asg (.name 9) (.bin .add (.call 23 (.cons (.var 0) (.cons (.var 4) (.cons (.var 5) (.nil))))) (.ix (.ix (.var 4) (.c (.int 0))) (.call 18 (.cons (.var 0) (.cons (.blt .len (.cons (.ix (.var 4) (.c (.int 0))) (.nil))) (.nil)))))))
    (.seq (.asg (.name 10) (.call 63 (.cons (.var 9) (.cons (.var 6) (.cons (.bin .add (.var 8) (.var 7)) (.nil))))))
    (.seq (.asg (.name 11) (.call 30 (.cons (.var 4) (.cons (.var 5) (.cons (.var 9) (.nil))))))
    (.seq (.ite (.not_ (.blt .isi (.cons (.var 11) (.cons (.c (.ty "list")) (.nil)))))
    (.ret (.c (.bl false))) .skip)
    (.seq (.asg (.name 12) (.lc .seq (.cons (.var 11) .nil) (.name 13) (.c (.bl true)) (.call 63 (.cons (.var 13) (.cons (.var 6) (.cons (.var 8) (.nil))))) [13]))
    (.seq (.ite (.not_ (.call 25 (.cons (.call 30 (.cons (.ix (.var 2) (.c (.int 0))) (.cons (.ix (.var 2) (.c (.int 1))) (.cons (.var 10) (.nil))))) (.cons (.ix (.lst (.cons (.var 12) (.cons (.rev (.var 12)) (.nil)))) (.blt .int_ (.cons (.var 6) (.nil)))) (.nil)))))
    (.ret (.c (.bl false))) .skip)
    (.seq (.asg (.tup (.cons (.name 14) (.cons (.name 15) .nil))) (.ix (.lst (.cons (.lst (.cons (.c (.str "early")) (.cons (.c (.str "late")) (.nil)))) (.cons (.lst (.cons (.c (.str "late")) (.cons (.c (.str "early")) (.nil)))) (.cons (.lst (.cons (.c (.str "refuse")) (.cons (.c (.str "refuse")) (.nil)))) (.nil))))) (.call 18 (.cons (.var 0) (.cons (.c (.int 3)) (.nil))))))
    (.seq (.asg (.tup (.cons (.name 16) (.cons (.name 17) .nil))) (.ix (.lst (.cons (.lst (.cons (.c (.str "ahead")) (.cons (.c (.str "behind")) (.nil)))) (.cons (.lst (.cons (.c (.str "behind")) (.cons (.c (.str "ahead")) (.nil)))) (.cons (.lst (.cons (.c (.str "refuse")) (.cons (.c (.str "refuse")) (.nil)))) (.nil))))) (.call 18 (.cons (.var 0) (.cons (.c (.int 3)) (.nil))))))
    (.seq (.asg (.name 13) (.callK 59 (.cons (.var 4) (.cons (.var 5) (.cons (.var 9) (.nil)))) (.cons (.var 14) (.cons (.var 16) .nil)) [0, 1, 2, 3, 4]))
    (.seq (.ite (.var 6)
    (.asg (.tup (.cons (.name 14) (.cons (.name 16) .nil))) (.tup (.cons (.var 15) (.cons (.var 17) (.nil))))) .skip)
    (.seq (.asg (.name 18) (.callK 59 (.cons (.ix (.var 2) (.c (.int 0))) (.cons (.ix (.var 2) (.c (.int 1))) (.cons (.var 10) (.nil)))) (.cons (.var 14) (.cons (.var 16) .nil)) [0, 1, 2, 3, 4]))
    (.ret (.call 25 (.cons (.var 18) (.cons (.call 63 (.cons (.var 13) (.cons (.var 6) (.cons (.var 8) (.nil))))) (.nil))))))))))))))))))
/-- 66: law (_law_script, _law_pot, _law_region, _law_chart, _law_back, _law_base, _law_hour, _law_shift, _law_later, _law_low, _law_top, _law_more, _law_twin, _law_k) -/
def b_law_k08 : Sx := (.seq (.asg (.name 1) (.call 17 (.cons (.ix (.bin .add (.var 0) (.lst (.cons (.bin .add (.bin .pow (.c (.int 10)) (.c (.int 60))) (.c (.int 871190364425510739962204))) (.nil)))) (.c (.int 0))) (.nil))))
    (.seq (.asg (.name 2) (.call 20 (.cons (.var 1) (.nil))))
    (.seq (.asg (.name 3) (.call 62 (.cons (.var 1) (.cons (.var 2) (.cons (.sl true false (.var 0) (.c (.int 1)) .nop) (.nil))))))
    (.seq (.asg (.name 4) (.cmp .eq (.call 18 (.cons (.var 1) (.cons (.c (.int 2)) (.nil)))) (.c (.int 1))))
    (.seq (.asg (.name 5) (.ix (.bin .add (.lc .seq (.cons (.ix (.var 3) (.c (.int 1))) .nil) (.tup (.cons (.name 6) (.cons (.name 7) .nil))) (.c (.bl true)) (.var 6) [6, 7]) (.lst (.cons (.c (.int 0)) (.nil)))) (.c (.int 0))))
    (.seq (.asg (.name 8) (.bin .add (.bin .fdiv (.call 19 (.cons (.var 1) (.nil))) (.c (.int 4))) (.bin .mul (.ix (.lst (.cons (.neg (.c (.int 1))) (.cons (.c (.int 1)) (.nil)))) (.blt .int_ (.cons (.var 4) (.nil)))) (.bin .fdiv (.var 5) (.c (.int 2))))))
    (.seq (.asg (.tup (.cons (.name 9) (.cons (.name 10) .nil))) (.lst (.cons (.ix (.ix (.var 2) (.c (.int 0))) (.c (.int 0))) (.cons (.ix (.ix (.var 2) (.c (.int 0))) (.neg (.c (.int 1)))) (.nil)))))
    (.seq (.ite (.var 4)
    (.asg (.tup (.cons (.name 9) (.cons (.name 10) .nil))) (.lst (.cons (.neg (.var 10)) (.cons (.neg (.var 9)) (.nil))))) .skip)
    (.seq (.asg (.name 11) (.bin .sub (.bin .sub (.call 18 (.cons (.var 1) (.cons (.bin .add (.bin .sub (.c (.int 1801)) (.var 10)) (.var 9)) (.nil)))) (.c (.int 900))) (.var 9)))
    (.seq (.asg (.name 12) (.lst (.cons (.call 60 (.cons (.var 2) (.cons (.var 4) (.cons (.var 11) (.nil))))) (.cons (.call 61 (.cons (.var 3) (.cons (.var 4) (.cons (.var 11) (.cons (.var 8) (.nil)))))) (.nil)))))
    (.seq (.for_ .range1 (.cons (.c (.int 5)) (.nil)) (.name 13)
    (.seq (.ite (.not_ (.call 64 (.cons (.var 1) (.cons (.lst (.cons (.var 2) (.cons (.var 3) (.nil)))) (.cons (.var 12) (.cons (.lst (.cons (.var 4) (.cons (.var 11) (.cons (.var 8) (.nil))))) (.nil)))))))
    (.ret (.c (.bl false))) .skip)
    (.ite (.not_ (.call 65 (.cons (.var 1) (.cons (.lst (.cons (.var 2) (.cons (.var 3) (.nil)))) (.cons (.var 12) (.cons (.lst (.cons (.var 4) (.cons (.var 11) (.cons (.var 8) (.nil))))) (.nil)))))))
    (.ret (.c (.bl false))) .skip)))
    (.ret (.c (.bl true))))))))))))))
def T : Nat → Option Fd
  | 0 => some ⟨1, 1, b_is_number⟩
  | 1 => some ⟨1, 1, b_is_pair⟩
  | 2 => some ⟨1, 1, b_check_number⟩
  | 3 => some ⟨1, 3, b_is_ascending⟩
  | 4 => some ⟨1, 1, b_is_near⟩
  | 5 => some ⟨1, 2, b_are_offsets⟩
  | 6 => some ⟨1, 3, b_is_zone⟩
  | 7 => some ⟨1, 1, b_check_zone⟩
  | 8 => some ⟨3, 11, b_are_jumps⟩
  | 9 => some ⟨2, 2, b_is_offset⟩
  | 10 => some ⟨2, 2, b_is_mark⟩
  | 11 => some ⟨2, 3, b_are_marks⟩
  | 12 => some ⟨2, 4, b_fits_as_table⟩
  | 13 => some ⟨2, 2, b_check_table⟩
  | 14 => some ⟨2, 6, b_held_offset⟩
  | 15 => some ⟨3, 3, b_offset_at⟩
  | 16 => some ⟨3, 3, b_reading_at⟩
  | 17 => some ⟨1, 4, b_digits⟩
  | 18 => some ⟨2, 3, b_draw⟩
  | 19 => some ⟨1, 2, b_any_hour⟩
  | 20 => some ⟨1, 11, b_make_region⟩
  | 21 => some ⟨3, 11, b_make_chart⟩
  | 22 => some ⟨2, 5, b_shift_at⟩
  | 23 => some ⟨3, 7, b_near⟩
  | 24 => some ⟨1, 1, b_whole⟩
  | 25 => some ⟨2, 3, b_same⟩
  | 26 => some ⟨1, 10, b_law_k04⟩
  | 27 => some ⟨2, 4, b_matching_moments⟩
  | 28 => some ⟨2, 3, b_moments_to_look_at⟩
  | 29 => some ⟨3, 4, b_looks_to_find⟩
  | 30 => some ⟨3, 3, b_moments_of⟩
  | 31 => some ⟨2, 7, b_hours_of⟩
  | 32 => some ⟨1, 11, b_law_k05⟩
  | 33 => some ⟨2, 3, b_fits_as_looks⟩
  | 34 => some ⟨2, 2, b_check_looks⟩
  | 35 => some ⟨2, 6, b_loads⟩
  | 36 => some ⟨2, 7, b_crowded_stretch⟩
  | 37 => some ⟨2, 2, b_can_hold⟩
  | 38 => some ⟨2, 2, b_crowded⟩
  | 39 => some ⟨3, 17, b_make_sights⟩
  | 40 => some ⟨2, 8, b_crowd⟩
  | 41 => some ⟨3, 3, b_some_sights⟩
  | 42 => some ⟨1, 9, b_law_k11⟩
  | 43 => some ⟨2, 8, b_earliest_table⟩
  | 44 => some ⟨2, 2, b_early_table⟩
  | 45 => some ⟨2, 2, b_among⟩
  | 46 => some ⟨2, 7, b_is_chart⟩
  | 47 => some ⟨2, 5, b_early_chart⟩
  | 48 => some ⟨1, 11, b_law_k12⟩
  | 49 => some ⟨3, 11, b_fitting_offsets⟩
  | 50 => some ⟨3, 3, b_offsets_left⟩
  | 51 => some ⟨3, 6, b_beside⟩
  | 52 => some ⟨3, 5, b_cells_sights⟩
  | 53 => some ⟨2, 2, b_free⟩
  | 54 => some ⟨1, 14, b_law_k16⟩
  | 55 => some ⟨2, 2, b_is_rule⟩
  | 56 => some ⟨2, 2, b_check_rule⟩
  | 57 => some ⟨4, 4, b_chosen⟩
  | 58 => some ⟨4, 5, b_found_moment⟩
  | 59 => some ⟨5, 5, b_find_moment⟩
  | 60 => some ⟨3, 5, b_turned_region⟩
  | 61 => some ⟨4, 8, b_turned_chart⟩
  | 62 => some ⟨3, 13, b_cells_chart⟩
  | 63 => some ⟨3, 3, b_turned⟩
  | 64 => some ⟨4, 13, b_clocks_alike⟩
  | 65 => some ⟨4, 19, b_finds_alike⟩
  | 66 => some ⟨1, 14, b_law_k08⟩
  | _ => none
theorem T_is_number : T 0 = some ⟨1, 1, b_is_number⟩ := rfl
theorem T_is_pair : T 1 = some ⟨1, 1, b_is_pair⟩ := rfl
theorem T_check_number : T 2 = some ⟨1, 1, b_check_number⟩ := rfl
theorem T_is_ascending : T 3 = some ⟨1, 3, b_is_ascending⟩ := rfl
theorem T_is_near : T 4 = some ⟨1, 1, b_is_near⟩ := rfl
theorem T_are_offsets : T 5 = some ⟨1, 2, b_are_offsets⟩ := rfl
theorem T_is_zone : T 6 = some ⟨1, 3, b_is_zone⟩ := rfl
theorem T_check_zone : T 7 = some ⟨1, 1, b_check_zone⟩ := rfl
theorem T_are_jumps : T 8 = some ⟨3, 11, b_are_jumps⟩ := rfl
theorem T_is_offset : T 9 = some ⟨2, 2, b_is_offset⟩ := rfl
theorem T_is_mark : T 10 = some ⟨2, 2, b_is_mark⟩ := rfl
theorem T_are_marks : T 11 = some ⟨2, 3, b_are_marks⟩ := rfl
theorem T_fits_as_table : T 12 = some ⟨2, 4, b_fits_as_table⟩ := rfl
theorem T_check_table : T 13 = some ⟨2, 2, b_check_table⟩ := rfl
theorem T_held_offset : T 14 = some ⟨2, 6, b_held_offset⟩ := rfl
theorem T_offset_at : T 15 = some ⟨3, 3, b_offset_at⟩ := rfl
theorem T_reading_at : T 16 = some ⟨3, 3, b_reading_at⟩ := rfl
theorem T_digits : T 17 = some ⟨1, 4, b_digits⟩ := rfl
theorem T_draw : T 18 = some ⟨2, 3, b_draw⟩ := rfl
theorem T_any_hour : T 19 = some ⟨1, 2, b_any_hour⟩ := rfl
theorem T_make_region : T 20 = some ⟨1, 11, b_make_region⟩ := rfl
theorem T_make_chart : T 21 = some ⟨3, 11, b_make_chart⟩ := rfl
theorem T_shift_at : T 22 = some ⟨2, 5, b_shift_at⟩ := rfl
theorem T_near : T 23 = some ⟨3, 7, b_near⟩ := rfl
theorem T_whole : T 24 = some ⟨1, 1, b_whole⟩ := rfl
theorem T_same : T 25 = some ⟨2, 3, b_same⟩ := rfl
theorem T_law_k04 : T 26 = some ⟨1, 10, b_law_k04⟩ := rfl
theorem T_matching_moments : T 27 = some ⟨2, 4, b_matching_moments⟩ := rfl
theorem T_moments_to_look_at : T 28 = some ⟨2, 3, b_moments_to_look_at⟩ := rfl
theorem T_looks_to_find : T 29 = some ⟨3, 4, b_looks_to_find⟩ := rfl
theorem T_moments_of : T 30 = some ⟨3, 3, b_moments_of⟩ := rfl
theorem T_hours_of : T 31 = some ⟨2, 7, b_hours_of⟩ := rfl
theorem T_law_k05 : T 32 = some ⟨1, 11, b_law_k05⟩ := rfl
theorem T_fits_as_looks : T 33 = some ⟨2, 3, b_fits_as_looks⟩ := rfl
theorem T_check_looks : T 34 = some ⟨2, 2, b_check_looks⟩ := rfl
theorem T_loads : T 35 = some ⟨2, 6, b_loads⟩ := rfl
theorem T_crowded_stretch : T 36 = some ⟨2, 7, b_crowded_stretch⟩ := rfl
theorem T_can_hold : T 37 = some ⟨2, 2, b_can_hold⟩ := rfl
theorem T_crowded : T 38 = some ⟨2, 2, b_crowded⟩ := rfl
theorem T_make_sights : T 39 = some ⟨3, 17, b_make_sights⟩ := rfl
theorem T_crowd : T 40 = some ⟨2, 8, b_crowd⟩ := rfl
theorem T_some_sights : T 41 = some ⟨3, 3, b_some_sights⟩ := rfl
theorem T_law_k11 : T 42 = some ⟨1, 9, b_law_k11⟩ := rfl
theorem T_earliest_table : T 43 = some ⟨2, 8, b_earliest_table⟩ := rfl
theorem T_early_table : T 44 = some ⟨2, 2, b_early_table⟩ := rfl
theorem T_among : T 45 = some ⟨2, 2, b_among⟩ := rfl
theorem T_is_chart : T 46 = some ⟨2, 7, b_is_chart⟩ := rfl
theorem T_early_chart : T 47 = some ⟨2, 5, b_early_chart⟩ := rfl
theorem T_law_k12 : T 48 = some ⟨1, 11, b_law_k12⟩ := rfl
theorem T_fitting_offsets : T 49 = some ⟨3, 11, b_fitting_offsets⟩ := rfl
theorem T_offsets_left : T 50 = some ⟨3, 3, b_offsets_left⟩ := rfl
theorem T_beside : T 51 = some ⟨3, 6, b_beside⟩ := rfl
theorem T_cells_sights : T 52 = some ⟨3, 5, b_cells_sights⟩ := rfl
theorem T_free : T 53 = some ⟨2, 2, b_free⟩ := rfl
theorem T_law_k16 : T 54 = some ⟨1, 14, b_law_k16⟩ := rfl
theorem T_is_rule : T 55 = some ⟨2, 2, b_is_rule⟩ := rfl
theorem T_check_rule : T 56 = some ⟨2, 2, b_check_rule⟩ := rfl
theorem T_chosen : T 57 = some ⟨4, 4, b_chosen⟩ := rfl
theorem T_found_moment : T 58 = some ⟨4, 5, b_found_moment⟩ := rfl
theorem T_find_moment : T 59 = some ⟨5, 5, b_find_moment⟩ := rfl
theorem T_turned_region : T 60 = some ⟨3, 5, b_turned_region⟩ := rfl
theorem T_turned_chart : T 61 = some ⟨4, 8, b_turned_chart⟩ := rfl
theorem T_cells_chart : T 62 = some ⟨3, 13, b_cells_chart⟩ := rfl
theorem T_turned : T 63 = some ⟨3, 3, b_turned⟩ := rfl
theorem T_clocks_alike : T 64 = some ⟨4, 13, b_clocks_alike⟩ := rfl
theorem T_finds_alike : T 65 = some ⟨4, 19, b_finds_alike⟩ := rfl
theorem T_law_k08 : T 66 = some ⟨1, 14, b_law_k08⟩ := rfl
end Lw

namespace Lw
open PySem L2 Ix
def topS (i : Nat) : Stmt := PySem.Challenge.pw_hoursmeant_k12_early_tables.main.body.getD i (.Pass ⟨0, 0, 0, 0⟩)
/-! 0: is_number -/
abbrev s_0 : Stmt := topS 5
abbrev P_0 : List Str := ["value"]
abbrev N_0 : List Str := ["value"]
/-! 1: is_pair -/
abbrev s_1 : Stmt := topS 6
abbrev P_1 : List Str := ["value"]
abbrev N_1 : List Str := ["value"]
/-! 6: is_zone -/
abbrev s_6 : Stmt := topS 11
abbrev P_6 : List Str := ["value"]
abbrev N_6 : List Str := ["value", "offsets", "spacing"]
/-! 7: check_zone -/
abbrev s_7 : Stmt := topS 12
abbrev P_7 : List Str := ["value"]
abbrev N_7 : List Str := ["value"]
/-! 9: is_offset -/
abbrev s_9 : Stmt := topS 13
abbrev P_9 : List Str := ["zone", "value"]
abbrev N_9 : List Str := ["zone", "value"]
/-! 11: are_marks -/
abbrev s_11 : Stmt := topS 14
abbrev P_11 : List Str := ["zone", "value"]
abbrev N_11 : List Str := ["zone", "value", "item"]
/-! 3: is_ascending -/
abbrev s_3 : Stmt := topS 15
abbrev P_3 : List Str := ["numbers"]
abbrev N_3 : List Str := ["numbers", "one", "other"]
/-! 5: _are_offsets -/
abbrev s_5 : Stmt := topS 16
abbrev P_5 : List Str := ["value"]
abbrev N_5 : List Str := ["value", "item"]
/-! 4: _is_near -/
abbrev s_4 : Stmt := topS 17
abbrev P_4 : List Str := ["value"]
abbrev N_4 : List Str := ["value"]
/-! 10: _is_mark -/
abbrev s_10 : Stmt := topS 18
abbrev P_10 : List Str := ["zone", "value"]
abbrev N_10 : List Str := ["zone", "value"]
/-! 44: early_table -/
abbrev s_44 : Stmt := topS 20
abbrev P_44 : List Str := ["zone", "looks"]
abbrev N_44 : List Str := ["zone", "looks"]
/-! 34: check_looks -/
abbrev s_34 : Stmt := topS 21
abbrev P_34 : List Str := ["zone", "value"]
abbrev N_34 : List Str := ["zone", "value"]
/-! 33: fits_as_looks -/
abbrev s_33 : Stmt := topS 22
abbrev P_33 : List Str := ["zone", "value"]
abbrev N_33 : List Str := ["zone", "value", "look"]
/-! 36: crowded_stretch -/
abbrev s_36 : Stmt := topS 23
abbrev P_36 : List Str := ["spacing", "looks"]
abbrev N_36 : List Str := ["spacing", "looks", "loads", "lightest", "last", "load", "first"]
/-! 43: earliest_table -/
abbrev s_43 : Stmt := topS 24
abbrev P_43 : List Str := ["zone", "looks"]
abbrev N_43 : List Str := ["zone", "looks", "offsets", "spacing", "jumps", "look", "following", "moment"]
/-! 35: _loads -/
abbrev s_35 : Stmt := topS 25
abbrev P_35 : List Str := ["spacing", "looks"]
abbrev N_35 : List Str := ["spacing", "looks", "loads", "changes", "k", "look"]
/-! 17: _law_digits -/
abbrev s_17 : Stmt := topS 27
abbrev P_17 : List Str := ["_law_cell"]
abbrev N_17 : List Str := ["_law_cell", "_law_mixed", "_law_full", "_law_k"]
/-! 18: _law_draw -/
abbrev s_18 : Stmt := topS 28
abbrev P_18 : List Str := ["_law_pot", "_law_upto"]
abbrev N_18 : List Str := ["_law_pot", "_law_upto", "_law_digit"]
/-! 19: _law_any_hour -/
abbrev s_19 : Stmt := topS 29
abbrev P_19 : List Str := ["_law_pot"]
abbrev N_19 : List Str := ["_law_pot", "_law_kind"]
/-! 20: _law_make_region -/
abbrev s_20 : Stmt := topS 30
abbrev P_20 : List Str := ["_law_pot"]
abbrev N_20 : List Str := ["_law_pot", "_law_kind", "_law_low", "_law_unit", "_law_wide", "_law_mid", "_law_top", "_law_shifts", "_law_shift", "_law_spare", "_law_more"]
/-! 22: _law_shift_at -/
abbrev s_22 : Stmt := topS 31
abbrev P_22 : List Str := ["_law_chart", "_law_hour"]
abbrev N_22 : List Str := ["_law_chart", "_law_hour", "_law_held", "_law_at", "_law_shift"]
/-! 24: _law_whole -/
abbrev s_24 : Stmt := topS 32
abbrev P_24 : List Str := ["_law_thing"]
abbrev N_24 : List Str := ["_law_thing"]
/-! 25: _law_same -/
abbrev s_25 : Stmt := topS 33
abbrev P_25 : List Str := ["_law_told", "_law_due"]
abbrev N_25 : List Str := ["_law_told", "_law_due", "_law_k"]
/-! 45: _law_among -/
abbrev s_45 : Stmt := topS 34
abbrev P_45 : List Str := ["_law_thing", "_law_shifts"]
abbrev N_45 : List Str := ["_law_thing", "_law_shifts"]
/-! 46: _law_is_chart -/
abbrev s_46 : Stmt := topS 35
abbrev P_46 : List Str := ["_law_region", "_law_thing"]
abbrev N_46 : List Str := ["_law_region", "_law_thing", "_law_shifts", "_law_spacing", "_law_held", "_law_hours", "_law_jump"]
/-! 39: _law_make_sights -/
abbrev s_39 : Stmt := topS 36
abbrev P_39 : List Str := ["_law_pot", "_law_region", "_law_pots"]
abbrev N_39 : List Str := ["_law_pot", "_law_region", "_law_pots", "_law_shifts", "_law_spacing", "_law_hour", "_law_brim", "_law_at", "_law_rows", "_law_many", "_law_calm", "_law_k", "_law_own", "_law_least", "_law_way", "_law_beside", "_law_turn"]
/-! 40: _law_crowd -/
abbrev s_40 : Stmt := topS 37
abbrev P_40 : List Str := ["_law_region", "_law_sights"]
abbrev N_40 : List Str := ["_law_region", "_law_sights", "_law_tally", "_law_k", "_law_late", "_law_back", "_law_at", "_law_changes"]
/-! 47: _law_early_chart -/
abbrev s_47 : Stmt := topS 38
abbrev P_47 : List Str := ["_law_region", "_law_sights"]
abbrev N_47 : List Str := ["_law_region", "_law_sights", "_law_jumps", "_law_k", "_law_hour"]
/-! 41: _law_some_sights -/
abbrev s_41 : Stmt := topS 39
abbrev P_41 : List Str := ["_law_pot", "_law_region", "_law_upto"]
abbrev N_41 : List Str := ["_law_pot", "_law_region", "_law_upto"]
/-! 48: law -/
abbrev s_48 : Stmt := topS 40
abbrev P_48 : List Str := ["_law_script"]
abbrev N_48 : List Str := ["_law_script", "_law_cell", "_law_pot", "_law_pairs", "_law_k", "_law_region", "_law_made", "_law_sights", "_law_told", "_law_hour", "_law_shift"]

theorem sc_0 : FnScope N_0 P_0 (defScope s_0) := ⟨rfl, rfl, rfl, by decide +kernel, rfl, by decide +kernel, by decide +kernel⟩
theorem sc_1 : FnScope N_1 P_1 (defScope s_1) := ⟨rfl, rfl, rfl, by decide +kernel, rfl, by decide +kernel, by decide +kernel⟩
theorem sc_6 : FnScope N_6 P_6 (defScope s_6) := ⟨rfl, rfl, rfl, by decide +kernel, rfl, by decide +kernel, by decide +kernel⟩
theorem sc_7 : FnScope N_7 P_7 (defScope s_7) := ⟨rfl, rfl, rfl, by decide +kernel, rfl, by decide +kernel, by decide +kernel⟩
theorem sc_9 : FnScope N_9 P_9 (defScope s_9) := ⟨rfl, rfl, rfl, by decide +kernel, rfl, by decide +kernel, by decide +kernel⟩
theorem sc_11 : FnScope N_11 P_11 (defScope s_11) := ⟨rfl, rfl, rfl, by decide +kernel, rfl, by decide +kernel, by decide +kernel⟩
theorem sc_3 : FnScope N_3 P_3 (defScope s_3) := ⟨rfl, rfl, rfl, by decide +kernel, rfl, by decide +kernel, by decide +kernel⟩
theorem sc_5 : FnScope N_5 P_5 (defScope s_5) := ⟨rfl, rfl, rfl, by decide +kernel, rfl, by decide +kernel, by decide +kernel⟩
theorem sc_4 : FnScope N_4 P_4 (defScope s_4) := ⟨rfl, rfl, rfl, by decide +kernel, rfl, by decide +kernel, by decide +kernel⟩
theorem sc_10 : FnScope N_10 P_10 (defScope s_10) := ⟨rfl, rfl, rfl, by decide +kernel, rfl, by decide +kernel, by decide +kernel⟩
theorem sc_44 : FnScope N_44 P_44 (defScope s_44) := ⟨rfl, rfl, rfl, by decide +kernel, rfl, by decide +kernel, by decide +kernel⟩
theorem sc_34 : FnScope N_34 P_34 (defScope s_34) := ⟨rfl, rfl, rfl, by decide +kernel, rfl, by decide +kernel, by decide +kernel⟩
theorem sc_33 : FnScope N_33 P_33 (defScope s_33) := ⟨rfl, rfl, rfl, by decide +kernel, rfl, by decide +kernel, by decide +kernel⟩
theorem sc_36 : FnScope N_36 P_36 (defScope s_36) := ⟨rfl, rfl, rfl, by decide +kernel, rfl, by decide +kernel, by decide +kernel⟩
theorem sc_43 : FnScope N_43 P_43 (defScope s_43) := ⟨rfl, rfl, rfl, by decide +kernel, rfl, by decide +kernel, by decide +kernel⟩
theorem sc_35 : FnScope N_35 P_35 (defScope s_35) := ⟨rfl, rfl, rfl, by decide +kernel, rfl, by decide +kernel, by decide +kernel⟩
theorem sc_17 : FnScope N_17 P_17 (defScope s_17) := ⟨rfl, rfl, rfl, by decide +kernel, rfl, by decide +kernel, by decide +kernel⟩
theorem sc_18 : FnScope N_18 P_18 (defScope s_18) := ⟨rfl, rfl, rfl, by decide +kernel, rfl, by decide +kernel, by decide +kernel⟩
theorem sc_19 : FnScope N_19 P_19 (defScope s_19) := ⟨rfl, rfl, rfl, by decide +kernel, rfl, by decide +kernel, by decide +kernel⟩
theorem sc_20 : FnScope N_20 P_20 (defScope s_20) := ⟨rfl, rfl, rfl, by decide +kernel, rfl, by decide +kernel, by decide +kernel⟩
theorem sc_22 : FnScope N_22 P_22 (defScope s_22) := ⟨rfl, rfl, rfl, by decide +kernel, rfl, by decide +kernel, by decide +kernel⟩
theorem sc_24 : FnScope N_24 P_24 (defScope s_24) := ⟨rfl, rfl, rfl, by decide +kernel, rfl, by decide +kernel, by decide +kernel⟩
theorem sc_25 : FnScope N_25 P_25 (defScope s_25) := ⟨rfl, rfl, rfl, by decide +kernel, rfl, by decide +kernel, by decide +kernel⟩
theorem sc_45 : FnScope N_45 P_45 (defScope s_45) := ⟨rfl, rfl, rfl, by decide +kernel, rfl, by decide +kernel, by decide +kernel⟩
theorem sc_46 : FnScope N_46 P_46 (defScope s_46) := ⟨rfl, rfl, rfl, by decide +kernel, rfl, by decide +kernel, by decide +kernel⟩
theorem sc_39 : FnScope N_39 P_39 (defScope s_39) := ⟨rfl, rfl, rfl, by decide +kernel, rfl, by decide +kernel, by decide +kernel⟩
theorem sc_40 : FnScope N_40 P_40 (defScope s_40) := ⟨rfl, rfl, rfl, by decide +kernel, rfl, by decide +kernel, by decide +kernel⟩
theorem sc_47 : FnScope N_47 P_47 (defScope s_47) := ⟨rfl, rfl, rfl, by decide +kernel, rfl, by decide +kernel, by decide +kernel⟩
theorem sc_41 : FnScope N_41 P_41 (defScope s_41) := ⟨rfl, rfl, rfl, by decide +kernel, rfl, by decide +kernel, by decide +kernel⟩
theorem sc_48 : FnScope N_48 P_48 (defScope s_48) := ⟨rfl, rfl, rfl, by decide +kernel, rfl, by decide +kernel, by decide +kernel⟩
structure Gs (K : PySem.W.Frag) (mg : Str → Option Value) : Prop where
  n_all : mg "all" = none
  n_bool : mg "bool" = none
  n_enumerate : mg "enumerate" = none
  n_int : mg "int" = none
  n_isinstance : mg "isinstance" = none
  n_len : mg "len" = none
  n_list : mg "list" = none
  n_max : mg "max" = none
  n_range : mg "range" = none
  n_str : mg "str" = none
  n_tuple : mg "tuple" = none
  n_zip : mg "zip" = none
  c_MOST_SPACING : ∃ t : Tok, mg "MOST_SPACING" = some (.int 1000000 t)
  c_MOST_OFFSETS : ∃ t : Tok, mg "MOST_OFFSETS" = some (.int 3 t)
  c_FARTHEST_OFFSET : ∃ t : Tok, mg "FARTHEST_OFFSET" = some (.int 900 t)
structure Al (P : Program) (w : World) (K : PySem.W.Frag) (mg : Str → Option Value) (base : Heap) (n : Nat) : Prop where
  f0 : FnI P w K mg base (run T n) n 0 "is_number" P_0 s_0
  f1 : FnI P w K mg base (run T n) n 1 "is_pair" P_1 s_1
  f6 : FnI P w K mg base (run T n) n 6 "is_zone" P_6 s_6
  f7 : FnI P w K mg base (run T n) n 7 "check_zone" P_7 s_7
  f9 : FnI P w K mg base (run T n) n 9 "is_offset" P_9 s_9
  f11 : FnI P w K mg base (run T n) n 11 "are_marks" P_11 s_11
  f3 : FnI P w K mg base (run T n) n 3 "is_ascending" P_3 s_3
  f5 : FnI P w K mg base (run T n) n 5 "_are_offsets" P_5 s_5
  f4 : FnI P w K mg base (run T n) n 4 "_is_near" P_4 s_4
  f10 : FnI P w K mg base (run T n) n 10 "_is_mark" P_10 s_10
  f44 : FnI P w K mg base (run T n) n 44 "early_table" P_44 s_44
  f34 : FnI P w K mg base (run T n) n 34 "check_looks" P_34 s_34
  f33 : FnI P w K mg base (run T n) n 33 "fits_as_looks" P_33 s_33
  f36 : FnI P w K mg base (run T n) n 36 "crowded_stretch" P_36 s_36
  f43 : FnI P w K mg base (run T n) n 43 "earliest_table" P_43 s_43
  f35 : FnI P w K mg base (run T n) n 35 "_loads" P_35 s_35
  f17 : FnI P w K mg base (run T n) n 17 "_law_digits" P_17 s_17
  f18 : FnI P w K mg base (run T n) n 18 "_law_draw" P_18 s_18
  f19 : FnI P w K mg base (run T n) n 19 "_law_any_hour" P_19 s_19
  f20 : FnI P w K mg base (run T n) n 20 "_law_make_region" P_20 s_20
  f22 : FnI P w K mg base (run T n) n 22 "_law_shift_at" P_22 s_22
  f24 : FnI P w K mg base (run T n) n 24 "_law_whole" P_24 s_24
  f25 : FnI P w K mg base (run T n) n 25 "_law_same" P_25 s_25
  f45 : FnI P w K mg base (run T n) n 45 "_law_among" P_45 s_45
  f46 : FnI P w K mg base (run T n) n 46 "_law_is_chart" P_46 s_46
  f39 : FnI P w K mg base (run T n) n 39 "_law_make_sights" P_39 s_39
  f40 : FnI P w K mg base (run T n) n 40 "_law_crowd" P_40 s_40
  f47 : FnI P w K mg base (run T n) n 47 "_law_early_chart" P_47 s_47
  f41 : FnI P w K mg base (run T n) n 41 "_law_some_sights" P_41 s_41
  f48 : FnI P w K mg base (run T n) n 48 "law" P_48 s_48
section
variable {P : Program} {w : World} {K : PySem.W.Frag} {mg : Str → Option Value} {base : Heap} {n : Nat}
/-! 0: is_number -/
theorem d_0 (A : Al P w K mg base n) (G : Gs K mg) (fa : Addr) (cdv : Value) (Ar : Around) (outer : List PySem.Env) (s : Shared) (H : Hp) (E : XK) (hr : Room n (Ar.deeper (PyProof.Rows.envOfC "is_number" (defScope s_0) s.heap.objs.size fa cdv))) :
    PSs (cxOf CX0 P w K mg base N_0 "is_number" (defScope s_0) fa cdv Ar outer s H E).nox (defBody s_0) (trS K (run T n) b_is_number) :=
  (xs_one (xs_ret (xe_and (xe_blt .isi b_isi (by rfl) G.n_isinstance (by decide +kernel) (xa_cons (xe_var 0) (xa_cons (xe_ty (by rfl) G.n_int (by decide +kernel)) (xa_nil)))) (xe_one (xe_not (xe_blt .isi b_isi (by rfl) G.n_isinstance (by decide +kernel) (xa_cons (xe_var 0) (xa_cons (xe_ty (by rfl) G.n_bool (by decide +kernel)) (xa_nil)))))))))
/-! 1: is_pair -/
theorem d_1 (A : Al P w K mg base n) (G : Gs K mg) (fa : Addr) (cdv : Value) (Ar : Around) (outer : List PySem.Env) (s : Shared) (H : Hp) (E : XK) (hr : Room n (Ar.deeper (PyProof.Rows.envOfC "is_pair" (defScope s_1) s.heap.objs.size fa cdv))) :
    PSs (cxOf CX0 P w K mg base N_1 "is_pair" (defScope s_1) fa cdv Ar outer s H E).nox (defBody s_1) (trS K (run T n) b_is_pair) :=
  (xs_one (xs_ret (xe_and (xe_blt .isi b_isi (by rfl) G.n_isinstance (by decide +kernel) (xa_cons (xe_var 0) (xa_cons (xe_ty (by rfl) G.n_tuple (by decide +kernel)) (xa_nil)))) (xe_one (xe_cmp .eq (xe_blt .len b_len (by rfl) G.n_len (by decide +kernel) (xa_cons (xe_var 0) (xa_nil))) (xe_int) (by first | rfl | with_unfolding_all rfl))))))
/-! 6: is_zone -/
theorem d_6 (A : Al P w K mg base n) (G : Gs K mg) (fa : Addr) (cdv : Value) (Ar : Around) (outer : List PySem.Env) (s : Shared) (H : Hp) (E : XK) (hr : Room n (Ar.deeper (PyProof.Rows.envOfC "is_zone" (defScope s_6) s.heap.objs.size fa cdv))) :
    PSs (cxOf CX0 P w K mg base N_6 "is_zone" (defScope s_6) fa cdv Ar outer s H E).nox (defBody s_6) (trS K (run T n) b_is_zone) :=
  (xs_cons (xs_if (xt_not (xt_truth (xe_call A.f1 hr (by rfl) (xa_cons (xe_var 0) (xa_nil))) (fun _ => rfl)))
    (xs_one (xs_ret (xe_bl))) xs_nil)
    (xs_cons (xs_asg (xe_var 0) (xg_tup rfl (xgs_cons (xg_name 1 sc_6.nd) (xgs_cons (xg_name 2 sc_6.nd) xgs_nil))))
    (xs_cons (xs_if ((xw_or (xt_not (xt_truth (xe_call A.f5 hr (by rfl) (xa_cons (xe_var 1) (xa_nil))) (fun _ => rfl))) (xw_or1 (xt_not (xt_truth (xe_call A.f0 hr (by rfl) (xa_cons (xe_var 2) (xa_nil))) (fun _ => rfl)))))).pt
    (xs_one (xs_ret (xe_bl))) xs_nil)
    (xs_one (xs_ret (xe_chain .lt .le (xe_bin .sub (xe_ix (xe_var 1) (xe_neg (xe_int)) (fun _ _ => rfl)) (xe_ix (xe_var 1) (xe_int) (fun _ _ => rfl))) (xe_var 2) (xe_glob (v := .int 1000000) (u := .int 1000000 G.c_MOST_SPACING.choose) (by rfl) G.c_MOST_SPACING.choose_spec ⟨_, rfl⟩ (fun _ _ => .int _))))))))
/-! 7: check_zone -/
theorem d_7 (A : Al P w K mg base n) (G : Gs K mg) (fa : Addr) (cdv : Value) (Ar : Around) (outer : List PySem.Env) (s : Shared) (H : Hp) (E : XK) (hr : Room n (Ar.deeper (PyProof.Rows.envOfC "check_zone" (defScope s_7) s.heap.objs.size fa cdv))) :
    PSs (cxOf CX0 P w K mg base N_7 "check_zone" (defScope s_7) fa cdv Ar outer s H E).nox (defBody s_7) (trS K (run T n) b_check_zone) :=
  (xs_one (xs_if (xt_not (xt_truth (xe_call A.f6 hr (by rfl) (xa_cons (xe_var 0) (xa_nil))) (fun _ => rfl)))
    (xs_one xs_stuck) xs_nil))
/-! 9: is_offset -/
theorem d_9 (A : Al P w K mg base n) (G : Gs K mg) (fa : Addr) (cdv : Value) (Ar : Around) (outer : List PySem.Env) (s : Shared) (H : Hp) (E : XK) (hr : Room n (Ar.deeper (PyProof.Rows.envOfC "is_offset" (defScope s_9) s.heap.objs.size fa cdv))) :
    PSs (cxOf CX0 P w K mg base N_9 "is_offset" (defScope s_9) fa cdv Ar outer s H E).nox (defBody s_9) (trS K (run T n) b_is_offset) :=
  (xs_one (xs_ret (xe_and (xe_call A.f0 hr (by rfl) (xa_cons (xe_var 1) (xa_nil))) (xe_one (xe_cmp .in_ (xe_var 1) (xe_ix (xe_var 0) (xe_int) (fun _ _ => rfl)) (by first | rfl | with_unfolding_all rfl))))))
/-! 11: are_marks -/
theorem d_11 (A : Al P w K mg base n) (G : Gs K mg) (fa : Addr) (cdv : Value) (Ar : Around) (outer : List PySem.Env) (s : Shared) (H : Hp) (E : XK) (hr : Room n (Ar.deeper (PyProof.Rows.envOfC "are_marks" (defScope s_11) s.heap.objs.size fa cdv))) :
    PSs (cxOf CX0 P w K mg base N_11 "are_marks" (defScope s_11) fa cdv Ar outer s H E).nox (defBody s_11) (trS K (run T n) b_are_marks) :=
  (xs_one (xs_ret (xe_and (xe_blt .isi b_isi (by rfl) G.n_isinstance (by decide +kernel) (xa_cons (xe_var 1) (xa_cons (xe_ty (by rfl) G.n_tuple (by decide +kernel)) (xa_nil)))) (xe_one (xe_blt .all_ (b_all rfl) (by rfl) G.n_all (by decide +kernel) (xa_cons (xe_lc (own := [("item", 2)]) rfl sc_11.nd (xi_seq (xe_var 1)) N_11 (defScope s_11) (by decide +kernel) (fun _ _ _ _ _ => (xg_name 2 sc_11.nd)) (fun _ _ _ _ _ => xts_nil) (fun _ _ _ _ _ => (xe_call A.f10 hr (by rfl) (xa_cons (xe_var 0) (xa_cons (xe_var 2) (xa_nil)))))) (xa_nil)))))))
/-! 3: is_ascending -/
theorem d_3 (A : Al P w K mg base n) (G : Gs K mg) (fa : Addr) (cdv : Value) (Ar : Around) (outer : List PySem.Env) (s : Shared) (H : Hp) (E : XK) (hr : Room n (Ar.deeper (PyProof.Rows.envOfC "is_ascending" (defScope s_3) s.heap.objs.size fa cdv))) :
    PSs (cxOf CX0 P w K mg base N_3 "is_ascending" (defScope s_3) fa cdv Ar outer s H E).nox (defBody s_3) (trS K (run T n) b_is_ascending) :=
  (xs_one (xs_ret (xe_blt .all_ (b_all rfl) (by rfl) G.n_all (by decide +kernel) (xa_cons (xe_lc (own := [("one", 1), ("other", 2)]) rfl sc_3.nd (xi_zip (by rfl) G.n_zip (xa_cons (xe_var 0) (xa_cons (xe_sl (xe_var 0) (xo_some (xe_int)) xo_none) (xa_nil)))) N_3 (defScope s_3) (by decide +kernel) (fun _ _ _ _ _ => (xg_tup rfl (xgs_cons (xg_name 1 sc_3.nd) (xgs_cons (xg_name 2 sc_3.nd) xgs_nil)))) (fun _ _ _ _ _ => xts_nil) (fun _ _ _ _ _ => (xe_cmp .lt (xe_var 1) (xe_var 2) (by first | rfl | with_unfolding_all rfl)))) (xa_nil)))))
/-! 5: _are_offsets -/
theorem d_5 (A : Al P w K mg base n) (G : Gs K mg) (fa : Addr) (cdv : Value) (Ar : Around) (outer : List PySem.Env) (s : Shared) (H : Hp) (E : XK) (hr : Room n (Ar.deeper (PyProof.Rows.envOfC "_are_offsets" (defScope s_5) s.heap.objs.size fa cdv))) :
    PSs (cxOf CX0 P w K mg base N_5 "_are_offsets" (defScope s_5) fa cdv Ar outer s H E).nox (defBody s_5) (trS K (run T n) b_are_offsets) :=
  (xs_cons (xs_if ((xw_or (xt_not (xt_truth (xe_blt .isi b_isi (by rfl) G.n_isinstance (by decide +kernel) (xa_cons (xe_var 0) (xa_cons (xe_ty (by rfl) G.n_tuple (by decide +kernel)) (xa_nil)))) (fun _ => rfl))) (xw_or1 (xt_not (xt_chain .le .le (xe_int) (xe_blt .len b_len (by rfl) G.n_len (by decide +kernel) (xa_cons (xe_var 0) (xa_nil))) (xe_glob (v := .int 3) (u := .int 3 G.c_MOST_OFFSETS.choose) (by rfl) G.c_MOST_OFFSETS.choose_spec ⟨_, rfl⟩ (fun _ _ => .int _))))))).pt
    (xs_one (xs_ret (xe_bl))) xs_nil)
    (xs_one (xs_ret (xe_and (xe_blt .all_ (b_all rfl) (by rfl) G.n_all (by decide +kernel) (xa_cons (xe_lc (own := [("item", 1)]) rfl sc_5.nd (xi_seq (xe_var 0)) N_5 (defScope s_5) (by decide +kernel) (fun _ _ _ _ _ => (xg_name 1 sc_5.nd)) (fun _ _ _ _ _ => xts_nil) (fun _ _ _ _ _ => (xe_call A.f4 hr (by rfl) (xa_cons (xe_var 1) (xa_nil))))) (xa_nil))) (xe_one (xe_call A.f3 hr (by rfl) (xa_cons (xe_var 0) (xa_nil))))))))
/-! 4: _is_near -/
theorem d_4 (A : Al P w K mg base n) (G : Gs K mg) (fa : Addr) (cdv : Value) (Ar : Around) (outer : List PySem.Env) (s : Shared) (H : Hp) (E : XK) (hr : Room n (Ar.deeper (PyProof.Rows.envOfC "_is_near" (defScope s_4) s.heap.objs.size fa cdv))) :
    PSs (cxOf CX0 P w K mg base N_4 "_is_near" (defScope s_4) fa cdv Ar outer s H E).nox (defBody s_4) (trS K (run T n) b_is_near) :=
  (xs_one (xs_ret (xe_and (xe_call A.f0 hr (by rfl) (xa_cons (xe_var 0) (xa_nil))) (xe_one (xe_chain .le .le (xe_neg (xe_glob (v := .int 900) (u := .int 900 G.c_FARTHEST_OFFSET.choose) (by rfl) G.c_FARTHEST_OFFSET.choose_spec ⟨_, rfl⟩ (fun _ _ => .int _))) (xe_var 0) (xe_glob (v := .int 900) (u := .int 900 G.c_FARTHEST_OFFSET.choose) (by rfl) G.c_FARTHEST_OFFSET.choose_spec ⟨_, rfl⟩ (fun _ _ => .int _)))))))
/-! 10: _is_mark -/
theorem d_10 (A : Al P w K mg base n) (G : Gs K mg) (fa : Addr) (cdv : Value) (Ar : Around) (outer : List PySem.Env) (s : Shared) (H : Hp) (E : XK) (hr : Room n (Ar.deeper (PyProof.Rows.envOfC "_is_mark" (defScope s_10) s.heap.objs.size fa cdv))) :
    PSs (cxOf CX0 P w K mg base N_10 "_is_mark" (defScope s_10) fa cdv Ar outer s H E).nox (defBody s_10) (trS K (run T n) b_is_mark) :=
  (xs_one (xs_ret (xe_and (xe_call A.f1 hr (by rfl) (xa_cons (xe_var 1) (xa_nil))) (xe_and (xe_call A.f0 hr (by rfl) (xa_cons (xe_ix (xe_var 1) (xe_int) (fun _ _ => rfl)) (xa_nil))) (xe_one (xe_call A.f9 hr (by rfl) (xa_cons (xe_var 0) (xa_cons (xe_ix (xe_var 1) (xe_int) (fun _ _ => rfl)) (xa_nil)))))))))
/-! 44: early_table -/
theorem d_44 (A : Al P w K mg base n) (G : Gs K mg) (fa : Addr) (cdv : Value) (Ar : Around) (outer : List PySem.Env) (s : Shared) (H : Hp) (E : XK) (hr : Room n (Ar.deeper (PyProof.Rows.envOfC "early_table" (defScope s_44) s.heap.objs.size fa cdv))) :
    PSs (cxOf CX0 P w K mg base N_44 "early_table" (defScope s_44) fa cdv Ar outer s H E).nox (defBody s_44) (trS K (run T n) b_early_table) :=
  (xs_cons (xs_drop (xe_call A.f7 hr (by rfl) (xa_cons (xe_var 0) (xa_nil))))
    (xs_cons (xs_drop (xe_call A.f34 hr (by rfl) (xa_cons (xe_var 0) (xa_cons (xe_var 1) (xa_nil)))))
    (xs_cons (xs_if (xt_cmp .isnot (xe_call A.f36 hr (by rfl) (xa_cons (xe_ix (xe_var 0) (xe_int) (fun _ _ => rfl)) (xa_cons (xe_var 1) (xa_nil)))) (xe_non) (by first | rfl | with_unfolding_all rfl))
    (xs_one (xs_ret (xe_non))) xs_nil)
    (xs_one (xs_ret (xe_call A.f43 hr (by rfl) (xa_cons (xe_var 0) (xa_cons (xe_var 1) (xa_nil)))))))))
/-! 34: check_looks -/
theorem d_34 (A : Al P w K mg base n) (G : Gs K mg) (fa : Addr) (cdv : Value) (Ar : Around) (outer : List PySem.Env) (s : Shared) (H : Hp) (E : XK) (hr : Room n (Ar.deeper (PyProof.Rows.envOfC "check_looks" (defScope s_34) s.heap.objs.size fa cdv))) :
    PSs (cxOf CX0 P w K mg base N_34 "check_looks" (defScope s_34) fa cdv Ar outer s H E).nox (defBody s_34) (trS K (run T n) b_check_looks) :=
  (xs_one (xs_if (xt_not (xt_truth (xe_call A.f33 hr (by rfl) (xa_cons (xe_var 0) (xa_cons (xe_var 1) (xa_nil)))) (fun _ => rfl)))
    (xs_one xs_stuck) xs_nil))
/-! 33: fits_as_looks -/
theorem d_33 (A : Al P w K mg base n) (G : Gs K mg) (fa : Addr) (cdv : Value) (Ar : Around) (outer : List PySem.Env) (s : Shared) (H : Hp) (E : XK) (hr : Room n (Ar.deeper (PyProof.Rows.envOfC "fits_as_looks" (defScope s_33) s.heap.objs.size fa cdv))) :
    PSs (cxOf CX0 P w K mg base N_33 "fits_as_looks" (defScope s_33) fa cdv Ar outer s H E).nox (defBody s_33) (trS K (run T n) b_fits_as_looks) :=
  (xs_one (xs_ret (xe_and (xe_call A.f11 hr (by rfl) (xa_cons (xe_var 0) (xa_cons (xe_var 1) (xa_nil)))) (xe_one (xe_call A.f3 hr (by rfl) (xa_cons (xe_lc (own := [("look", 2)]) rfl sc_33.nd (xi_seq (xe_var 1)) N_33 (defScope s_33) (by decide +kernel) (fun _ _ _ _ _ => (xg_name 2 sc_33.nd)) (fun _ _ _ _ _ => xts_nil) (fun _ _ _ _ _ => (xe_ix (xe_var 2) (xe_int) (fun _ _ => rfl)))) (xa_nil)))))))
/-! 36: crowded_stretch -/
theorem d_36 (A : Al P w K mg base n) (G : Gs K mg) (fa : Addr) (cdv : Value) (Ar : Around) (outer : List PySem.Env) (s : Shared) (H : Hp) (E : XK) (hr : Room n (Ar.deeper (PyProof.Rows.envOfC "crowded_stretch" (defScope s_36) s.heap.objs.size fa cdv))) :
    PSs (cxOf CX0 P w K mg base N_36 "crowded_stretch" (defScope s_36) fa cdv Ar outer s H E).nox (defBody s_36) (trS K (run T n) b_crowded_stretch) :=
  (xs_cons (xs_set 2 sc_36.nd (xe_call A.f35 hr (by rfl) (xa_cons (xe_var 0) (xa_cons (xe_var 1) (xa_nil)))))
    (xs_cons (xs_set 3 sc_36.nd (xe_non))
    (xs_cons (xs_for PassesOwn.never rfl (xi_enum (by rfl) G.n_enumerate (xa_cons (xe_var 2) (xa_nil))) (xg_tup rfl (xgs_cons (xg_name 4 sc_36.nd) (xgs_cons (xg_name 5 sc_36.nd) xgs_nil)))
    (xs_cons (xs_if ((xw_and (xt_cmp .isnot (xe_var 3) (xe_non) (by first | rfl | with_unfolding_all rfl)) (xw_and1 (xt_cmp .ge (xe_bin .sub (xe_var 5) (xe_var 3)) (xe_var 0) (by first | rfl | with_unfolding_all rfl))))).pt
    (xs_one (xs_ret (xe_tup (xa_cons (xe_blt .max_ (b_max rfl) (by rfl) G.n_max (by decide +kernel) (xa_cons (xe_lc (own := [("first", 6)]) rfl sc_36.nd (xi_range1 (by rfl) G.n_range (xa_cons (xe_var 4) (xa_nil))) N_36 (defScope s_36) (by decide +kernel) (fun _ _ _ _ _ => (xg_name 6 sc_36.nd)) (fun _ _ _ _ _ => (xts_one (xt_cmp .ge (xe_bin .sub (xe_var 5) (xe_ix (xe_var 2) (xe_var 6) (fun _ _ => rfl))) (xe_var 0) (by first | rfl | with_unfolding_all rfl)))) (fun _ _ _ _ _ => (xe_var 6))) (xa_nil))) (xa_cons (xe_var 4) (xa_nil)))))) xs_nil)
    (xs_one (xs_if ((xw_or (xt_cmp .is_ (xe_var 3) (xe_non) (by first | rfl | with_unfolding_all rfl)) (xw_or1 (xt_cmp .lt (xe_var 5) (xe_var 3) (by first | rfl | with_unfolding_all rfl))))).pt
    (xs_one (xs_set 3 sc_36.nd (xe_var 5))) xs_nil))))
    (xs_one (xs_ret (xe_non))))))
/-! 43: earliest_table -/
theorem d_43 (A : Al P w K mg base n) (G : Gs K mg) (fa : Addr) (cdv : Value) (Ar : Around) (outer : List PySem.Env) (s : Shared) (H : Hp) (E : XK) (hr : Room n (Ar.deeper (PyProof.Rows.envOfC "earliest_table" (defScope s_43) s.heap.objs.size fa cdv))) :
    PSs (cxOf CX0 P w K mg base N_43 "earliest_table" (defScope s_43) fa cdv Ar outer s H E).nox (defBody s_43) (trS K (run T n) b_earliest_table) :=
  (xs_cons (xs_asg (xe_var 0) (xg_tup rfl (xgs_cons (xg_name 2 sc_43.nd) (xgs_cons (xg_name 3 sc_43.nd) xgs_nil))))
    (xs_cons (xs_if (xt_not (xt_truth (xe_var 1) (fun _ => rfl)))
    (xs_one (xs_ret (xe_tup (xa_cons (xe_ix (xe_var 2) (xe_int) (fun _ _ => rfl)) (xa_cons (xe_tup (xa_nil)) (xa_nil)))))) xs_nil)
    (xs_cons (xs_set 4 sc_43.nd (xe_lst (xa_nil)))
    (xs_cons (xs_for PassesOwn.never rfl (xi_zip (by rfl) G.n_zip (xa_cons (xe_var 1) (xa_cons (xe_sl (xe_var 1) (xo_some (xe_int)) xo_none) (xa_nil)))) (xg_tup rfl (xgs_cons (xg_name 5 sc_43.nd) (xgs_cons (xg_name 6 sc_43.nd) xgs_nil)))
    (xs_cons (xs_if (xt_cmp .eq (xe_ix (xe_var 5) (xe_int) (fun _ _ => rfl)) (xe_ix (xe_var 6) (xe_int) (fun _ _ => rfl)) (by first | rfl | with_unfolding_all rfl))
    (xs_one (xs_cont)) xs_nil)
    (xs_cons (xs_set 7 sc_43.nd (xe_bin .add (xe_ix (xe_var 5) (xe_int) (fun _ _ => rfl)) (xe_int)))
    (xs_cons (xs_if (xt_truth (xe_var 4) (fun _ => rfl))
    (xs_one (xs_set 7 sc_43.nd (xe_blt .max_ (b_max rfl) (by rfl) G.n_max (by decide +kernel) (xa_cons (xe_var 7) (xa_cons (xe_bin .add (xe_ix (xe_ix (xe_var 4) (xe_neg (xe_int)) (fun _ _ => rfl)) (xe_int) (fun _ _ => rfl)) (xe_var 3)) (xa_nil)))))) xs_nil)
    (xs_one (xs_drop (xe_append (xe_var 4) (xa_cons (xe_tup (xa_cons (xe_var 7) (xa_cons (xe_ix (xe_var 6) (xe_int) (fun _ _ => rfl)) (xa_nil)))) (xa_nil)))))))))
    (xs_one (xs_ret (xe_tup (xa_cons (xe_ix (xe_ix (xe_var 1) (xe_int) (fun _ _ => rfl)) (xe_int) (fun _ _ => rfl)) (xa_cons (xe_bty .tuple_ b_tuple (by rfl) G.n_tuple (by decide +kernel) (xa_cons (xe_var 4) (xa_nil))) (xa_nil))))))))))
/-! 35: _loads -/
theorem d_35 (A : Al P w K mg base n) (G : Gs K mg) (fa : Addr) (cdv : Value) (Ar : Around) (outer : List PySem.Env) (s : Shared) (H : Hp) (E : XK) (hr : Room n (Ar.deeper (PyProof.Rows.envOfC "_loads" (defScope s_35) s.heap.objs.size fa cdv))) :
    PSs (cxOf CX0 P w K mg base N_35 "_loads" (defScope s_35) fa cdv Ar outer s H E).nox (defBody s_35) (trS K (run T n) b_loads) :=
  (xs_cons (xs_set 2 sc_35.nd (xe_lst (xa_nil)))
    (xs_cons (xs_set 3 sc_35.nd (xe_int))
    (xs_cons (xs_for PassesOwn.never rfl (xi_enum (by rfl) G.n_enumerate (xa_cons (xe_var 1) (xa_nil))) (xg_tup rfl (xgs_cons (xg_name 4 sc_35.nd) (xgs_cons (xg_name 5 sc_35.nd) xgs_nil)))
    (xs_cons (xs_if ((xw_and (xt_cmp .gt (xe_var 4) (xe_int) (by first | rfl | with_unfolding_all rfl)) (xw_and1 (xt_cmp .ne (xe_ix (xe_var 5) (xe_int) (fun _ _ => rfl)) (xe_ix (xe_ix (xe_var 1) (xe_bin .sub (xe_var 4) (xe_int)) (fun _ _ => rfl)) (xe_int) (fun _ _ => rfl)) (by first | rfl | with_unfolding_all rfl))))).pt
    (xs_one (xs_aug_add 3 sc_35.nd (xe_int))) xs_nil)
    (xs_one (xs_drop (xe_append (xe_var 2) (xa_cons (xe_bin .sub (xe_bin .mul (xe_var 3) (xe_var 0)) (xe_ix (xe_var 5) (xe_int) (fun _ _ => rfl))) (xa_nil)))))))
    (xs_one (xs_ret (xe_var 2))))))
/-! 17: _law_digits -/
theorem d_17 (A : Al P w K mg base n) (G : Gs K mg) (fa : Addr) (cdv : Value) (Ar : Around) (outer : List PySem.Env) (s : Shared) (H : Hp) (E : XK) (hr : Room n (Ar.deeper (PyProof.Rows.envOfC "_law_digits" (defScope s_17) s.heap.objs.size fa cdv))) :
    PSs (cxOf CX0 P w K mg base N_17 "_law_digits" (defScope s_17) fa cdv Ar outer s H E).nox (defBody s_17) (trS K (run T n) b_digits) :=
  (xs_cons (xs_if (xt_cmp .ge (xe_var 0) (xe_bin .pow (xe_int) (xe_int)) (by first | rfl | with_unfolding_all rfl))
    (xs_one (xs_ret (xe_lst (xa_cons (xe_bin .sub (xe_var 0) (xe_bin .pow (xe_int) (xe_int))) (xa_nil))))) xs_nil)
    (xs_cons (xs_set 1 sc_17.nd (xe_bin .add (xe_bin .mod (xe_bty .int_ b_int (by rfl) G.n_int (by decide +kernel) (xa_cons (xe_var 0) (xa_nil))) (xe_bin .add (xe_bin .pow (xe_int) (xe_int)) (xe_int))) (xe_int)))
    (xs_cons (xs_set 2 sc_17.nd (xe_int))
    (xs_cons (xs_for PassesOwn.never rfl (xi_range1 (by rfl) G.n_range (xa_cons (xe_int) (xa_nil))) (xg_name 3 sc_17.nd)
    (xs_cons (xs_set 1 sc_17.nd (xe_bin .mod (xe_bin .add (xe_bin .add (xe_bin .add (xe_bin .mul (xe_var 1) (xe_var 1)) (xe_bin .mul (xe_int) (xe_var 1))) (xe_bin .mul (xe_int) (xe_var 3))) (xe_int)) (xe_bin .add (xe_bin .pow (xe_int) (xe_int)) (xe_int))))
    (xs_one (xs_if (xt_cmp .gt (xe_var 3) (xe_int) (by first | rfl | with_unfolding_all rfl))
    (xs_one (xs_set 2 sc_17.nd (xe_bin .add (xe_bin .mul (xe_var 2) (xe_bin .pow (xe_int) (xe_int))) (xe_var 1)))) xs_nil))))
    (xs_one (xs_ret (xe_lst (xa_cons (xe_var 2) (xa_nil)))))))))
/-! 18: _law_draw -/
theorem d_18 (A : Al P w K mg base n) (G : Gs K mg) (fa : Addr) (cdv : Value) (Ar : Around) (outer : List PySem.Env) (s : Shared) (H : Hp) (E : XK) (hr : Room n (Ar.deeper (PyProof.Rows.envOfC "_law_draw" (defScope s_18) s.heap.objs.size fa cdv))) :
    PSs (cxOf CX0 P w K mg base N_18 "_law_draw" (defScope s_18) fa cdv Ar outer s H E).nox (defBody s_18) (trS K (run T n) b_draw) :=
  (xs_cons (xs_set 2 sc_18.nd (xe_bin .mod (xe_bty .int_ b_int (by rfl) G.n_int (by decide +kernel) (xa_cons (xe_ix (xe_var 0) (xe_int) (fun _ _ => rfl)) (xa_nil))) (xe_var 1)))
    (xs_cons (xs_setix (xe_bin .fdiv (xe_ix (xe_var 0) (xe_int) (fun _ _ => rfl)) (xe_var 1)) (xe_var 0) (xe_int))
    (xs_one (xs_ret (xe_var 2)))))
/-! 19: _law_any_hour -/
theorem d_19 (A : Al P w K mg base n) (G : Gs K mg) (fa : Addr) (cdv : Value) (Ar : Around) (outer : List PySem.Env) (s : Shared) (H : Hp) (E : XK) (hr : Room n (Ar.deeper (PyProof.Rows.envOfC "_law_any_hour" (defScope s_19) s.heap.objs.size fa cdv))) :
    PSs (cxOf CX0 P w K mg base N_19 "_law_any_hour" (defScope s_19) fa cdv Ar outer s H E).nox (defBody s_19) (trS K (run T n) b_any_hour) :=
  (xs_cons (xs_set 1 sc_19.nd (xe_call A.f18 hr (by rfl) (xa_cons (xe_var 0) (xa_cons (xe_int) (xa_nil)))))
    (xs_cons (xs_if (xt_cmp .lt (xe_var 1) (xe_int) (by first | rfl | with_unfolding_all rfl))
    (xs_one (xs_ret (xe_bin .sub (xe_call A.f18 hr (by rfl) (xa_cons (xe_var 0) (xa_cons (xe_int) (xa_nil)))) (xe_int)))) xs_nil)
    (xs_cons (xs_if (xt_cmp .eq (xe_var 1) (xe_int) (by first | rfl | with_unfolding_all rfl))
    (xs_one (xs_ret (xe_bin .sub (xe_call A.f18 hr (by rfl) (xa_cons (xe_var 0) (xa_cons (xe_bin .add (xe_bin .mul (xe_int) (xe_bin .pow (xe_int) (xe_int))) (xe_int)) (xa_nil)))) (xe_bin .mul (xe_int) (xe_bin .pow (xe_int) (xe_int)))))) xs_nil)
    (xs_one (xs_ret (xe_ix (xe_lst (xa_cons (xe_int) (xa_cons (xe_int) (xa_cons (xe_neg (xe_int)) (xa_cons (xe_int) (xa_cons (xe_neg (xe_int)) (xa_cons (xe_bin .sub (xe_bin .sub (xe_bin .pow (xe_int) (xe_int)) (xe_int)) (xe_bin .mul (xe_int) (xe_bin .pow (xe_int) (xe_int)))) (xa_cons (xe_bin .sub (xe_int) (xe_bin .pow (xe_int) (xe_int))) (xa_nil))))))))) (xe_call A.f18 hr (by rfl) (xa_cons (xe_var 0) (xa_cons (xe_int) (xa_nil)))) (fun _ _ => rfl)))))))
/-! 20: _law_make_region -/
theorem d_20 (A : Al P w K mg base n) (G : Gs K mg) (fa : Addr) (cdv : Value) (Ar : Around) (outer : List PySem.Env) (s : Shared) (H : Hp) (E : XK) (hr : Room n (Ar.deeper (PyProof.Rows.envOfC "_law_make_region" (defScope s_20) s.heap.objs.size fa cdv))) :
    PSs (cxOf CX0 P w K mg base N_20 "_law_make_region" (defScope s_20) fa cdv Ar outer s H E).nox (defBody s_20) (trS K (run T n) b_make_region) :=
  (xs_cons (xs_set 1 sc_20.nd (xe_call A.f18 hr (by rfl) (xa_cons (xe_var 0) (xa_cons (xe_int) (xa_nil)))))
    (xs_cons (xs_set 2 sc_20.nd (xe_neg (xe_int)))
    (xs_cons (xs_if (xt_cmp .lt (xe_var 1) (xe_int) (by first | rfl | with_unfolding_all rfl))
    (xs_one (xs_set 2 sc_20.nd (xe_bin .sub (xe_call A.f18 hr (by rfl) (xa_cons (xe_var 0) (xa_cons (xe_int) (xa_nil)))) (xe_int)))) (xs_one (xs_if (xt_cmp .eq (xe_var 1) (xe_int) (by first | rfl | with_unfolding_all rfl))
    (xs_one (xs_set 2 sc_20.nd (xe_bin .mul (xe_int) (xe_bin .sub (xe_call A.f18 hr (by rfl) (xa_cons (xe_var 0) (xa_cons (xe_int) (xa_nil)))) (xe_int))))) (xs_one (xs_if (xt_cmp .eq (xe_var 1) (xe_int) (by first | rfl | with_unfolding_all rfl))
    (xs_one (xs_set 2 sc_20.nd (xe_bin .sub (xe_call A.f18 hr (by rfl) (xa_cons (xe_var 0) (xa_cons (xe_int) (xa_nil)))) (xe_int)))) xs_nil)))))
    (xs_cons (xs_asg (xe_ix (xe_lst (xa_cons (xe_tup (xa_cons (xe_int) (xa_cons (xe_int) (xa_nil)))) (xa_cons (xe_tup (xa_cons (xe_int) (xa_cons (xe_int) (xa_nil)))) (xa_cons (xe_tup (xa_cons (xe_int) (xa_cons (xe_int) (xa_nil)))) (xa_cons (xe_tup (xa_cons (xe_int) (xa_cons (xe_int) (xa_nil)))) (xa_cons (xe_tup (xa_cons (xe_int) (xa_cons (xe_int) (xa_nil)))) (xa_cons (xe_tup (xa_cons (xe_int) (xa_cons (xe_int) (xa_nil)))) (xa_nil)))))))) (xe_var 1) (fun _ _ => rfl)) (xg_tup rfl (xgs_cons (xg_name 3 sc_20.nd) (xgs_cons (xg_name 4 sc_20.nd) xgs_nil))))
    (xs_cons (xs_set 5 sc_20.nd (xe_bin .add (xe_var 2) (xe_bin .mul (xe_var 3) (xe_bin .add (xe_int) (xe_call A.f18 hr (by rfl) (xa_cons (xe_var 0) (xa_cons (xe_var 4) (xa_nil))))))))
    (xs_cons (xs_set 6 sc_20.nd (xe_bin .add (xe_var 5) (xe_bin .mul (xe_var 3) (xe_bin .add (xe_int) (xe_call A.f18 hr (by rfl) (xa_cons (xe_var 0) (xa_cons (xe_var 4) (xa_nil))))))))
    (xs_cons (xs_set 7 sc_20.nd (xe_lst (xa_cons (xe_tup (xa_cons (xe_var 2) (xa_cons (xe_var 5) (xa_nil)))) (xa_cons (xe_tup (xa_cons (xe_var 2) (xa_cons (xe_var 5) (xa_cons (xe_var 6) (xa_nil))))) (xa_cons (xe_tup (xa_cons (xe_var 2) (xa_cons (xe_var 6) (xa_nil)))) (xa_cons (xe_tup (xa_cons (xe_var 2) (xa_cons (xe_var 5) (xa_cons (xe_var 6) (xa_nil))))) (xa_cons (xe_tup (xa_cons (xe_var 6) (xa_nil))) (xa_nil))))))))
    (xs_cons (xs_set 7 sc_20.nd (xe_ix (xe_var 7) (xe_bin .fdiv (xe_call A.f18 hr (by rfl) (xa_cons (xe_var 0) (xa_cons (xe_int) (xa_nil)))) (xe_int)) (fun _ _ => rfl)))
    (xs_cons (xs_if (xt_cmp .eq (xe_call A.f18 hr (by rfl) (xa_cons (xe_var 0) (xa_cons (xe_int) (xa_nil)))) (xe_int) (by first | rfl | with_unfolding_all rfl))
    (xs_one (xs_set 7 sc_20.nd (xe_bty .tuple_ b_tuple (by rfl) G.n_tuple (by decide +kernel) (xa_cons (xe_lc (own := [("_law_shift", 8)]) rfl sc_20.nd (xi_seq (xe_rev (xe_var 7))) N_20 (defScope s_20) (by decide +kernel) (fun _ _ _ _ _ => (xg_name 8 sc_20.nd)) (fun _ _ _ _ _ => xts_nil) (fun _ _ _ _ _ => (xe_neg (xe_var 8)))) (xa_nil))))) xs_nil)
    (xs_cons (xs_set 9 sc_20.nd (xe_bin .sub (xe_ix (xe_var 7) (xe_neg (xe_int)) (fun _ _ => rfl)) (xe_ix (xe_var 7) (xe_int) (fun _ _ => rfl))))
    (xs_cons (xs_set 10 sc_20.nd (xe_lst (xa_cons (xe_int) (xa_cons (xe_int) (xa_cons (xe_int) (xa_cons (xe_call A.f18 hr (by rfl) (xa_cons (xe_var 0) (xa_cons (xe_int) (xa_nil)))) (xa_cons (xe_call A.f18 hr (by rfl) (xa_cons (xe_var 0) (xa_cons (xe_bin .sub (xe_int) (xe_var 9)) (xa_nil)))) (xa_cons (xe_bin .sub (xe_int) (xe_var 9)) (xa_nil)))))))))
    (xs_one (xs_ret (xe_tup (xa_cons (xe_var 7) (xa_cons (xe_bin .add (xe_bin .add (xe_var 9) (xe_int)) (xe_ix (xe_var 10) (xe_call A.f18 hr (by rfl) (xa_cons (xe_var 0) (xa_cons (xe_int) (xa_nil)))) (fun _ _ => rfl))) (xa_nil)))))))))))))))))
/-! 22: _law_shift_at -/
theorem d_22 (A : Al P w K mg base n) (G : Gs K mg) (fa : Addr) (cdv : Value) (Ar : Around) (outer : List PySem.Env) (s : Shared) (H : Hp) (E : XK) (hr : Room n (Ar.deeper (PyProof.Rows.envOfC "_law_shift_at" (defScope s_22) s.heap.objs.size fa cdv))) :
    PSs (cxOf CX0 P w K mg base N_22 "_law_shift_at" (defScope s_22) fa cdv Ar outer s H E).nox (defBody s_22) (trS K (run T n) b_shift_at) :=
  (xs_cons (xs_set 2 sc_22.nd (xe_ix (xe_var 0) (xe_int) (fun _ _ => rfl)))
    (xs_cons (xs_for PassesOwn.never rfl (xi_seq (xe_ix (xe_var 0) (xe_int) (fun _ _ => rfl))) (xg_tup rfl (xgs_cons (xg_name 3 sc_22.nd) (xgs_cons (xg_name 4 sc_22.nd) xgs_nil)))
    (xs_one (xs_if (xt_cmp .le (xe_var 3) (xe_var 1) (by first | rfl | with_unfolding_all rfl))
    (xs_one (xs_set 2 sc_22.nd (xe_var 4))) xs_nil)))
    (xs_one (xs_ret (xe_var 2)))))
/-! 24: _law_whole -/
theorem d_24 (A : Al P w K mg base n) (G : Gs K mg) (fa : Addr) (cdv : Value) (Ar : Around) (outer : List PySem.Env) (s : Shared) (H : Hp) (E : XK) (hr : Room n (Ar.deeper (PyProof.Rows.envOfC "_law_whole" (defScope s_24) s.heap.objs.size fa cdv))) :
    PSs (cxOf CX0 P w K mg base N_24 "_law_whole" (defScope s_24) fa cdv Ar outer s H E).nox (defBody s_24) (trS K (run T n) b_whole) :=
  (xs_one (xs_ret (xe_and (xe_blt .isi b_isi (by rfl) G.n_isinstance (by decide +kernel) (xa_cons (xe_var 0) (xa_cons (xe_ty (by rfl) G.n_int (by decide +kernel)) (xa_nil)))) (xe_one (xe_not (xe_blt .isi b_isi (by rfl) G.n_isinstance (by decide +kernel) (xa_cons (xe_var 0) (xa_cons (xe_ty (by rfl) G.n_bool (by decide +kernel)) (xa_nil)))))))))
/-! 25: _law_same -/
theorem d_25 (A : Al P w K mg base n) (G : Gs K mg) (fa : Addr) (cdv : Value) (Ar : Around) (outer : List PySem.Env) (s : Shared) (H : Hp) (E : XK) (hr : Room n (Ar.deeper (PyProof.Rows.envOfC "_law_same" (defScope s_25) s.heap.objs.size fa cdv))) :
    PSs (cxOf CX0 P w K mg base N_25 "_law_same" (defScope s_25) fa cdv Ar outer s H E).nox (defBody s_25) (trS K (run T n) b_same) :=
  (xs_cons (xs_if (xt_truth (xe_blt .isi b_isi (by rfl) G.n_isinstance (by decide +kernel) (xa_cons (xe_var 1) (xa_cons (xe_tup (xa_cons (xe_ty (by rfl) G.n_tuple (by decide +kernel)) (xa_cons (xe_ty (by rfl) G.n_list (by decide +kernel)) (xa_nil)))) (xa_nil)))) (fun _ => rfl))
    (xs_cons (xs_if ((xw_or (xt_not (xt_truth (xe_blt .isi b_isi (by rfl) G.n_isinstance (by decide +kernel) (xa_cons (xe_var 0) (xa_cons (xe_tup (xa_cons (xe_ty (by rfl) G.n_tuple (by decide +kernel)) (xa_cons (xe_ty (by rfl) G.n_list (by decide +kernel)) (xa_nil)))) (xa_nil)))) (fun _ => rfl))) (xw_or1 (xt_cmp .ne (xe_blt .isi b_isi (by rfl) G.n_isinstance (by decide +kernel) (xa_cons (xe_var 0) (xa_cons (xe_ty (by rfl) G.n_list (by decide +kernel)) (xa_nil)))) (xe_blt .isi b_isi (by rfl) G.n_isinstance (by decide +kernel) (xa_cons (xe_var 1) (xa_cons (xe_ty (by rfl) G.n_list (by decide +kernel)) (xa_nil)))) (by first | rfl | with_unfolding_all rfl))))).pt
    (xs_one (xs_ret (xe_bl))) xs_nil)
    (xs_one (xs_ret (xe_and (xe_cmp .eq (xe_blt .len b_len (by rfl) G.n_len (by decide +kernel) (xa_cons (xe_var 0) (xa_nil))) (xe_blt .len b_len (by rfl) G.n_len (by decide +kernel) (xa_cons (xe_var 1) (xa_nil))) (by first | rfl | with_unfolding_all rfl)) (xe_one (xe_blt .all_ (b_all rfl) (by rfl) G.n_all (by decide +kernel) (xa_cons (xe_lc (own := [("_law_k", 2)]) rfl sc_25.nd (xi_range1 (by rfl) G.n_range (xa_cons (xe_blt .len b_len (by rfl) G.n_len (by decide +kernel) (xa_cons (xe_var 1) (xa_nil))) (xa_nil))) N_25 (defScope s_25) (by decide +kernel) (fun _ _ _ _ _ => (xg_name 2 sc_25.nd)) (fun _ _ _ _ _ => xts_nil) (fun _ _ _ _ _ => (xe_call A.f25 hr (by rfl) (xa_cons (xe_ix (xe_var 0) (xe_var 2) (fun _ _ => rfl)) (xa_cons (xe_ix (xe_var 1) (xe_var 2) (fun _ _ => rfl)) (xa_nil)))))) (xa_nil)))))))) xs_nil)
    (xs_cons (xs_if (xt_cmp .is_ (xe_var 1) (xe_non) (by first | rfl | with_unfolding_all rfl))
    (xs_one (xs_ret (xe_cmp .is_ (xe_var 0) (xe_non) (by first | rfl | with_unfolding_all rfl)))) xs_nil)
    (xs_cons (xs_if (xt_truth (xe_blt .isi b_isi (by rfl) G.n_isinstance (by decide +kernel) (xa_cons (xe_var 1) (xa_cons (xe_ty (by rfl) G.n_bool (by decide +kernel)) (xa_nil)))) (fun _ => rfl))
    (xs_one (xs_ret (xe_and (xe_blt .isi b_isi (by rfl) G.n_isinstance (by decide +kernel) (xa_cons (xe_var 0) (xa_cons (xe_ty (by rfl) G.n_bool (by decide +kernel)) (xa_nil)))) (xe_one (xe_cmp .eq (xe_var 0) (xe_var 1) (by first | rfl | with_unfolding_all rfl)))))) xs_nil)
    (xs_cons (xs_if (xt_truth (xe_blt .isi b_isi (by rfl) G.n_isinstance (by decide +kernel) (xa_cons (xe_var 1) (xa_cons (xe_ty (by rfl) G.n_int (by decide +kernel)) (xa_nil)))) (fun _ => rfl))
    (xs_one (xs_ret (xe_and (xe_call A.f24 hr (by rfl) (xa_cons (xe_var 0) (xa_nil))) (xe_one (xe_cmp .eq (xe_var 0) (xe_var 1) (by first | rfl | with_unfolding_all rfl)))))) xs_nil)
    (xs_cons (xs_if (xt_truth (xe_blt .isi b_isi (by rfl) G.n_isinstance (by decide +kernel) (xa_cons (xe_var 1) (xa_cons (xe_ty (by rfl) G.n_str (by decide +kernel)) (xa_nil)))) (fun _ => rfl))
    (xs_one (xs_ret (xe_and (xe_blt .isi b_isi (by rfl) G.n_isinstance (by decide +kernel) (xa_cons (xe_var 0) (xa_cons (xe_ty (by rfl) G.n_str (by decide +kernel)) (xa_nil)))) (xe_one (xe_cmp .eq (xe_var 0) (xe_var 1) (by first | rfl | with_unfolding_all rfl)))))) xs_nil)
    (xs_one (xs_ret (xe_and (xe_not (xe_blt .isi b_isi (by rfl) G.n_isinstance (by decide +kernel) (xa_cons (xe_var 0) (xa_cons (xe_tup (xa_cons (xe_ty (by rfl) G.n_tuple (by decide +kernel)) (xa_cons (xe_ty (by rfl) G.n_list (by decide +kernel)) (xa_cons (xe_ty (by rfl) G.n_int (by decide +kernel)) (xa_cons (xe_ty (by rfl) G.n_str (by decide +kernel)) (xa_nil)))))) (xa_nil))))) (xe_one (xe_cmp .isnot (xe_var 0) (xe_non) (by first | rfl | with_unfolding_all rfl)))))))))))
/-! 45: _law_among -/
theorem d_45 (A : Al P w K mg base n) (G : Gs K mg) (fa : Addr) (cdv : Value) (Ar : Around) (outer : List PySem.Env) (s : Shared) (H : Hp) (E : XK) (hr : Room n (Ar.deeper (PyProof.Rows.envOfC "_law_among" (defScope s_45) s.heap.objs.size fa cdv))) :
    PSs (cxOf CX0 P w K mg base N_45 "_law_among" (defScope s_45) fa cdv Ar outer s H E).nox (defBody s_45) (trS K (run T n) b_among) :=
  (xs_one (xs_ret (xe_and (xe_call A.f24 hr (by rfl) (xa_cons (xe_var 0) (xa_nil))) (xe_one (xe_cmp .in_ (xe_var 0) (xe_var 1) (by first | rfl | with_unfolding_all rfl))))))
/-! 46: _law_is_chart -/
theorem d_46 (A : Al P w K mg base n) (G : Gs K mg) (fa : Addr) (cdv : Value) (Ar : Around) (outer : List PySem.Env) (s : Shared) (H : Hp) (E : XK) (hr : Room n (Ar.deeper (PyProof.Rows.envOfC "_law_is_chart" (defScope s_46) s.heap.objs.size fa cdv))) :
    PSs (cxOf CX0 P w K mg base N_46 "_law_is_chart" (defScope s_46) fa cdv Ar outer s H E).nox (defBody s_46) (trS K (run T n) b_is_chart) :=
  (xs_cons (xs_asg (xe_var 0) (xg_tup rfl (xgs_cons (xg_name 2 sc_46.nd) (xgs_cons (xg_name 3 sc_46.nd) xgs_nil))))
    (xs_cons (xs_if ((xw_or (xt_not (xt_truth (xe_blt .isi b_isi (by rfl) G.n_isinstance (by decide +kernel) (xa_cons (xe_var 1) (xa_cons (xe_ty (by rfl) G.n_tuple (by decide +kernel)) (xa_nil)))) (fun _ => rfl))) (xw_or (xt_cmp .ne (xe_blt .len b_len (by rfl) G.n_len (by decide +kernel) (xa_cons (xe_var 1) (xa_nil))) (xe_int) (by first | rfl | with_unfolding_all rfl)) (xw_or1 (xt_not (xt_truth (xe_call A.f45 hr (by rfl) (xa_cons (xe_ix (xe_var 1) (xe_int) (fun _ _ => rfl)) (xa_cons (xe_var 2) (xa_nil)))) (fun _ => rfl))))))).pt
    (xs_one (xs_ret (xe_bl))) xs_nil)
    (xs_cons (xs_if (xt_not (xt_truth (xe_blt .isi b_isi (by rfl) G.n_isinstance (by decide +kernel) (xa_cons (xe_ix (xe_var 1) (xe_int) (fun _ _ => rfl)) (xa_cons (xe_ty (by rfl) G.n_tuple (by decide +kernel)) (xa_nil)))) (fun _ => rfl)))
    (xs_one (xs_ret (xe_bl))) xs_nil)
    (xs_cons (xs_set 4 sc_46.nd (xe_ix (xe_var 1) (xe_int) (fun _ _ => rfl)))
    (xs_cons (xs_set 5 sc_46.nd (xe_lst (xa_nil)))
    (xs_cons (xs_for PassesOwn.never rfl (xi_seq (xe_ix (xe_var 1) (xe_int) (fun _ _ => rfl))) (xg_name 6 sc_46.nd)
    (xs_cons (xs_if ((xw_or (xt_not (xt_truth (xe_blt .isi b_isi (by rfl) G.n_isinstance (by decide +kernel) (xa_cons (xe_var 6) (xa_cons (xe_ty (by rfl) G.n_tuple (by decide +kernel)) (xa_nil)))) (fun _ => rfl))) (xw_or (xt_cmp .ne (xe_blt .len b_len (by rfl) G.n_len (by decide +kernel) (xa_cons (xe_var 6) (xa_nil))) (xe_int) (by first | rfl | with_unfolding_all rfl)) (xw_or1 (xt_not (xt_truth (xe_call A.f24 hr (by rfl) (xa_cons (xe_ix (xe_var 6) (xe_int) (fun _ _ => rfl)) (xa_nil))) (fun _ => rfl))))))).pt
    (xs_one (xs_ret (xe_bl))) xs_nil)
    (xs_cons (xs_if ((xw_or (xt_not (xt_truth (xe_call A.f45 hr (by rfl) (xa_cons (xe_ix (xe_var 6) (xe_int) (fun _ _ => rfl)) (xa_cons (xe_var 2) (xa_nil)))) (fun _ => rfl))) (xw_or1 (xt_cmp .eq (xe_ix (xe_var 6) (xe_int) (fun _ _ => rfl)) (xe_var 4) (by first | rfl | with_unfolding_all rfl))))).pt
    (xs_one (xs_ret (xe_bl))) xs_nil)
    (xs_cons (xs_if ((xw_and (xt_cmp .gt (xe_blt .len b_len (by rfl) G.n_len (by decide +kernel) (xa_cons (xe_var 5) (xa_nil))) (xe_int) (by first | rfl | with_unfolding_all rfl)) (xw_and1 (xt_cmp .lt (xe_ix (xe_var 6) (xe_int) (fun _ _ => rfl)) (xe_bin .add (xe_ix (xe_var 5) (xe_neg (xe_int)) (fun _ _ => rfl)) (xe_var 3)) (by first | rfl | with_unfolding_all rfl))))).pt
    (xs_one (xs_ret (xe_bl))) xs_nil)
    (xs_cons (xs_set 4 sc_46.nd (xe_ix (xe_var 6) (xe_int) (fun _ _ => rfl)))
    (xs_one (xs_drop (xe_append (xe_var 5) (xa_cons (xe_ix (xe_var 6) (xe_int) (fun _ _ => rfl)) (xa_nil))))))))))
    (xs_one (xs_ret (xe_bl)))))))))
/-! 39: _law_make_sights -/
theorem d_39 (A : Al P w K mg base n) (G : Gs K mg) (fa : Addr) (cdv : Value) (Ar : Around) (outer : List PySem.Env) (s : Shared) (H : Hp) (E : XK) (hr : Room n (Ar.deeper (PyProof.Rows.envOfC "_law_make_sights" (defScope s_39) s.heap.objs.size fa cdv))) :
    PSs (cxOf CX0 P w K mg base N_39 "_law_make_sights" (defScope s_39) fa cdv Ar outer s H E).nox (defBody s_39) (trS K (run T n) b_make_sights) :=
  (xs_cons (xs_asg (xe_var 1) (xg_tup rfl (xgs_cons (xg_name 3 sc_39.nd) (xgs_cons (xg_name 4 sc_39.nd) xgs_nil))))
    (xs_cons (xs_set 5 sc_39.nd (xe_call A.f19 hr (by rfl) (xa_cons (xe_var 0) (xa_nil))))
    (xs_cons (xs_set 6 sc_39.nd (xe_bin .sub (xe_var 5) (xe_var 4)))
    (xs_cons (xs_set 7 sc_39.nd (xe_call A.f18 hr (by rfl) (xa_cons (xe_var 0) (xa_cons (xe_blt .len b_len (by rfl) G.n_len (by decide +kernel) (xa_cons (xe_var 3) (xa_nil))) (xa_nil)))))
    (xs_cons (xs_set 8 sc_39.nd (xe_lst (xa_nil)))
    (xs_cons (xs_set 9 sc_39.nd (xe_blt .len b_len (by rfl) G.n_len (by decide +kernel) (xa_cons (xe_var 2) (xa_nil))))
    (xs_cons (xs_set 10 sc_39.nd (xe_ix (xe_lst (xa_cons (xe_var 9) (xa_cons (xe_int) (xa_cons (xe_call A.f18 hr (by rfl) (xa_cons (xe_var 0) (xa_cons (xe_bin .add (xe_var 9) (xe_int)) (xa_nil)))) (xa_nil))))) (xe_call A.f18 hr (by rfl) (xa_cons (xe_var 0) (xa_cons (xe_int) (xa_nil)))) (fun _ _ => rfl)))
    (xs_cons (xs_for PassesOwn.never rfl (xi_range1 (by rfl) G.n_range (xa_cons (xe_var 9) (xa_nil))) (xg_name 11 sc_39.nd)
    (xs_cons (xs_set 12 sc_39.nd (xe_ix (xe_var 2) (xe_var 11) (fun _ _ => rfl)))
    (xs_cons (xs_drop (xe_append (xe_var 8) (xa_cons (xe_tup (xa_cons (xe_var 5) (xa_cons (xe_ix (xe_var 3) (xe_var 7) (fun _ _ => rfl)) (xa_nil)))) (xa_nil))))
    (xs_cons (xs_set 13 sc_39.nd (xe_blt .max_ (b_max rfl) (by rfl) G.n_max (by decide +kernel) (xa_cons (xe_bin .add (xe_var 5) (xe_int)) (xa_cons (xe_bin .add (xe_var 6) (xe_var 4)) (xa_nil)))))
    (xs_cons (xs_set 14 sc_39.nd (xe_call A.f18 hr (by rfl) (xa_cons (xe_var 12) (xa_cons (xe_int) (xa_nil)))))
    (xs_cons (xs_set 15 sc_39.nd (xe_lst (xa_cons (xe_var 13) (xa_cons (xe_var 13) (xa_cons (xe_bin .sub (xe_var 13) (xe_int)) (xa_cons (xe_bin .add (xe_var 5) (xe_int)) (xa_cons (xe_bin .add (xe_bin .add (xe_var 5) (xe_int)) (xe_call A.f18 hr (by rfl) (xa_cons (xe_var 12) (xa_cons (xe_int) (xa_nil))))) (xa_cons (xe_bin .add (xe_var 13) (xe_call A.f18 hr (by rfl) (xa_cons (xe_var 12) (xa_cons (xe_int) (xa_nil))))) (xa_nil)))))))))
    (xs_cons (xs_set 15 sc_39.nd (xe_bin .add (xe_var 15) (xe_lst (xa_cons (xe_bin .add (xe_bin .add (xe_var 5) (xe_int)) (xe_call A.f18 hr (by rfl) (xa_cons (xe_var 12) (xa_cons (xe_bin .mul (xe_int) (xe_var 4)) (xa_nil))))) (xa_cons (xe_bin .add (xe_var 13) (xe_call A.f18 hr (by rfl) (xa_cons (xe_var 12) (xa_cons (xe_var 4) (xa_nil))))) (xa_nil))))))
    (xs_cons (xs_drop (xe_append (xe_var 15) (xa_cons (xe_bin .add (xe_bin .add (xe_var 5) (xe_int)) (xe_call A.f18 hr (by rfl) (xa_cons (xe_var 12) (xa_cons (xe_int) (xa_nil))))) (xa_nil))))
    (xs_cons (xs_set 16 sc_39.nd (xe_bin .mul (xe_call A.f18 hr (by rfl) (xa_cons (xe_var 12) (xa_cons (xe_int) (xa_nil)))) (xe_bty .int_ b_int (by rfl) G.n_int (by decide +kernel) (xa_cons (xe_cmp .gt (xe_blt .len b_len (by rfl) G.n_len (by decide +kernel) (xa_cons (xe_var 3) (xa_nil))) (xe_int) (by first | rfl | with_unfolding_all rfl)) (xa_nil)))))
    (xs_cons (xs_set 5 sc_39.nd (xe_blt .max_ (b_max rfl) (by rfl) G.n_max (by decide +kernel) (xa_cons (xe_bin .add (xe_var 5) (xe_int)) (xa_cons (xe_ix (xe_var 15) (xe_var 14) (fun _ _ => rfl)) (xa_nil)))))
    (xs_one (xs_if (xt_cmp .gt (xe_var 16) (xe_int) (by first | rfl | with_unfolding_all rfl))
    (xs_cons (xs_set 7 sc_39.nd (xe_bin .mod (xe_bty .int_ b_int (by rfl) G.n_int (by decide +kernel) (xa_cons (xe_bin .add (xe_bin .add (xe_var 7) (xe_int)) (xe_call A.f18 hr (by rfl) (xa_cons (xe_var 12) (xa_cons (xe_bin .sub (xe_blt .len b_len (by rfl) G.n_len (by decide +kernel) (xa_cons (xe_var 3) (xa_nil))) (xe_int)) (xa_nil))))) (xa_nil))) (xe_blt .len b_len (by rfl) G.n_len (by decide +kernel) (xa_cons (xe_var 3) (xa_nil)))))
    (xs_cons (xs_set 6 sc_39.nd (xe_var 13))
    (xs_one (xs_if (xt_cmp .lt (xe_var 11) (xe_var 10) (by first | rfl | with_unfolding_all rfl))
    (xs_one (xs_set 5 sc_39.nd (xe_blt .max_ (b_max rfl) (by rfl) G.n_max (by decide +kernel) (xa_cons (xe_var 5) (xa_cons (xe_var 13) (xa_nil)))))) xs_nil)))) xs_nil))))))))))))
    (xs_one (xs_ret (xe_bty .tuple_ b_tuple (by rfl) G.n_tuple (by decide +kernel) (xa_cons (xe_var 8) (xa_nil)))))))))))))
/-! 40: _law_crowd -/
theorem d_40 (A : Al P w K mg base n) (G : Gs K mg) (fa : Addr) (cdv : Value) (Ar : Around) (outer : List PySem.Env) (s : Shared) (H : Hp) (E : XK) (hr : Room n (Ar.deeper (PyProof.Rows.envOfC "_law_crowd" (defScope s_40) s.heap.objs.size fa cdv))) :
    PSs (cxOf CX0 P w K mg base N_40 "_law_crowd" (defScope s_40) fa cdv Ar outer s H E).nox (defBody s_40) (trS K (run T n) b_crowd) :=
  (xs_cons (xs_set 2 sc_40.nd (xe_lst (xa_cons (xe_int) (xa_nil))))
    (xs_cons (xs_for PassesOwn.never rfl (xi_range2 (by rfl) G.n_range (xa_cons (xe_int) (xa_cons (xe_blt .len b_len (by rfl) G.n_len (by decide +kernel) (xa_cons (xe_var 1) (xa_nil))) (xa_nil)))) (xg_name 3 sc_40.nd)
    (xs_one (xs_drop (xe_append (xe_var 2) (xa_cons (xe_bin .add (xe_ix (xe_var 2) (xe_neg (xe_int)) (fun _ _ => rfl)) (xe_bty .int_ b_int (by rfl) G.n_int (by decide +kernel) (xa_cons (xe_cmp .ne (xe_ix (xe_ix (xe_var 1) (xe_var 3) (fun _ _ => rfl)) (xe_int) (fun _ _ => rfl)) (xe_ix (xe_ix (xe_var 1) (xe_bin .sub (xe_var 3) (xe_int)) (fun _ _ => rfl)) (xe_int) (fun _ _ => rfl)) (by first | rfl | with_unfolding_all rfl)) (xa_nil)))) (xa_nil))))))
    (xs_cons (xs_for PassesOwn.never rfl (xi_range1 (by rfl) G.n_range (xa_cons (xe_blt .len b_len (by rfl) G.n_len (by decide +kernel) (xa_cons (xe_var 1) (xa_nil))) (xa_nil))) (xg_name 4 sc_40.nd)
    (xs_one (xs_for PassesOwn.never rfl (xi_range1 (by rfl) G.n_range (xa_cons (xe_var 4) (xa_nil))) (xg_name 5 sc_40.nd)
    (xs_cons (xs_set 6 sc_40.nd (xe_bin .sub (xe_bin .sub (xe_var 4) (xe_int)) (xe_var 5)))
    (xs_cons (xs_set 7 sc_40.nd (xe_bin .sub (xe_ix (xe_var 2) (xe_var 4) (fun _ _ => rfl)) (xe_ix (xe_var 2) (xe_var 6) (fun _ _ => rfl))))
    (xs_one (xs_if (xt_cmp .gt (xe_bin .mul (xe_bin .sub (xe_var 7) (xe_int)) (xe_ix (xe_var 0) (xe_int) (fun _ _ => rfl))) (xe_bin .sub (xe_bin .sub (xe_ix (xe_ix (xe_var 1) (xe_var 4) (fun _ _ => rfl)) (xe_int) (fun _ _ => rfl)) (xe_ix (xe_ix (xe_var 1) (xe_var 6) (fun _ _ => rfl)) (xe_int) (fun _ _ => rfl))) (xe_int)) (by first | rfl | with_unfolding_all rfl))
    (xs_one (xs_ret (xe_tup (xa_cons (xe_var 6) (xa_cons (xe_var 4) (xa_nil)))))) xs_nil)))))))
    (xs_one (xs_ret (xe_non))))))
/-! 47: _law_early_chart -/
theorem d_47 (A : Al P w K mg base n) (G : Gs K mg) (fa : Addr) (cdv : Value) (Ar : Around) (outer : List PySem.Env) (s : Shared) (H : Hp) (E : XK) (hr : Room n (Ar.deeper (PyProof.Rows.envOfC "_law_early_chart" (defScope s_47) s.heap.objs.size fa cdv))) :
    PSs (cxOf CX0 P w K mg base N_47 "_law_early_chart" (defScope s_47) fa cdv Ar outer s H E).nox (defBody s_47) (trS K (run T n) b_early_chart) :=
  (xs_cons (xs_set 2 sc_47.nd (xe_lst (xa_nil)))
    (xs_cons (xs_for PassesOwn.never rfl (xi_range2 (by rfl) G.n_range (xa_cons (xe_int) (xa_cons (xe_blt .len b_len (by rfl) G.n_len (by decide +kernel) (xa_cons (xe_var 1) (xa_nil))) (xa_nil)))) (xg_name 3 sc_47.nd)
    (xs_one (xs_if (xt_cmp .ne (xe_ix (xe_ix (xe_var 1) (xe_var 3) (fun _ _ => rfl)) (xe_int) (fun _ _ => rfl)) (xe_ix (xe_ix (xe_var 1) (xe_bin .sub (xe_var 3) (xe_int)) (fun _ _ => rfl)) (xe_int) (fun _ _ => rfl)) (by first | rfl | with_unfolding_all rfl))
    (xs_cons (xs_set 4 sc_47.nd (xe_bin .add (xe_ix (xe_ix (xe_var 1) (xe_bin .sub (xe_var 3) (xe_int)) (fun _ _ => rfl)) (xe_int) (fun _ _ => rfl)) (xe_int)))
    (xs_cons (xs_if (xt_cmp .gt (xe_blt .len b_len (by rfl) G.n_len (by decide +kernel) (xa_cons (xe_var 2) (xa_nil))) (xe_int) (by first | rfl | with_unfolding_all rfl))
    (xs_one (xs_set 4 sc_47.nd (xe_blt .max_ (b_max rfl) (by rfl) G.n_max (by decide +kernel) (xa_cons (xe_var 4) (xa_cons (xe_bin .add (xe_ix (xe_ix (xe_var 2) (xe_neg (xe_int)) (fun _ _ => rfl)) (xe_int) (fun _ _ => rfl)) (xe_ix (xe_var 0) (xe_int) (fun _ _ => rfl))) (xa_nil)))))) xs_nil)
    (xs_one (xs_drop (xe_append (xe_var 2) (xa_cons (xe_tup (xa_cons (xe_var 4) (xa_cons (xe_ix (xe_ix (xe_var 1) (xe_var 3) (fun _ _ => rfl)) (xe_int) (fun _ _ => rfl)) (xa_nil)))) (xa_nil))))))) xs_nil)))
    (xs_cons (xs_if (xt_cmp .eq (xe_blt .len b_len (by rfl) G.n_len (by decide +kernel) (xa_cons (xe_var 1) (xa_nil))) (xe_int) (by first | rfl | with_unfolding_all rfl))
    (xs_one (xs_ret (xe_tup (xa_cons (xe_ix (xe_ix (xe_var 0) (xe_int) (fun _ _ => rfl)) (xe_int) (fun _ _ => rfl)) (xa_cons (xe_tup (xa_nil)) (xa_nil)))))) xs_nil)
    (xs_one (xs_ret (xe_tup (xa_cons (xe_ix (xe_ix (xe_var 1) (xe_int) (fun _ _ => rfl)) (xe_int) (fun _ _ => rfl)) (xa_cons (xe_bty .tuple_ b_tuple (by rfl) G.n_tuple (by decide +kernel) (xa_cons (xe_var 2) (xa_nil))) (xa_nil)))))))))
/-! 41: _law_some_sights -/
theorem d_41 (A : Al P w K mg base n) (G : Gs K mg) (fa : Addr) (cdv : Value) (Ar : Around) (outer : List PySem.Env) (s : Shared) (H : Hp) (E : XK) (hr : Room n (Ar.deeper (PyProof.Rows.envOfC "_law_some_sights" (defScope s_41) s.heap.objs.size fa cdv))) :
    PSs (cxOf CX0 P w K mg base N_41 "_law_some_sights" (defScope s_41) fa cdv Ar outer s H E).nox (defBody s_41) (trS K (run T n) b_some_sights) :=
  (xs_one (xs_ret (xe_call A.f39 hr (by rfl) (xa_cons (xe_var 0) (xa_cons (xe_var 1) (xa_cons (xe_bin .mul (xe_lst (xa_cons (xe_var 0) (xa_nil))) (xe_call A.f18 hr (by rfl) (xa_cons (xe_var 0) (xa_cons (xe_bin .add (xe_var 2) (xe_int)) (xa_nil))))) (xa_nil)))))))
/-! 48: law -/
theorem d_48 (A : Al P w K mg base n) (G : Gs K mg) (fa : Addr) (cdv : Value) (Ar : Around) (outer : List PySem.Env) (s : Shared) (H : Hp) (E : XK) (hr : Room n (Ar.deeper (PyProof.Rows.envOfC "law" (defScope s_48) s.heap.objs.size fa cdv))) :
    PSs (cxOf CX0 P w K mg base N_48 "law" (defScope s_48) fa cdv Ar outer s H E).nox (defBody s_48) (trS K (run T n) b_law_k12) :=
  (xs_cons (xs_for PassesOwn.never rfl (xi_seq (xe_bin .add (xe_lst (xa_cons (xe_bin .add (xe_bin .pow (xe_int) (xe_int)) (xe_int)) (xa_nil))) (xe_sl (xe_var 0) xo_none (xo_some (xe_int))))) (xg_name 1 sc_48.nd)
    (xs_cons (xs_set 2 sc_48.nd (xe_call A.f17 hr (by rfl) (xa_cons (xe_var 1) (xa_nil))))
    (xs_cons (xs_set 3 sc_48.nd (xe_lst (xa_nil)))
    (xs_cons (xs_for PassesOwn.never rfl (xi_range1 (by rfl) G.n_range (xa_cons (xe_int) (xa_nil))) (xg_name 4 sc_48.nd)
    (xs_cons (xs_set 5 sc_48.nd (xe_call A.f20 hr (by rfl) (xa_cons (xe_var 2) (xa_nil))))
    (xs_cons (xs_set 6 sc_48.nd (xe_call A.f41 hr (by rfl) (xa_cons (xe_var 2) (xa_cons (xe_var 5) (xa_cons (xe_ix (xe_lst (xa_cons (xe_int) (xa_cons (xe_int) (xa_cons (xe_int) (xa_cons (xe_int) (xa_cons (xe_int) (xa_cons (xe_int) (xa_cons (xe_int) (xa_cons (xe_int) (xa_nil)))))))))) (xe_call A.f18 hr (by rfl) (xa_cons (xe_var 2) (xa_cons (xe_int) (xa_nil)))) (fun _ _ => rfl)) (xa_nil))))))
    (xs_one (xs_drop (xe_append (xe_var 3) (xa_cons (xe_tup (xa_cons (xe_var 5) (xa_cons (xe_var 6) (xa_nil)))) (xa_nil))))))))
    (xs_one (xs_for PassesOwn.never rfl (xi_seq (xe_bin .add (xe_var 3) (xe_sl (xe_var 3) xo_none (xo_some (xe_int))))) (xg_tup rfl (xgs_cons (xg_name 5 sc_48.nd) (xgs_cons (xg_name 7 sc_48.nd) xgs_nil)))
    (xs_cons (xs_set 8 sc_48.nd (xe_call A.f44 hr (by rfl) (xa_cons (xe_var 5) (xa_cons (xe_var 7) (xa_nil)))))
    (xs_one (xs_if (xt_cmp .isnot (xe_call A.f40 hr (by rfl) (xa_cons (xe_var 5) (xa_cons (xe_var 7) (xa_nil)))) (xe_non) (by first | rfl | with_unfolding_all rfl))
    (xs_one (xs_if ((xw_or (xt_cmp .isnot (xe_var 8) (xe_non) (by first | rfl | with_unfolding_all rfl)) (xw_or1 (xt_cmp .isnot (xe_callK0 A.f44 ["looks", "zone"] [1, 0] (fun _ _ _ _ _ _ ws h => match ws, h with | [_, _], _ => rfl) rfl hr (by rfl) (xk_cons (xe_var 7) (xk_cons (xe_var 5) xk_nil))) (xe_non) (by first | rfl | with_unfolding_all rfl))))).pt
    (xs_one (xs_ret (xe_bl))) xs_nil)) (xs_cons (xs_if ((xw_or (xt_not (xt_truth (xe_call A.f25 hr (by rfl) (xa_cons (xe_var 8) (xa_cons (xe_call A.f47 hr (by rfl) (xa_cons (xe_var 5) (xa_cons (xe_var 7) (xa_nil)))) (xa_nil)))) (fun _ => rfl))) (xw_or1 (xt_not (xt_truth (xe_call A.f46 hr (by rfl) (xa_cons (xe_var 5) (xa_cons (xe_var 8) (xa_nil)))) (fun _ => rfl)))))).pt
    (xs_one (xs_ret (xe_bl))) xs_nil)
    (xs_cons (xs_if (xt_not (xt_truth (xe_blt .all_ (b_all rfl) (by rfl) G.n_all (by decide +kernel) (xa_cons (xe_lc (own := [("_law_hour", 9), ("_law_shift", 10)]) rfl sc_48.nd (xi_seq (xe_var 7)) N_48 (defScope s_48) (by decide +kernel) (fun _ _ _ _ _ => (xg_tup rfl (xgs_cons (xg_name 9 sc_48.nd) (xgs_cons (xg_name 10 sc_48.nd) xgs_nil)))) (fun _ _ _ _ _ => xts_nil) (fun _ _ _ _ _ => (xe_cmp .eq (xe_call A.f22 hr (by rfl) (xa_cons (xe_var 8) (xa_cons (xe_var 9) (xa_nil)))) (xe_var 10) (by first | rfl | with_unfolding_all rfl)))) (xa_nil))) (fun _ => rfl)))
    (xs_one (xs_ret (xe_bl))) xs_nil)
    (xs_one (xs_if (xt_not (xt_truth (xe_call A.f25 hr (by rfl) (xa_cons (xe_callK0 A.f44 ["looks", "zone"] [1, 0] (fun _ _ _ _ _ _ ws h => match ws, h with | [_, _], _ => rfl) rfl hr (by rfl) (xk_cons (xe_var 7) (xk_cons (xe_var 5) xk_nil))) (xa_cons (xe_var 8) (xa_nil)))) (fun _ => rfl)))
    (xs_one (xs_ret (xe_bl))) xs_nil)))))))))))))
    (xs_one (xs_ret (xe_bl))))
end

end Lw
namespace Lw
open PySem L2 Ix
/-! ### draws -/
theorem draw_ok {n p : Nat} {S : Hd} {u : Int} (hS : Pot p S) (hu : 0 < u) (hb : u < 2 ^ 64) :
    M (run T (n + 1) 18 [.ref p, .int u] S) fun r => ∃ z S', r = (.int z, S') ∧ 0 ≤ z ∧ z < u ∧ Pot p S' ∧ Le p S S' := by
  obtain ⟨q, hq⟩ := hS
  have hp := lt_of_get hq
  refine run_M T_draw rfl ?_
  show M (ex (run T n) b_draw [some (.ref p), some (.int u), none] S) _
  unfold b_draw
  simp only [ex, ev, M_bind, M_map, M_some, M_ite, t_eq, a_tup, al_eq, List.getElem?_cons_zero, List.getElem?_cons_succ, Option.bind_some, Option.map_some, q_add, q_sub, q_lt, q_le, q_gt, q_ge, q_eqI, q_neI, q_eqB, q_neB, q_isN, q_notN, isNon, q_ixT, q_ixR, atI_0, atI_1, atI_2, atI_3, atI_4, atI_5, atI_6, atI_7, q_slT, q_slR, q_revT, q_seqT, q_int, q_intB, q_max, q_min, q_abs, q_tupT, n_tup, n_int, n_bl, n_non, n_str, isi_ii, isi_ib, isi_tt, isi_itl, isi_btl, isi_ttl, isi_tl, isi_bb, u_bl, u_int, u_non, u_tup, g_name, g_tup, g_nil, g_cons, o_ret, o_nx, i_seq, List.set_cons_zero, List.set_cons_succ, decide_eq_true_eq, Bool.not_eq_true', decide_eq_false_iff_not, evP, Bool.false_eq_true, if_true, if_false, ite_true, ite_false, reduceIte, Bool.not_true, Bool.not_false, Option.some.injEq, q_pow10, Int.reduceToNat, Int.reducePow, Int.reduceAdd, Int.reduceSub, Int.reduceMul, Int.reduceNeg, Int.reduceLT, Int.reduceLE, Nat.reducePow, Nat.reduceLT, Nat.reduceLeDiff, Nat.reduceAdd, List.length_cons, List.length_nil, Int.neg_neg, q_ixL hq, q_mod hu, q_fdiv hu hb, q_set hq (show ixN (1 : Nat) 0 = some 0 from rfl)]
  exact ⟨_, _, rfl, Int.emod_nonneg _ (by omega), Int.emod_lt_of_pos _ hu, ⟨_, List.getElem?_set_self hp⟩, Le.set _ _ _⟩
theorem digits_ok {n : Nat} {S : Hd} (c : Int) :
    M (run T (n + 1) 17 [.int c] S) fun r => ∃ p S', r = (.ref p, S') ∧ p = S.length ∧ Pot p S' ∧ Lq S S' := by
  refine run_M T_digits rfl ?_
  show M (ex (run T n) b_digits [some (.int c), none, none, none] S) _
  unfold b_digits
  refine seq_Mx ?_
  simp only [ex, ev, M_bind, M_map, M_some, M_ite, t_eq, a_tup, al_eq, List.getElem?_cons_zero, List.getElem?_cons_succ, Option.bind_some, Option.map_some, q_add, q_sub, q_lt, q_le, q_gt, q_ge, q_eqI, q_neI, q_eqB, q_neB, q_isN, q_notN, isNon, q_ixT, q_ixR, atI_0, atI_1, atI_2, atI_3, atI_4, atI_5, atI_6, atI_7, q_slT, q_slR, q_revT, q_seqT, q_int, q_intB, q_max, q_min, q_abs, q_tupT, n_tup, n_int, n_bl, n_non, n_str, isi_ii, isi_ib, isi_tt, isi_itl, isi_btl, isi_ttl, isi_tl, isi_bb, u_bl, u_int, u_non, u_tup, g_name, g_tup, g_nil, g_cons, o_ret, o_nx, i_seq, List.set_cons_zero, List.set_cons_succ, decide_eq_true_eq, Bool.not_eq_true', decide_eq_false_iff_not, evP, Bool.false_eq_true, if_true, if_false, ite_true, ite_false, reduceIte, Bool.not_true, Bool.not_false, Option.some.injEq, q_pow10, Int.reduceToNat, Int.reducePow, Int.reduceAdd, Int.reduceSub, Int.reduceMul, Int.reduceNeg, Int.reduceLT, Int.reduceLE, Nat.reducePow, Nat.reduceLT, Nat.reduceLeDiff, Nat.reduceAdd, List.length_cons, List.length_nil, Int.neg_neg]
  by_cases h : 1000000000000000000 ≤ c
  · simp only [if_pos h, show (1 : Nat) ≤ most by decide, ex, ev, M_bind, M_map, M_some, M_ite, t_eq, a_tup, al_eq, List.getElem?_cons_zero, List.getElem?_cons_succ, Option.bind_some, Option.map_some, q_add, q_sub, q_lt, q_le, q_gt, q_ge, q_eqI, q_neI, q_eqB, q_neB, q_isN, q_notN, isNon, q_ixT, q_ixR, atI_0, atI_1, atI_2, atI_3, atI_4, atI_5, atI_6, atI_7, q_slT, q_slR, q_revT, q_seqT, q_int, q_intB, q_max, q_min, q_abs, q_tupT, n_tup, n_int, n_bl, n_non, n_str, isi_ii, isi_ib, isi_tt, isi_itl, isi_btl, isi_ttl, isi_tl, isi_bb, u_bl, u_int, u_non, u_tup, g_name, g_tup, g_nil, g_cons, o_ret, o_nx, i_seq, List.set_cons_zero, List.set_cons_succ, decide_eq_true_eq, Bool.not_eq_true', decide_eq_false_iff_not, evP, Bool.false_eq_true, if_true, if_false, ite_true, ite_false, reduceIte, Bool.not_true, Bool.not_false, Option.some.injEq, q_pow10, Int.reduceToNat, Int.reducePow, Int.reduceAdd, Int.reduceSub, Int.reduceMul, Int.reduceNeg, Int.reduceLT, Int.reduceLE, Nat.reducePow, Nat.reduceLT, Nat.reduceLeDiff, Nat.reduceAdd, List.length_cons, List.length_nil, Int.neg_neg, Nat.zero_add]
    exact ⟨_, _, rfl, rfl, ⟨_, get_new⟩, Lq.app _ _⟩
  · simp only [if_neg h]
    simp only [ex, ev, M_bind, M_map, M_some, M_ite, t_eq, a_tup, al_eq, List.getElem?_cons_zero, List.getElem?_cons_succ, Option.bind_some, Option.map_some, q_add, q_sub, q_lt, q_le, q_gt, q_ge, q_eqI, q_neI, q_eqB, q_neB, q_isN, q_notN, isNon, q_ixT, q_ixR, atI_0, atI_1, atI_2, atI_3, atI_4, atI_5, atI_6, atI_7, q_slT, q_slR, q_revT, q_seqT, q_int, q_intB, q_max, q_min, q_abs, q_tupT, n_tup, n_int, n_bl, n_non, n_str, isi_ii, isi_ib, isi_tt, isi_itl, isi_btl, isi_ttl, isi_tl, isi_bb, u_bl, u_int, u_non, u_tup, g_name, g_tup, g_nil, g_cons, o_ret, o_nx, i_seq, List.set_cons_zero, List.set_cons_succ, decide_eq_true_eq, Bool.not_eq_true', decide_eq_false_iff_not, evP, Bool.false_eq_true, if_true, if_false, ite_true, ite_false, reduceIte, Bool.not_true, Bool.not_false, Option.some.injEq, q_pow10, Int.reduceToNat, Int.reducePow, Int.reduceAdd, Int.reduceSub, Int.reduceMul, Int.reduceNeg, Int.reduceLT, Int.reduceLE, Nat.reducePow, Nat.reduceLT, Nat.reduceLeDiff, Nat.reduceAdd, List.length_cons, List.length_nil, Int.neg_neg, q_mod (show (0 : Int) < 100000000000000000000000000000000000133 by decide), i_rng (i := 19) (by decide) (by decide)]
    refine M_loopS (m := 0) (fun i env S1 => S1 = S ∧ ∃ mx fl v, env = [some (.int c), some (.int mx), some (.int fl), v] ∧ 0 ≤ mx ∧ mx < 10 ^ 41 + 9 ∧ fl.natAbs < 2 ^ (200 * i + 200) ∧ i ≤ 19) ?_ ?_ ?_
    · refine ⟨rfl, _, _, _, rfl, ?_, ?_, by decide, by decide⟩
      · have := Int.emod_nonneg c (b := 100000000000000000000000000000000000133) (by decide)
        omega
      · have := Int.emod_lt_of_pos c (b := 100000000000000000000000000000000000133) (by decide)
        omega
    · rintro i d env S1 hi ⟨rfl, mx, fl, v, rfl, h0, h1, h2, h3⟩
      rw [Nat.zero_add] at h2 h3
      obtain ⟨hm, rfl⟩ := rng_get hi
      clear hi
      have bm : mx.natAbs.log2 < 137 := log2_le 137 (by omega) (by decide)
      have bf : fl.natAbs.log2 < 200 * i + 200 := log2_le _ h2 (by omega)
      have b1 : (31415926535 : Int).natAbs.log2 = 34 := by decide
      have b2 : (271829 : Int).natAbs.log2 = 18 := by decide
      have b3 : ((0 : Int) + (i : Int)).natAbs.log2 < 5 := log2_le 5 (by omega) (by decide)
      have b4 : ((100000000000000000000000000000000000000000 : Int)).natAbs.log2 = 136 := by decide
      simp only [ex, ev, M_bind, M_map, M_some, M_ite, t_eq, a_tup, al_eq, List.getElem?_cons_zero, List.getElem?_cons_succ, Option.bind_some, Option.map_some, q_add, q_sub, q_lt, q_le, q_gt, q_ge, q_eqI, q_neI, q_eqB, q_neB, q_isN, q_notN, isNon, q_ixT, q_ixR, atI_0, atI_1, atI_2, atI_3, atI_4, atI_5, atI_6, atI_7, q_slT, q_slR, q_revT, q_seqT, q_int, q_intB, q_max, q_min, q_abs, q_tupT, n_tup, n_int, n_bl, n_non, n_str, isi_ii, isi_ib, isi_tt, isi_itl, isi_btl, isi_ttl, isi_tl, isi_bb, u_bl, u_int, u_non, u_tup, g_name, g_tup, g_nil, g_cons, o_ret, o_nx, i_seq, List.set_cons_zero, List.set_cons_succ, decide_eq_true_eq, Bool.not_eq_true', decide_eq_false_iff_not, evP, Bool.false_eq_true, if_true, if_false, ite_true, ite_false, reduceIte, Bool.not_true, Bool.not_false, Option.some.injEq, q_pow10, Int.reduceToNat, Int.reducePow, Int.reduceAdd, Int.reduceSub, Int.reduceMul, Int.reduceNeg, Int.reduceLT, Int.reduceLE, Nat.reducePow, Nat.reduceLT, Nat.reduceLeDiff, Nat.reduceAdd, List.length_cons, List.length_nil, Int.neg_neg, q_mulW (i := mx) (j := mx) (by omega), q_mulW (i := 31415926535) (j := mx) (by omega), q_mulW (i := 271829) (j := 0 + (i : Int)) (by omega), q_mod (show (0 : Int) < 100000000000000000000000000000000000000009 by decide), q_mulW (i := fl) (j := 100000000000000000000000000000000000000000) (by omega)]
      have e0 := Int.emod_nonneg (mx * mx + 31415926535 * mx + 271829 * (0 + (i : Int)) + 17) (b := 100000000000000000000000000000000000000009) (by decide)
      have e1 := Int.emod_lt_of_pos (mx * mx + 31415926535 * mx + 271829 * (0 + (i : Int)) + 17) (b := 100000000000000000000000000000000000000009) (by decide)
      generalize (mx * mx + 31415926535 * mx + 271829 * (0 + (i : Int)) + 17) % 100000000000000000000000000000000000000009 = my at e0 e1 ⊢
      by_cases hk : 2 < (0 : Int) + (i : Int)
      · simp only [if_pos hk]
        refine ⟨trivial, trivial, my, _, _, rfl, e0, by omega, ?_, by omega⟩
        have hb : (fl * 100000000000000000000000000000000000000000).natAbs < 2 ^ (200 * i + 200 + 137) := by
          rw [Int.natAbs_mul, Nat.pow_add]
          exact Nat.mul_lt_mul'' h2 (by decide)
        have h5 : (2 : Nat) ^ (200 * (0 + i + 1) + 200) = 2 ^ (200 * i + 200 + 137) * 2 ^ 63 := by
          rw [← Nat.pow_add]
          congr 1
          omega
        have h6 : (2 : Nat) ^ 137 ≤ 2 ^ (200 * i + 200 + 137) := Nat.pow_le_pow_right (by decide) (by omega)
        have h7 : my.natAbs < 2 ^ 137 := by omega
        have h8 := Int.natAbs_add_le (fl * 100000000000000000000000000000000000000000) my
        rw [h5]
        generalize (2 : Nat) ^ (200 * i + 200 + 137) = X at hb h6 ⊢
        generalize (fl * 100000000000000000000000000000000000000000).natAbs = Y at hb h8
        omega
      · simp only [if_neg hk]
        refine ⟨trivial, trivial, my, _, _, rfl, e0, by omega, ?_, by omega⟩
        exact Nat.lt_of_lt_of_le h2 (Nat.pow_le_pow_right (by decide) (by omega))
    · rintro env S1 ⟨rfl, mx, fl, v, rfl, _⟩
      simp only [ex, ev, M_bind, M_map, M_some, M_ite, t_eq, a_tup, al_eq, List.getElem?_cons_zero, List.getElem?_cons_succ, Option.bind_some, Option.map_some, q_add, q_sub, q_lt, q_le, q_gt, q_ge, q_eqI, q_neI, q_eqB, q_neB, q_isN, q_notN, isNon, q_ixT, q_ixR, atI_0, atI_1, atI_2, atI_3, atI_4, atI_5, atI_6, atI_7, q_slT, q_slR, q_revT, q_seqT, q_int, q_intB, q_max, q_min, q_abs, q_tupT, n_tup, n_int, n_bl, n_non, n_str, isi_ii, isi_ib, isi_tt, isi_itl, isi_btl, isi_ttl, isi_tl, isi_bb, u_bl, u_int, u_non, u_tup, g_name, g_tup, g_nil, g_cons, o_ret, o_nx, i_seq, List.set_cons_zero, List.set_cons_succ, decide_eq_true_eq, Bool.not_eq_true', decide_eq_false_iff_not, evP, Bool.false_eq_true, if_true, if_false, ite_true, ite_false, reduceIte, Bool.not_true, Bool.not_false, Option.some.injEq, q_pow10, Int.reduceToNat, Int.reducePow, Int.reduceAdd, Int.reduceSub, Int.reduceMul, Int.reduceNeg, Int.reduceLT, Int.reduceLE, Nat.reducePow, Nat.reduceLT, Nat.reduceLeDiff, Nat.reduceAdd, List.length_cons, List.length_nil, Int.neg_neg, show (1 : Nat) ≤ most by decide, Nat.zero_add]
      exact ⟨_, _, rfl, rfl, ⟨_, get_new⟩, Lq.app _ _⟩
theorem any_hour_ok {n p : Nat} {S : Hd} (hS : Pot p S) :
    M (run T (n + 2) 19 [.ref p] S) fun r => ∃ z S', r = (.int z, S') ∧ Pot p S' ∧ Le p S S' := by
  refine run_M T_any_hour rfl ?_
  show M (ex (run T (n + 1)) b_any_hour [some (.ref p), none] S) _
  unfold b_any_hour
  simp only [ex, ev, M_bind, M_map, M_some, M_ite, t_eq, a_tup, al_eq, List.getElem?_cons_zero, List.getElem?_cons_succ, Option.bind_some, Option.map_some, q_add, q_sub, q_lt, q_le, q_gt, q_ge, q_eqI, q_neI, q_eqB, q_neB, q_isN, q_notN, isNon, q_ixT, q_ixR, atI_0, atI_1, atI_2, atI_3, atI_4, atI_5, atI_6, atI_7, q_slT, q_slR, q_revT, q_seqT, q_int, q_intB, q_max, q_min, q_abs, q_tupT, n_tup, n_int, n_bl, n_non, n_str, isi_ii, isi_ib, isi_tt, isi_itl, isi_btl, isi_ttl, isi_tl, isi_bb, u_bl, u_int, u_non, u_tup, g_name, g_tup, g_nil, g_cons, o_ret, o_nx, i_seq, List.set_cons_zero, List.set_cons_succ, decide_eq_true_eq, Bool.not_eq_true', decide_eq_false_iff_not, evP, Bool.false_eq_true, if_true, if_false, ite_true, ite_false, reduceIte, Bool.not_true, Bool.not_false, Option.some.injEq, q_pow10, Int.reduceToNat, Int.reducePow, Int.reduceAdd, Int.reduceSub, Int.reduceMul, Int.reduceNeg, Int.reduceLT, Int.reduceLE, Nat.reducePow, Nat.reduceLT, Nat.reduceLeDiff, Nat.reduceAdd, List.length_cons, List.length_nil, Int.neg_neg]
  refine (draw_ok hS (by decide) (by decide)).imp ?_
  rintro _ ⟨z, S1, rfl, h0, h1, p1, l1⟩
  simp only [ex, ev, M_bind, M_map, M_some, M_ite, t_eq, a_tup, al_eq, List.getElem?_cons_zero, List.getElem?_cons_succ, Option.bind_some, Option.map_some, q_add, q_sub, q_lt, q_le, q_gt, q_ge, q_eqI, q_neI, q_eqB, q_neB, q_isN, q_notN, isNon, q_ixT, q_ixR, atI_0, atI_1, atI_2, atI_3, atI_4, atI_5, atI_6, atI_7, q_slT, q_slR, q_revT, q_seqT, q_int, q_intB, q_max, q_min, q_abs, q_tupT, n_tup, n_int, n_bl, n_non, n_str, isi_ii, isi_ib, isi_tt, isi_itl, isi_btl, isi_ttl, isi_tl, isi_bb, u_bl, u_int, u_non, u_tup, g_name, g_tup, g_nil, g_cons, o_ret, o_nx, i_seq, List.set_cons_zero, List.set_cons_succ, decide_eq_true_eq, Bool.not_eq_true', decide_eq_false_iff_not, evP, Bool.false_eq_true, if_true, if_false, ite_true, ite_false, reduceIte, Bool.not_true, Bool.not_false, Option.some.injEq, q_pow10, Int.reduceToNat, Int.reducePow, Int.reduceAdd, Int.reduceSub, Int.reduceMul, Int.reduceNeg, Int.reduceLT, Int.reduceLE, Nat.reducePow, Nat.reduceLT, Nat.reduceLeDiff, Nat.reduceAdd, List.length_cons, List.length_nil, Int.neg_neg]
  by_cases c1 : z < 2
  · simp only [if_pos c1]
    refine (draw_ok p1 (by decide) (by decide)).imp ?_
    rintro _ ⟨y, S2, rfl, g0, g1, p2, l2⟩
    simp only [ex, ev, M_bind, M_map, M_some, M_ite, t_eq, a_tup, al_eq, List.getElem?_cons_zero, List.getElem?_cons_succ, Option.bind_some, Option.map_some, q_add, q_sub, q_lt, q_le, q_gt, q_ge, q_eqI, q_neI, q_eqB, q_neB, q_isN, q_notN, isNon, q_ixT, q_ixR, atI_0, atI_1, atI_2, atI_3, atI_4, atI_5, atI_6, atI_7, q_slT, q_slR, q_revT, q_seqT, q_int, q_intB, q_max, q_min, q_abs, q_tupT, n_tup, n_int, n_bl, n_non, n_str, isi_ii, isi_ib, isi_tt, isi_itl, isi_btl, isi_ttl, isi_tl, isi_bb, u_bl, u_int, u_non, u_tup, g_name, g_tup, g_nil, g_cons, o_ret, o_nx, i_seq, List.set_cons_zero, List.set_cons_succ, decide_eq_true_eq, Bool.not_eq_true', decide_eq_false_iff_not, evP, Bool.false_eq_true, if_true, if_false, ite_true, ite_false, reduceIte, Bool.not_true, Bool.not_false, Option.some.injEq, q_pow10, Int.reduceToNat, Int.reducePow, Int.reduceAdd, Int.reduceSub, Int.reduceMul, Int.reduceNeg, Int.reduceLT, Int.reduceLE, Nat.reducePow, Nat.reduceLT, Nat.reduceLeDiff, Nat.reduceAdd, List.length_cons, List.length_nil, Int.neg_neg]
    exact ⟨_, _, rfl, p2, l1.trans l2⟩
  · simp only [if_neg c1]
    by_cases c2 : z = 2
    · simp only [if_pos c2, ex, ev, M_bind, M_map, M_some, M_ite, t_eq, a_tup, al_eq, List.getElem?_cons_zero, List.getElem?_cons_succ, Option.bind_some, Option.map_some, q_add, q_sub, q_lt, q_le, q_gt, q_ge, q_eqI, q_neI, q_eqB, q_neB, q_isN, q_notN, isNon, q_ixT, q_ixR, atI_0, atI_1, atI_2, atI_3, atI_4, atI_5, atI_6, atI_7, q_slT, q_slR, q_revT, q_seqT, q_int, q_intB, q_max, q_min, q_abs, q_tupT, n_tup, n_int, n_bl, n_non, n_str, isi_ii, isi_ib, isi_tt, isi_itl, isi_btl, isi_ttl, isi_tl, isi_bb, u_bl, u_int, u_non, u_tup, g_name, g_tup, g_nil, g_cons, o_ret, o_nx, i_seq, List.set_cons_zero, List.set_cons_succ, decide_eq_true_eq, Bool.not_eq_true', decide_eq_false_iff_not, evP, Bool.false_eq_true, if_true, if_false, ite_true, ite_false, reduceIte, Bool.not_true, Bool.not_false, Option.some.injEq, q_pow10, Int.reduceToNat, Int.reducePow, Int.reduceAdd, Int.reduceSub, Int.reduceMul, Int.reduceNeg, Int.reduceLT, Int.reduceLE, Nat.reducePow, Nat.reduceLT, Nat.reduceLeDiff, Nat.reduceAdd, List.length_cons, List.length_nil, Int.neg_neg, q_mul (i := 18) (j := 100000000000) (by decide) (by decide) (by decide) (by decide)]
      refine (draw_ok p1 (by decide) (by decide)).imp ?_
      rintro _ ⟨y, S2, rfl, g0, g1, p2, l2⟩
      simp only [ex, ev, M_bind, M_map, M_some, M_ite, t_eq, a_tup, al_eq, List.getElem?_cons_zero, List.getElem?_cons_succ, Option.bind_some, Option.map_some, q_add, q_sub, q_lt, q_le, q_gt, q_ge, q_eqI, q_neI, q_eqB, q_neB, q_isN, q_notN, isNon, q_ixT, q_ixR, atI_0, atI_1, atI_2, atI_3, atI_4, atI_5, atI_6, atI_7, q_slT, q_slR, q_revT, q_seqT, q_int, q_intB, q_max, q_min, q_abs, q_tupT, n_tup, n_int, n_bl, n_non, n_str, isi_ii, isi_ib, isi_tt, isi_itl, isi_btl, isi_ttl, isi_tl, isi_bb, u_bl, u_int, u_non, u_tup, g_name, g_tup, g_nil, g_cons, o_ret, o_nx, i_seq, List.set_cons_zero, List.set_cons_succ, decide_eq_true_eq, Bool.not_eq_true', decide_eq_false_iff_not, evP, Bool.false_eq_true, if_true, if_false, ite_true, ite_false, reduceIte, Bool.not_true, Bool.not_false, Option.some.injEq, q_pow10, Int.reduceToNat, Int.reducePow, Int.reduceAdd, Int.reduceSub, Int.reduceMul, Int.reduceNeg, Int.reduceLT, Int.reduceLE, Nat.reducePow, Nat.reduceLT, Nat.reduceLeDiff, Nat.reduceAdd, List.length_cons, List.length_nil, Int.neg_neg, q_mul (i := 9) (j := 100000000000) (by decide) (by decide) (by decide) (by decide)]
      exact ⟨_, _, rfl, p2, l1.trans l2⟩
    · simp only [if_neg c2, ex, ev, M_bind, M_map, M_some, M_ite, t_eq, a_tup, al_eq, List.getElem?_cons_zero, List.getElem?_cons_succ, Option.bind_some, Option.map_some, q_add, q_sub, q_lt, q_le, q_gt, q_ge, q_eqI, q_neI, q_eqB, q_neB, q_isN, q_notN, isNon, q_ixT, q_ixR, atI_0, atI_1, atI_2, atI_3, atI_4, atI_5, atI_6, atI_7, q_slT, q_slR, q_revT, q_seqT, q_int, q_intB, q_max, q_min, q_abs, q_tupT, n_tup, n_int, n_bl, n_non, n_str, isi_ii, isi_ib, isi_tt, isi_itl, isi_btl, isi_ttl, isi_tl, isi_bb, u_bl, u_int, u_non, u_tup, g_name, g_tup, g_nil, g_cons, o_ret, o_nx, i_seq, List.set_cons_zero, List.set_cons_succ, decide_eq_true_eq, Bool.not_eq_true', decide_eq_false_iff_not, evP, Bool.false_eq_true, if_true, if_false, ite_true, ite_false, reduceIte, Bool.not_true, Bool.not_false, Option.some.injEq, q_pow10, Int.reduceToNat, Int.reducePow, Int.reduceAdd, Int.reduceSub, Int.reduceMul, Int.reduceNeg, Int.reduceLT, Int.reduceLE, Nat.reducePow, Nat.reduceLT, Nat.reduceLeDiff, Nat.reduceAdd, List.length_cons, List.length_nil, Int.neg_neg, q_mul (i := 2) (j := 100000000) (by decide) (by decide) (by decide) (by decide), show (7 : Nat) ≤ most by decide, Nat.zero_add]
      refine (draw_ok (p1.app _) (by decide) (by decide)).imp ?_
      rintro _ ⟨y, S2, rfl, g0, g1, p2, l2⟩
      obtain ⟨v, _, _, hv⟩ := atI_ints (ns := [0, 1, -1, 1440, -525600, 999799999999, -999999999999]) g0 g1
      have hg := l2.at p1.ne get_new
      simp only [ex, ev, M_bind, M_map, M_some, M_ite, t_eq, a_tup, al_eq, List.getElem?_cons_zero, List.getElem?_cons_succ, Option.bind_some, Option.map_some, q_add, q_sub, q_lt, q_le, q_gt, q_ge, q_eqI, q_neI, q_eqB, q_neB, q_isN, q_notN, isNon, q_ixT, q_ixR, atI_0, atI_1, atI_2, atI_3, atI_4, atI_5, atI_6, atI_7, q_slT, q_slR, q_revT, q_seqT, q_int, q_intB, q_max, q_min, q_abs, q_tupT, n_tup, n_int, n_bl, n_non, n_str, isi_ii, isi_ib, isi_tt, isi_itl, isi_btl, isi_ttl, isi_tl, isi_bb, u_bl, u_int, u_non, u_tup, g_name, g_tup, g_nil, g_cons, o_ret, o_nx, i_seq, List.set_cons_zero, List.set_cons_succ, decide_eq_true_eq, Bool.not_eq_true', decide_eq_false_iff_not, evP, Bool.false_eq_true, if_true, if_false, ite_true, ite_false, reduceIte, Bool.not_true, Bool.not_false, Option.some.injEq, q_pow10, Int.reduceToNat, Int.reducePow, Int.reduceAdd, Int.reduceSub, Int.reduceMul, Int.reduceNeg, Int.reduceLT, Int.reduceLE, Nat.reducePow, Nat.reduceLT, Nat.reduceLeDiff, Nat.reduceAdd, List.length_cons, List.length_nil, Int.neg_neg, q_ixL hg]
      simp only [List.map] at hv
      simp only [hv, ex, ev, M_bind, M_map, M_some, M_ite, t_eq, a_tup, al_eq, List.getElem?_cons_zero, List.getElem?_cons_succ, Option.bind_some, Option.map_some, q_add, q_sub, q_lt, q_le, q_gt, q_ge, q_eqI, q_neI, q_eqB, q_neB, q_isN, q_notN, isNon, q_ixT, q_ixR, atI_0, atI_1, atI_2, atI_3, atI_4, atI_5, atI_6, atI_7, q_slT, q_slR, q_revT, q_seqT, q_int, q_intB, q_max, q_min, q_abs, q_tupT, n_tup, n_int, n_bl, n_non, n_str, isi_ii, isi_ib, isi_tt, isi_itl, isi_btl, isi_ttl, isi_tl, isi_bb, u_bl, u_int, u_non, u_tup, g_name, g_tup, g_nil, g_cons, o_ret, o_nx, i_seq, List.set_cons_zero, List.set_cons_succ, decide_eq_true_eq, Bool.not_eq_true', decide_eq_false_iff_not, evP, Bool.false_eq_true, if_true, if_false, ite_true, ite_false, reduceIte, Bool.not_true, Bool.not_false, Option.some.injEq, q_pow10, Int.reduceToNat, Int.reducePow, Int.reduceAdd, Int.reduceSub, Int.reduceMul, Int.reduceNeg, Int.reduceLT, Int.reduceLE, Nat.reducePow, Nat.reduceLT, Nat.reduceLeDiff, Nat.reduceAdd, List.length_cons, List.length_nil, Int.neg_neg]
      exact ⟨_, _, rfl, p2, (l1.trans (Le.app _ _ _)).trans l2⟩
end Lw

namespace Lw
open PySem L2 Ix
/-! ### zones -/
def zoneD (os : List Int) (sp : Int) : D := .tup [.tup (os.map .int), .int sp]
structure Zone (os : List Int) (sp : Int) : Prop where
  len1 : 1 ≤ os.length
  len3 : os.length ≤ 3
  asc : os.Pairwise (· < ·)
  lo : ∀ x ∈ os, -900 ≤ x
  hi : ∀ x ∈ os, x ≤ 900
  gap : ∀ x ∈ os, ∀ y ∈ os, y - x < sp
  top : sp ≤ 1000000
theorem ends {os : List Int} (h1 : 1 ≤ os.length) (h3 : os.length ≤ 3) (ha : os.Pairwise (· < ·)) :
    ∃ a b, a ∈ os ∧ b ∈ os ∧ atI (os.map D.int) 0 = some (.int a) ∧ atI (os.map D.int) (-1) = some (.int b) ∧ ∀ x ∈ os, a ≤ x ∧ x ≤ b := by
  match os, h1, h3, ha with
  | [x], _, _, _ => exact ⟨x, x, by simp, by simp, rfl, rfl, by simp⟩
  | [x, y], _, _, ha =>
    simp at ha
    exact ⟨x, y, by simp, by simp, rfl, rfl, by simp; omega⟩
  | [x, y, z], _, _, ha =>
    simp at ha
    exact ⟨x, z, by simp, by simp, rfl, rfl, by simp; omega⟩
/-- a tuple of ints, each put in the place of its item -/
theorem neg_map {n : Nat} {S : Hd} {os : List Int} {env : Sl} (hz : os.length ≤ 3) (h7 : env[7]? = some (some (.tup (os.map .int)))) (hl : env.length = 11) {Q : D × Hd → Prop}
    (hq : ∀ S2, Lq S S2 → Q (.tup ((os.reverse.map fun x => -x).map .int), S2)) :
    M (ev (run T n) (.blt .tuple_ (.cons (.lc .seq (.cons (.rev (.var 7)) .nil) (.name 8) (.c (.bl true)) (.neg (.var 8)) [8]) .nil)) env S) Q := by
  refine M_blt1 ?_
  have ms : (3 : Nat) < most := by decide
  refine M_lc (S1 := S) (ds := [.tup (os.map D.int).reverse]) (its := (os.map D.int).reverse) (fun i => .int (-((os.reverse)[i]?.getD 0))) (by decide) (by simp only [ev, h7, Option.bind_some, revD, argsOf, Option.map_some]) rfl (by simp; omega) (fun i d S2 hi l => ?_) (fun _ _ => rfl) fun j S2 hj hg l => ?_
  · rw [← List.map_reverse, List.getElem?_map] at hi
    cases hx : os.reverse[i]? with
    | none => rw [hx] at hi; cases hi
    | some x =>
      rw [hx] at hi
      simp only [Option.map_some, Option.some.injEq] at hi
      subst hi
      refine ⟨_, rfl, ?_⟩
      simp only [ev, wipeD]
      rw [List.getElem?_set_self (by simp [hl])]
      simp only [Option.bind_some, M_some, Option.getD_some]
      exact ⟨trivial, Lq.refl _⟩
  · simp only [q_tupL hg, M_some]
    have e : (List.range (os.map D.int).reverse.length).map (fun i => D.int (-((os.reverse)[i]?.getD 0))) = ((os.reverse.map fun x => -x).map .int) := by
      apply List.ext_getElem?
      intro i
      simp only [List.getElem?_map, List.length_reverse, List.length_map]
      by_cases hi : i < os.length
      · rw [List.getElem?_range hi, List.getElem?_eq_getElem (by simpa using hi)]
        simp
        rw [List.getElem?_reverse hi, List.getElem?_eq_getElem (by omega)]
        rfl
      · rw [List.getElem?_eq_none (by simpa using hi), List.getElem?_eq_none (by simpa using hi)]
        rfl
    rw [e]
    exact hq S2 l
theorem make_region_ok {n p : Nat} {S : Hd} (hS : Pot p S) :
    M (run T (n + 2) 20 [.ref p] S) fun r => ∃ os sp S', r = (zoneD os sp, S') ∧ Zone os sp ∧ Pot p S' ∧ Le p S S' := by
  refine run_M T_make_region rfl ?_
  show M (ex (run T (n + 1)) b_make_region [some (.ref p), none, none, none, none, none, none, none, none, none, none] S) _
  unfold b_make_region
  refine seq_M (fun env S1 => ∃ k : Int, env = [some (.ref p), some (.int k), none, none, none, none, none, none, none, none, none] ∧ 0 ≤ k ∧ k < 6 ∧ Pot p S1 ∧ Le p S S1) ?_ ?_
  · simp only [ex, ev, M_bind, M_map, M_some, M_ite, t_eq, a_tup, al_eq, List.getElem?_cons_zero, List.getElem?_cons_succ, Option.bind_some, Option.map_some, q_add, q_sub, q_lt, q_le, q_gt, q_ge, q_eqI, q_neI, q_eqB, q_neB, q_isN, q_notN, isNon, q_ixT, q_ixR, atI_0, atI_1, atI_2, atI_3, atI_4, atI_5, atI_6, atI_7, q_slT, q_slR, q_revT, q_seqT, q_int, q_intB, q_max, q_min, q_abs, q_tupT, n_tup, n_int, n_bl, n_non, n_str, isi_ii, isi_ib, isi_tt, isi_itl, isi_btl, isi_ttl, isi_tl, isi_bb, u_bl, u_int, u_non, u_tup, g_name, g_tup, g_nil, g_cons, o_ret, o_nx, i_seq, List.set_cons_zero, List.set_cons_succ, decide_eq_true_eq, Bool.not_eq_true', decide_eq_false_iff_not, evP, Bool.false_eq_true, if_true, if_false, ite_true, ite_false, reduceIte, Bool.not_true, Bool.not_false, Option.some.injEq, q_pow10, Int.reduceToNat, Int.reducePow, Int.reduceAdd, Int.reduceSub, Int.reduceMul, Int.reduceNeg, Int.reduceLT, Int.reduceLE, Nat.reducePow, Nat.reduceLT, Nat.reduceLeDiff, Nat.reduceAdd, List.length_cons, List.length_nil, Int.neg_neg]
    refine (draw_ok hS (by decide) (by decide)).imp ?_
    rintro _ ⟨z, S1, rfl, h0, h1, p1, l1⟩
    exact ⟨trivial, z, rfl, h0, h1, p1, l1⟩
  rintro _ S1 ⟨k, rfl, k0, k1, p1, l1⟩
  refine seq_M (fun env S2 => S2 = S1 ∧ env = [some (.ref p), some (.int k), some (.int (-900)), none, none, none, none, none, none, none, none]) ?_ ?_
  · simp only [ex, ev, M_bind, M_map, M_some, M_ite, t_eq, a_tup, al_eq, List.getElem?_cons_zero, List.getElem?_cons_succ, Option.bind_some, Option.map_some, q_add, q_sub, q_lt, q_le, q_gt, q_ge, q_eqI, q_neI, q_eqB, q_neB, q_isN, q_notN, isNon, q_ixT, q_ixR, atI_0, atI_1, atI_2, atI_3, atI_4, atI_5, atI_6, atI_7, q_slT, q_slR, q_revT, q_seqT, q_int, q_intB, q_max, q_min, q_abs, q_tupT, n_tup, n_int, n_bl, n_non, n_str, isi_ii, isi_ib, isi_tt, isi_itl, isi_btl, isi_ttl, isi_tl, isi_bb, u_bl, u_int, u_non, u_tup, g_name, g_tup, g_nil, g_cons, o_ret, o_nx, i_seq, List.set_cons_zero, List.set_cons_succ, decide_eq_true_eq, Bool.not_eq_true', decide_eq_false_iff_not, evP, Bool.false_eq_true, if_true, if_false, ite_true, ite_false, reduceIte, Bool.not_true, Bool.not_false, Option.some.injEq, q_pow10, Int.reduceToNat, Int.reducePow, Int.reduceAdd, Int.reduceSub, Int.reduceMul, Int.reduceNeg, Int.reduceLT, Int.reduceLE, Nat.reducePow, Nat.reduceLT, Nat.reduceLeDiff, Nat.reduceAdd, List.length_cons, List.length_nil, Int.neg_neg]
    exact ⟨trivial, trivial, trivial⟩
  rintro _ _ ⟨rfl, rfl⟩
  refine seq_M (fun env S2 => ∃ low : Int, env = [some (.ref p), some (.int k), some (.int low), none, none, none, none, none, none, none, none] ∧ Pot p S2 ∧ Le p S S2 ∧
    (k < 2 → -3 ≤ low ∧ low ≤ 3) ∧ (k = 2 → -660 ≤ low ∧ low ≤ 660) ∧ (k = 4 → -900 ≤ low ∧ low ≤ 300) ∧ (k = 3 → low = -900) ∧ (k = 5 → low = -900)) ?_ ?_
  · simp only [ex, ev, M_bind, M_map, M_some, M_ite, t_eq, a_tup, al_eq, List.getElem?_cons_zero, List.getElem?_cons_succ, Option.bind_some, Option.map_some, q_add, q_sub, q_lt, q_le, q_gt, q_ge, q_eqI, q_neI, q_eqB, q_neB, q_isN, q_notN, isNon, q_ixT, q_ixR, atI_0, atI_1, atI_2, atI_3, atI_4, atI_5, atI_6, atI_7, q_slT, q_slR, q_revT, q_seqT, q_int, q_intB, q_max, q_min, q_abs, q_tupT, n_tup, n_int, n_bl, n_non, n_str, isi_ii, isi_ib, isi_tt, isi_itl, isi_btl, isi_ttl, isi_tl, isi_bb, u_bl, u_int, u_non, u_tup, g_name, g_tup, g_nil, g_cons, o_ret, o_nx, i_seq, List.set_cons_zero, List.set_cons_succ, decide_eq_true_eq, Bool.not_eq_true', decide_eq_false_iff_not, evP, Bool.false_eq_true, if_true, if_false, ite_true, ite_false, reduceIte, Bool.not_true, Bool.not_false, Option.some.injEq, q_pow10, Int.reduceToNat, Int.reducePow, Int.reduceAdd, Int.reduceSub, Int.reduceMul, Int.reduceNeg, Int.reduceLT, Int.reduceLE, Nat.reducePow, Nat.reduceLT, Nat.reduceLeDiff, Nat.reduceAdd, List.length_cons, List.length_nil, Int.neg_neg]
    by_cases c1 : k < 2
    · simp only [if_pos c1]
      refine (draw_ok p1 (by decide) (by decide)).imp ?_
      rintro _ ⟨z, S2, rfl, h0, h1, p2, l2⟩
      simp only [ex, ev, M_bind, M_map, M_some, M_ite, t_eq, a_tup, al_eq, List.getElem?_cons_zero, List.getElem?_cons_succ, Option.bind_some, Option.map_some, q_add, q_sub, q_lt, q_le, q_gt, q_ge, q_eqI, q_neI, q_eqB, q_neB, q_isN, q_notN, isNon, q_ixT, q_ixR, atI_0, atI_1, atI_2, atI_3, atI_4, atI_5, atI_6, atI_7, q_slT, q_slR, q_revT, q_seqT, q_int, q_intB, q_max, q_min, q_abs, q_tupT, n_tup, n_int, n_bl, n_non, n_str, isi_ii, isi_ib, isi_tt, isi_itl, isi_btl, isi_ttl, isi_tl, isi_bb, u_bl, u_int, u_non, u_tup, g_name, g_tup, g_nil, g_cons, o_ret, o_nx, i_seq, List.set_cons_zero, List.set_cons_succ, decide_eq_true_eq, Bool.not_eq_true', decide_eq_false_iff_not, evP, Bool.false_eq_true, if_true, if_false, ite_true, ite_false, reduceIte, Bool.not_true, Bool.not_false, Option.some.injEq, q_pow10, Int.reduceToNat, Int.reducePow, Int.reduceAdd, Int.reduceSub, Int.reduceMul, Int.reduceNeg, Int.reduceLT, Int.reduceLE, Nat.reducePow, Nat.reduceLT, Nat.reduceLeDiff, Nat.reduceAdd, List.length_cons, List.length_nil, Int.neg_neg]
      exact ⟨trivial, z - 3, rfl, p2, l1.trans l2, by omega, by omega, by omega, by omega, by omega⟩
    · simp only [if_neg c1]
      by_cases c2 : k = 2
      · simp only [if_pos c2]
        refine (draw_ok p1 (by decide) (by decide)).imp ?_
        rintro _ ⟨z, S2, rfl, h0, h1, p2, l2⟩
        simp only [ex, ev, M_bind, M_map, M_some, M_ite, t_eq, a_tup, al_eq, List.getElem?_cons_zero, List.getElem?_cons_succ, Option.bind_some, Option.map_some, q_add, q_sub, q_lt, q_le, q_gt, q_ge, q_eqI, q_neI, q_eqB, q_neB, q_isN, q_notN, isNon, q_ixT, q_ixR, atI_0, atI_1, atI_2, atI_3, atI_4, atI_5, atI_6, atI_7, q_slT, q_slR, q_revT, q_seqT, q_int, q_intB, q_max, q_min, q_abs, q_tupT, n_tup, n_int, n_bl, n_non, n_str, isi_ii, isi_ib, isi_tt, isi_itl, isi_btl, isi_ttl, isi_tl, isi_bb, u_bl, u_int, u_non, u_tup, g_name, g_tup, g_nil, g_cons, o_ret, o_nx, i_seq, List.set_cons_zero, List.set_cons_succ, decide_eq_true_eq, Bool.not_eq_true', decide_eq_false_iff_not, evP, Bool.false_eq_true, if_true, if_false, ite_true, ite_false, reduceIte, Bool.not_true, Bool.not_false, Option.some.injEq, q_pow10, Int.reduceToNat, Int.reducePow, Int.reduceAdd, Int.reduceSub, Int.reduceMul, Int.reduceNeg, Int.reduceLT, Int.reduceLE, Nat.reducePow, Nat.reduceLT, Nat.reduceLeDiff, Nat.reduceAdd, List.length_cons, List.length_nil, Int.neg_neg, q_mul (i := 30) (j := z - 22) (by decide) (by decide) (by omega) (by omega)]
        exact ⟨trivial, 30 * (z - 22), rfl, p2, l1.trans l2, by omega, by omega, by omega, by omega, by omega⟩
      · simp only [if_neg c2]
        by_cases c3 : k = 4
        · simp only [if_pos c3]
          refine (draw_ok p1 (by decide) (by decide)).imp ?_
          rintro _ ⟨z, S2, rfl, h0, h1, p2, l2⟩
          simp only [ex, ev, M_bind, M_map, M_some, M_ite, t_eq, a_tup, al_eq, List.getElem?_cons_zero, List.getElem?_cons_succ, Option.bind_some, Option.map_some, q_add, q_sub, q_lt, q_le, q_gt, q_ge, q_eqI, q_neI, q_eqB, q_neB, q_isN, q_notN, isNon, q_ixT, q_ixR, atI_0, atI_1, atI_2, atI_3, atI_4, atI_5, atI_6, atI_7, q_slT, q_slR, q_revT, q_seqT, q_int, q_intB, q_max, q_min, q_abs, q_tupT, n_tup, n_int, n_bl, n_non, n_str, isi_ii, isi_ib, isi_tt, isi_itl, isi_btl, isi_ttl, isi_tl, isi_bb, u_bl, u_int, u_non, u_tup, g_name, g_tup, g_nil, g_cons, o_ret, o_nx, i_seq, List.set_cons_zero, List.set_cons_succ, decide_eq_true_eq, Bool.not_eq_true', decide_eq_false_iff_not, evP, Bool.false_eq_true, if_true, if_false, ite_true, ite_false, reduceIte, Bool.not_true, Bool.not_false, Option.some.injEq, q_pow10, Int.reduceToNat, Int.reducePow, Int.reduceAdd, Int.reduceSub, Int.reduceMul, Int.reduceNeg, Int.reduceLT, Int.reduceLE, Nat.reducePow, Nat.reduceLT, Nat.reduceLeDiff, Nat.reduceAdd, List.length_cons, List.length_nil, Int.neg_neg]
          exact ⟨trivial, z - 900, rfl, p2, l1.trans l2, by omega, by omega, by omega, by omega, by omega⟩
        · simp only [if_neg c3]
          exact ⟨trivial, -900, rfl, p1, l1, by omega, by omega, by omega, by omega, by omega⟩
  rintro _ S2 ⟨low, rfl, p2, l2, f1, f2, f4, f3, f5⟩
  refine seq_M (fun env S3 => ∃ un wd : Int, env = [some (.ref p), some (.int k), some (.int low), some (.int un), some (.int wd), none, none, none, none, none, none] ∧ Pot p S3 ∧ Le p S S3 ∧
    1 ≤ un ∧ 1 ≤ wd ∧ un ≤ 900 ∧ wd ≤ 900 ∧ -900 ≤ low ∧ low + 2 * (un * wd) ≤ 900) ?_ ?_
  · simp only [ex, ev, M_bind, M_map, M_some, M_ite, t_eq, a_tup, al_eq, List.getElem?_cons_zero, List.getElem?_cons_succ, Option.bind_some, Option.map_some, q_add, q_sub, q_lt, q_le, q_gt, q_ge, q_eqI, q_neI, q_eqB, q_neB, q_isN, q_notN, isNon, q_ixT, q_ixR, atI_0, atI_1, atI_2, atI_3, atI_4, atI_5, atI_6, atI_7, q_slT, q_slR, q_revT, q_seqT, q_int, q_intB, q_max, q_min, q_abs, q_tupT, n_tup, n_int, n_bl, n_non, n_str, isi_ii, isi_ib, isi_tt, isi_itl, isi_btl, isi_ttl, isi_tl, isi_bb, u_bl, u_int, u_non, u_tup, g_name, g_tup, g_nil, g_cons, o_ret, o_nx, i_seq, List.set_cons_zero, List.set_cons_succ, decide_eq_true_eq, Bool.not_eq_true', decide_eq_false_iff_not, evP, Bool.false_eq_true, if_true, if_false, ite_true, ite_false, reduceIte, Bool.not_true, Bool.not_false, Option.some.injEq, q_pow10, Int.reduceToNat, Int.reducePow, Int.reduceAdd, Int.reduceSub, Int.reduceMul, Int.reduceNeg, Int.reduceLT, Int.reduceLE, Nat.reducePow, Nat.reduceLT, Nat.reduceLeDiff, Nat.reduceAdd, List.length_cons, List.length_nil, Int.neg_neg, show (2 : Nat) ≤ most by decide, show (6 : Nat) ≤ most by decide, q_ixL get_new]
    have hk : k = 0 ∨ k = 1 ∨ k = 2 ∨ k = 3 ∨ k = 4 ∨ k = 5 := by omega
    have go : ∀ un wd : Int, 1 ≤ un → 1 ≤ wd → un ≤ 900 → wd ≤ 900 → -900 ≤ low → low + 2 * (un * wd) ≤ 900 → ∃ un' wd' : Int, [some (D.ref p), some (D.int k), some (D.int low), some (D.int un), some (D.int wd), none, none, none, none, none, none] = [some (D.ref p), some (D.int k), some (D.int low), some (D.int un'), some (D.int wd'), none, none, none, none, none, none] ∧
        Pot p (S2 ++ [O.lst [D.tup [D.int 1, D.int 4], D.tup [D.int 1, D.int 4], D.tup [D.int 30, D.int 4], D.tup [D.int 1, D.int 900], D.tup [D.int 1, D.int 300], D.tup [D.int 900, D.int 1]]]) ∧
        Le p S (S2 ++ [O.lst [D.tup [D.int 1, D.int 4], D.tup [D.int 1, D.int 4], D.tup [D.int 30, D.int 4], D.tup [D.int 1, D.int 900], D.tup [D.int 1, D.int 300], D.tup [D.int 900, D.int 1]]]) ∧
        1 ≤ un' ∧ 1 ≤ wd' ∧ un' ≤ 900 ∧ wd' ≤ 900 ∧ -900 ≤ low ∧ low + 2 * (un' * wd') ≤ 900 := fun un wd a b c d e f => ⟨un, wd, rfl, p2.app _, l2.trans (Le.app _ _ _), a, b, c, d, e, f⟩
    rcases hk with rfl | rfl | rfl | rfl | rfl | rfl
    all_goals
      simp only [ex, ev, M_bind, M_map, M_some, M_ite, t_eq, a_tup, al_eq, List.getElem?_cons_zero, List.getElem?_cons_succ, Option.bind_some, Option.map_some, q_add, q_sub, q_lt, q_le, q_gt, q_ge, q_eqI, q_neI, q_eqB, q_neB, q_isN, q_notN, isNon, q_ixT, q_ixR, atI_0, atI_1, atI_2, atI_3, atI_4, atI_5, atI_6, atI_7, q_slT, q_slR, q_revT, q_seqT, q_int, q_intB, q_max, q_min, q_abs, q_tupT, n_tup, n_int, n_bl, n_non, n_str, isi_ii, isi_ib, isi_tt, isi_itl, isi_btl, isi_ttl, isi_tl, isi_bb, u_bl, u_int, u_non, u_tup, g_name, g_tup, g_nil, g_cons, o_ret, o_nx, i_seq, List.set_cons_zero, List.set_cons_succ, decide_eq_true_eq, Bool.not_eq_true', decide_eq_false_iff_not, evP, Bool.false_eq_true, if_true, if_false, ite_true, ite_false, reduceIte, Bool.not_true, Bool.not_false, Option.some.injEq, q_pow10, Int.reduceToNat, Int.reducePow, Int.reduceAdd, Int.reduceSub, Int.reduceMul, Int.reduceNeg, Int.reduceLT, Int.reduceLE, Nat.reducePow, Nat.reduceLT, Nat.reduceLeDiff, Nat.reduceAdd, List.length_cons, List.length_nil, Int.neg_neg]
      exact ⟨trivial, go _ _ (by decide) (by decide) (by decide) (by decide) (by omega) (by omega)⟩
  rintro _ S3 ⟨un, wd, rfl, p3, l3, u1, w1, u2, w2, lw, hw⟩
  have hm : un ≤ un * wd := by
    have := Int.mul_le_mul_of_nonneg_left (c := un) w1 (by omega)
    omega
  refine seq_M (fun env S4 => ∃ mid : Int, env = [some (.ref p), some (.int k), some (.int low), some (.int un), some (.int wd), some (.int mid), none, none, none, none, none] ∧ Pot p S4 ∧ Le p S S4 ∧ low < mid ∧ mid ≤ low + un * wd) ?_ ?_
  · simp only [ex, ev, M_bind, M_map, M_some, M_ite, t_eq, a_tup, al_eq, List.getElem?_cons_zero, List.getElem?_cons_succ, Option.bind_some, Option.map_some, q_add, q_sub, q_lt, q_le, q_gt, q_ge, q_eqI, q_neI, q_eqB, q_neB, q_isN, q_notN, isNon, q_ixT, q_ixR, atI_0, atI_1, atI_2, atI_3, atI_4, atI_5, atI_6, atI_7, q_slT, q_slR, q_revT, q_seqT, q_int, q_intB, q_max, q_min, q_abs, q_tupT, n_tup, n_int, n_bl, n_non, n_str, isi_ii, isi_ib, isi_tt, isi_itl, isi_btl, isi_ttl, isi_tl, isi_bb, u_bl, u_int, u_non, u_tup, g_name, g_tup, g_nil, g_cons, o_ret, o_nx, i_seq, List.set_cons_zero, List.set_cons_succ, decide_eq_true_eq, Bool.not_eq_true', decide_eq_false_iff_not, evP, Bool.false_eq_true, if_true, if_false, ite_true, ite_false, reduceIte, Bool.not_true, Bool.not_false, Option.some.injEq, q_pow10, Int.reduceToNat, Int.reducePow, Int.reduceAdd, Int.reduceSub, Int.reduceMul, Int.reduceNeg, Int.reduceLT, Int.reduceLE, Nat.reducePow, Nat.reduceLT, Nat.reduceLeDiff, Nat.reduceAdd, List.length_cons, List.length_nil, Int.neg_neg]
    refine (draw_ok p3 (by omega) (by omega)).imp ?_
    rintro _ ⟨z, S4, rfl, h0, h1, p4, l4⟩
    simp only [ex, ev, M_bind, M_map, M_some, M_ite, t_eq, a_tup, al_eq, List.getElem?_cons_zero, List.getElem?_cons_succ, Option.bind_some, Option.map_some, q_add, q_sub, q_lt, q_le, q_gt, q_ge, q_eqI, q_neI, q_eqB, q_neB, q_isN, q_notN, isNon, q_ixT, q_ixR, atI_0, atI_1, atI_2, atI_3, atI_4, atI_5, atI_6, atI_7, q_slT, q_slR, q_revT, q_seqT, q_int, q_intB, q_max, q_min, q_abs, q_tupT, n_tup, n_int, n_bl, n_non, n_str, isi_ii, isi_ib, isi_tt, isi_itl, isi_btl, isi_ttl, isi_tl, isi_bb, u_bl, u_int, u_non, u_tup, g_name, g_tup, g_nil, g_cons, o_ret, o_nx, i_seq, List.set_cons_zero, List.set_cons_succ, decide_eq_true_eq, Bool.not_eq_true', decide_eq_false_iff_not, evP, Bool.false_eq_true, if_true, if_false, ite_true, ite_false, reduceIte, Bool.not_true, Bool.not_false, Option.some.injEq, q_pow10, Int.reduceToNat, Int.reducePow, Int.reduceAdd, Int.reduceSub, Int.reduceMul, Int.reduceNeg, Int.reduceLT, Int.reduceLE, Nat.reducePow, Nat.reduceLT, Nat.reduceLeDiff, Nat.reduceAdd, List.length_cons, List.length_nil, Int.neg_neg, q_mul (i := un) (j := 1 + z) (by omega) (by omega) (by omega) (by omega)]
    have e1 : un * 1 ≤ un * (1 + z) := Int.mul_le_mul_of_nonneg_left (by omega) (by omega)
    have e2 : un * (1 + z) ≤ un * wd := Int.mul_le_mul_of_nonneg_left (by omega) (by omega)
    exact ⟨trivial, _, rfl, p4, l3.trans l4, by omega, by omega⟩
  rintro _ S4 ⟨mid, rfl, p4, l4, m1, m2⟩
  refine seq_M (fun env S5 => ∃ top : Int, env = [some (.ref p), some (.int k), some (.int low), some (.int un), some (.int wd), some (.int mid), some (.int top), none, none, none, none] ∧ Pot p S5 ∧ Le p S S5 ∧ mid < top ∧ top ≤ 900) ?_ ?_
  · simp only [ex, ev, M_bind, M_map, M_some, M_ite, t_eq, a_tup, al_eq, List.getElem?_cons_zero, List.getElem?_cons_succ, Option.bind_some, Option.map_some, q_add, q_sub, q_lt, q_le, q_gt, q_ge, q_eqI, q_neI, q_eqB, q_neB, q_isN, q_notN, isNon, q_ixT, q_ixR, atI_0, atI_1, atI_2, atI_3, atI_4, atI_5, atI_6, atI_7, q_slT, q_slR, q_revT, q_seqT, q_int, q_intB, q_max, q_min, q_abs, q_tupT, n_tup, n_int, n_bl, n_non, n_str, isi_ii, isi_ib, isi_tt, isi_itl, isi_btl, isi_ttl, isi_tl, isi_bb, u_bl, u_int, u_non, u_tup, g_name, g_tup, g_nil, g_cons, o_ret, o_nx, i_seq, List.set_cons_zero, List.set_cons_succ, decide_eq_true_eq, Bool.not_eq_true', decide_eq_false_iff_not, evP, Bool.false_eq_true, if_true, if_false, ite_true, ite_false, reduceIte, Bool.not_true, Bool.not_false, Option.some.injEq, q_pow10, Int.reduceToNat, Int.reducePow, Int.reduceAdd, Int.reduceSub, Int.reduceMul, Int.reduceNeg, Int.reduceLT, Int.reduceLE, Nat.reducePow, Nat.reduceLT, Nat.reduceLeDiff, Nat.reduceAdd, List.length_cons, List.length_nil, Int.neg_neg]
    refine (draw_ok p4 (by omega) (by omega)).imp ?_
    rintro _ ⟨z, S5, rfl, h0, h1, p5, l5⟩
    simp only [ex, ev, M_bind, M_map, M_some, M_ite, t_eq, a_tup, al_eq, List.getElem?_cons_zero, List.getElem?_cons_succ, Option.bind_some, Option.map_some, q_add, q_sub, q_lt, q_le, q_gt, q_ge, q_eqI, q_neI, q_eqB, q_neB, q_isN, q_notN, isNon, q_ixT, q_ixR, atI_0, atI_1, atI_2, atI_3, atI_4, atI_5, atI_6, atI_7, q_slT, q_slR, q_revT, q_seqT, q_int, q_intB, q_max, q_min, q_abs, q_tupT, n_tup, n_int, n_bl, n_non, n_str, isi_ii, isi_ib, isi_tt, isi_itl, isi_btl, isi_ttl, isi_tl, isi_bb, u_bl, u_int, u_non, u_tup, g_name, g_tup, g_nil, g_cons, o_ret, o_nx, i_seq, List.set_cons_zero, List.set_cons_succ, decide_eq_true_eq, Bool.not_eq_true', decide_eq_false_iff_not, evP, Bool.false_eq_true, if_true, if_false, ite_true, ite_false, reduceIte, Bool.not_true, Bool.not_false, Option.some.injEq, q_pow10, Int.reduceToNat, Int.reducePow, Int.reduceAdd, Int.reduceSub, Int.reduceMul, Int.reduceNeg, Int.reduceLT, Int.reduceLE, Nat.reducePow, Nat.reduceLT, Nat.reduceLeDiff, Nat.reduceAdd, List.length_cons, List.length_nil, Int.neg_neg, q_mul (i := un) (j := 1 + z) (by omega) (by omega) (by omega) (by omega)]
    have e1 : un * 1 ≤ un * (1 + z) := Int.mul_le_mul_of_nonneg_left (by omega) (by omega)
    have e2 : un * (1 + z) ≤ un * wd := Int.mul_le_mul_of_nonneg_left (by omega) (by omega)
    exact ⟨trivial, _, rfl, p5, l4.trans l5, by omega, by omega⟩
  rintro _ S5 ⟨top, rfl, p5, l5, t1, t2⟩
  refine seq_M (fun env S6 => env = [some (.ref p), some (.int k), some (.int low), some (.int un), some (.int wd), some (.int mid), some (.int top), some (.ref S5.length), none, none, none] ∧
    S6 = S5 ++ [.lst [.tup [.int low, .int mid], .tup [.int low, .int mid, .int top], .tup [.int low, .int top], .tup [.int low, .int mid, .int top], .tup [.int top]]]) ?_ ?_
  · simp only [ex, ev, M_bind, M_map, M_some, M_ite, t_eq, a_tup, al_eq, List.getElem?_cons_zero, List.getElem?_cons_succ, Option.bind_some, Option.map_some, q_add, q_sub, q_lt, q_le, q_gt, q_ge, q_eqI, q_neI, q_eqB, q_neB, q_isN, q_notN, isNon, q_ixT, q_ixR, atI_0, atI_1, atI_2, atI_3, atI_4, atI_5, atI_6, atI_7, q_slT, q_slR, q_revT, q_seqT, q_int, q_intB, q_max, q_min, q_abs, q_tupT, n_tup, n_int, n_bl, n_non, n_str, isi_ii, isi_ib, isi_tt, isi_itl, isi_btl, isi_ttl, isi_tl, isi_bb, u_bl, u_int, u_non, u_tup, g_name, g_tup, g_nil, g_cons, o_ret, o_nx, i_seq, List.set_cons_zero, List.set_cons_succ, decide_eq_true_eq, Bool.not_eq_true', decide_eq_false_iff_not, evP, Bool.false_eq_true, if_true, if_false, ite_true, ite_false, reduceIte, Bool.not_true, Bool.not_false, Option.some.injEq, q_pow10, Int.reduceToNat, Int.reducePow, Int.reduceAdd, Int.reduceSub, Int.reduceMul, Int.reduceNeg, Int.reduceLT, Int.reduceLE, Nat.reducePow, Nat.reduceLT, Nat.reduceLeDiff, Nat.reduceAdd, List.length_cons, List.length_nil, Int.neg_neg, show (3 : Nat) ≤ most by decide, show (2 : Nat) ≤ most by decide, show (1 : Nat) ≤ most by decide, show (5 : Nat) ≤ most by decide, Nat.zero_add]
    exact ⟨trivial, trivial, trivial⟩
  rintro _ _ ⟨rfl, rfl⟩
  refine seq_M (fun env S6 => ∃ os : List Int, env = [some (.ref p), some (.int k), some (.int low), some (.int un), some (.int wd), some (.int mid), some (.int top), some (.tup (os.map .int)), none, none, none] ∧ Pot p S6 ∧ Le p S S6 ∧
    1 ≤ os.length ∧ os.length ≤ 3 ∧ os.Pairwise (· < ·) ∧ (∀ x ∈ os, -900 ≤ x ∧ x ≤ 900)) ?_ ?_
  · simp only [ex, ev, M_bind, M_map, M_some, M_ite, t_eq, a_tup, al_eq, List.getElem?_cons_zero, List.getElem?_cons_succ, Option.bind_some, Option.map_some, q_add, q_sub, q_lt, q_le, q_gt, q_ge, q_eqI, q_neI, q_eqB, q_neB, q_isN, q_notN, isNon, q_ixT, q_ixR, atI_0, atI_1, atI_2, atI_3, atI_4, atI_5, atI_6, atI_7, q_slT, q_slR, q_revT, q_seqT, q_int, q_intB, q_max, q_min, q_abs, q_tupT, n_tup, n_int, n_bl, n_non, n_str, isi_ii, isi_ib, isi_tt, isi_itl, isi_btl, isi_ttl, isi_tl, isi_bb, u_bl, u_int, u_non, u_tup, g_name, g_tup, g_nil, g_cons, o_ret, o_nx, i_seq, List.set_cons_zero, List.set_cons_succ, decide_eq_true_eq, Bool.not_eq_true', decide_eq_false_iff_not, evP, Bool.false_eq_true, if_true, if_false, ite_true, ite_false, reduceIte, Bool.not_true, Bool.not_false, Option.some.injEq, q_pow10, Int.reduceToNat, Int.reducePow, Int.reduceAdd, Int.reduceSub, Int.reduceMul, Int.reduceNeg, Int.reduceLT, Int.reduceLE, Nat.reducePow, Nat.reduceLT, Nat.reduceLeDiff, Nat.reduceAdd, List.length_cons, List.length_nil, Int.neg_neg]
    refine (draw_ok (p5.app _) (by omega) (by omega)).imp ?_
    rintro _ ⟨z, S6, rfl, h0, h1, p6, l6⟩
    simp only [ex, ev, M_bind, M_map, M_some, M_ite, t_eq, a_tup, al_eq, List.getElem?_cons_zero, List.getElem?_cons_succ, Option.bind_some, Option.map_some, q_add, q_sub, q_lt, q_le, q_gt, q_ge, q_eqI, q_neI, q_eqB, q_neB, q_isN, q_notN, isNon, q_ixT, q_ixR, atI_0, atI_1, atI_2, atI_3, atI_4, atI_5, atI_6, atI_7, q_slT, q_slR, q_revT, q_seqT, q_int, q_intB, q_max, q_min, q_abs, q_tupT, n_tup, n_int, n_bl, n_non, n_str, isi_ii, isi_ib, isi_tt, isi_itl, isi_btl, isi_ttl, isi_tl, isi_bb, u_bl, u_int, u_non, u_tup, g_name, g_tup, g_nil, g_cons, o_ret, o_nx, i_seq, List.set_cons_zero, List.set_cons_succ, decide_eq_true_eq, Bool.not_eq_true', decide_eq_false_iff_not, evP, Bool.false_eq_true, if_true, if_false, ite_true, ite_false, reduceIte, Bool.not_true, Bool.not_false, Option.some.injEq, q_pow10, Int.reduceToNat, Int.reducePow, Int.reduceAdd, Int.reduceSub, Int.reduceMul, Int.reduceNeg, Int.reduceLT, Int.reduceLE, Nat.reducePow, Nat.reduceLT, Nat.reduceLeDiff, Nat.reduceAdd, List.length_cons, List.length_nil, Int.neg_neg, q_fdiv (i := z) (j := 2) (by decide) (by decide), q_ixL (l6.at p5.ne get_new)]
    have l7 : Le p S S6 := (l5.trans (Le.app _ _ _)).trans l6
    have hz : z / 2 = 0 ∨ z / 2 = 1 ∨ z / 2 = 2 ∨ z / 2 = 3 ∨ z / 2 = 4 := by omega
    rcases hz with e | e | e | e | e <;> rw [e] <;> simp only [ex, ev, M_bind, M_map, M_some, M_ite, t_eq, a_tup, al_eq, List.getElem?_cons_zero, List.getElem?_cons_succ, Option.bind_some, Option.map_some, q_add, q_sub, q_lt, q_le, q_gt, q_ge, q_eqI, q_neI, q_eqB, q_neB, q_isN, q_notN, isNon, q_ixT, q_ixR, atI_0, atI_1, atI_2, atI_3, atI_4, atI_5, atI_6, atI_7, q_slT, q_slR, q_revT, q_seqT, q_int, q_intB, q_max, q_min, q_abs, q_tupT, n_tup, n_int, n_bl, n_non, n_str, isi_ii, isi_ib, isi_tt, isi_itl, isi_btl, isi_ttl, isi_tl, isi_bb, u_bl, u_int, u_non, u_tup, g_name, g_tup, g_nil, g_cons, o_ret, o_nx, i_seq, List.set_cons_zero, List.set_cons_succ, decide_eq_true_eq, Bool.not_eq_true', decide_eq_false_iff_not, evP, Bool.false_eq_true, if_true, if_false, ite_true, ite_false, reduceIte, Bool.not_true, Bool.not_false, Option.some.injEq, q_pow10, Int.reduceToNat, Int.reducePow, Int.reduceAdd, Int.reduceSub, Int.reduceMul, Int.reduceNeg, Int.reduceLT, Int.reduceLE, Nat.reducePow, Nat.reduceLT, Nat.reduceLeDiff, Nat.reduceAdd, List.length_cons, List.length_nil, Int.neg_neg]
    · exact ⟨trivial, [low, mid], rfl, p6, l7, by simp, by simp, by simp; omega, by simp; omega⟩
    · exact ⟨trivial, [low, mid, top], rfl, p6, l7, by simp, by simp, by simp; omega, by simp; omega⟩
    · exact ⟨trivial, [low, top], rfl, p6, l7, by simp, by simp, by simp; omega, by simp; omega⟩
    · exact ⟨trivial, [low, mid, top], rfl, p6, l7, by simp, by simp, by simp; omega, by simp; omega⟩
    · exact ⟨trivial, [top], rfl, p6, l7, by simp, by simp, by simp, by simp; omega⟩
  rintro _ S6 ⟨os, rfl, p6, l6, o1, o3, oa, ob⟩
  refine seq_M (fun env S7 => ∃ os : List Int, env = [some (.ref p), some (.int k), some (.int low), some (.int un), some (.int wd), some (.int mid), some (.int top), some (.tup (os.map .int)), none, none, none] ∧ Pot p S7 ∧ Le p S S7 ∧
    1 ≤ os.length ∧ os.length ≤ 3 ∧ os.Pairwise (· < ·) ∧ (∀ x ∈ os, -900 ≤ x ∧ x ≤ 900)) ?_ ?_
  · simp only [ex, M_bind, t_eq]
    refine M.imp (P := fun r => ∃ z S7, r = (.bl z, S7) ∧ Pot p S7 ∧ Le p S6 S7) ?_ ?_
    · simp only [ex, ev, M_bind, M_map, M_some, M_ite, t_eq, a_tup, al_eq, List.getElem?_cons_zero, List.getElem?_cons_succ, Option.bind_some, Option.map_some, q_add, q_sub, q_lt, q_le, q_gt, q_ge, q_eqI, q_neI, q_eqB, q_neB, q_isN, q_notN, isNon, q_ixT, q_ixR, atI_0, atI_1, atI_2, atI_3, atI_4, atI_5, atI_6, atI_7, q_slT, q_slR, q_revT, q_seqT, q_int, q_intB, q_max, q_min, q_abs, q_tupT, n_tup, n_int, n_bl, n_non, n_str, isi_ii, isi_ib, isi_tt, isi_itl, isi_btl, isi_ttl, isi_tl, isi_bb, u_bl, u_int, u_non, u_tup, g_name, g_tup, g_nil, g_cons, o_ret, o_nx, i_seq, List.set_cons_zero, List.set_cons_succ, decide_eq_true_eq, Bool.not_eq_true', decide_eq_false_iff_not, evP, Bool.false_eq_true, if_true, if_false, ite_true, ite_false, reduceIte, Bool.not_true, Bool.not_false, Option.some.injEq, q_pow10, Int.reduceToNat, Int.reducePow, Int.reduceAdd, Int.reduceSub, Int.reduceMul, Int.reduceNeg, Int.reduceLT, Int.reduceLE, Nat.reducePow, Nat.reduceLT, Nat.reduceLeDiff, Nat.reduceAdd, List.length_cons, List.length_nil, Int.neg_neg]
      refine (draw_ok p6 (by omega) (by omega)).imp ?_
      rintro _ ⟨z, S7, rfl, h0, h1, p7, l7⟩
      simp only [ex, ev, M_bind, M_map, M_some, M_ite, t_eq, a_tup, al_eq, List.getElem?_cons_zero, List.getElem?_cons_succ, Option.bind_some, Option.map_some, q_add, q_sub, q_lt, q_le, q_gt, q_ge, q_eqI, q_neI, q_eqB, q_neB, q_isN, q_notN, isNon, q_ixT, q_ixR, atI_0, atI_1, atI_2, atI_3, atI_4, atI_5, atI_6, atI_7, q_slT, q_slR, q_revT, q_seqT, q_int, q_intB, q_max, q_min, q_abs, q_tupT, n_tup, n_int, n_bl, n_non, n_str, isi_ii, isi_ib, isi_tt, isi_itl, isi_btl, isi_ttl, isi_tl, isi_bb, u_bl, u_int, u_non, u_tup, g_name, g_tup, g_nil, g_cons, o_ret, o_nx, i_seq, List.set_cons_zero, List.set_cons_succ, decide_eq_true_eq, Bool.not_eq_true', decide_eq_false_iff_not, evP, Bool.false_eq_true, if_true, if_false, ite_true, ite_false, reduceIte, Bool.not_true, Bool.not_false, Option.some.injEq, q_pow10, Int.reduceToNat, Int.reducePow, Int.reduceAdd, Int.reduceSub, Int.reduceMul, Int.reduceNeg, Int.reduceLT, Int.reduceLE, Nat.reducePow, Nat.reduceLT, Nat.reduceLeDiff, Nat.reduceAdd, List.length_cons, List.length_nil, Int.neg_neg]
      exact ⟨_, _, rfl, p7, l7⟩
    rintro _ ⟨z, S7, rfl, p7, l7⟩
    simp only [u_bl, Option.map_some, M_some]
    cases z with
    | false =>
      simp only [ex, ev, M_bind, M_map, M_some, M_ite, t_eq, a_tup, al_eq, List.getElem?_cons_zero, List.getElem?_cons_succ, Option.bind_some, Option.map_some, q_add, q_sub, q_lt, q_le, q_gt, q_ge, q_eqI, q_neI, q_eqB, q_neB, q_isN, q_notN, isNon, q_ixT, q_ixR, atI_0, atI_1, atI_2, atI_3, atI_4, atI_5, atI_6, atI_7, q_slT, q_slR, q_revT, q_seqT, q_int, q_intB, q_max, q_min, q_abs, q_tupT, n_tup, n_int, n_bl, n_non, n_str, isi_ii, isi_ib, isi_tt, isi_itl, isi_btl, isi_ttl, isi_tl, isi_bb, u_bl, u_int, u_non, u_tup, g_name, g_tup, g_nil, g_cons, o_ret, o_nx, i_seq, List.set_cons_zero, List.set_cons_succ, decide_eq_true_eq, Bool.not_eq_true', decide_eq_false_iff_not, evP, Bool.false_eq_true, if_true, if_false, ite_true, ite_false, reduceIte, Bool.not_true, Bool.not_false, Option.some.injEq, q_pow10, Int.reduceToNat, Int.reducePow, Int.reduceAdd, Int.reduceSub, Int.reduceMul, Int.reduceNeg, Int.reduceLT, Int.reduceLE, Nat.reducePow, Nat.reduceLT, Nat.reduceLeDiff, Nat.reduceAdd, List.length_cons, List.length_nil, Int.neg_neg]
      exact ⟨trivial, os, rfl, p7, l6.trans l7, o1, o3, oa, ob⟩
    | true =>
      simp only [if_true, M_bind]
      refine neg_map (os := os) o3 rfl rfl fun S8 l8 => ?_
      simp only [ex, ev, M_bind, M_map, M_some, M_ite, t_eq, a_tup, al_eq, List.getElem?_cons_zero, List.getElem?_cons_succ, Option.bind_some, Option.map_some, q_add, q_sub, q_lt, q_le, q_gt, q_ge, q_eqI, q_neI, q_eqB, q_neB, q_isN, q_notN, isNon, q_ixT, q_ixR, atI_0, atI_1, atI_2, atI_3, atI_4, atI_5, atI_6, atI_7, q_slT, q_slR, q_revT, q_seqT, q_int, q_intB, q_max, q_min, q_abs, q_tupT, n_tup, n_int, n_bl, n_non, n_str, isi_ii, isi_ib, isi_tt, isi_itl, isi_btl, isi_ttl, isi_tl, isi_bb, u_bl, u_int, u_non, u_tup, g_name, g_tup, g_nil, g_cons, o_ret, o_nx, i_seq, List.set_cons_zero, List.set_cons_succ, decide_eq_true_eq, Bool.not_eq_true', decide_eq_false_iff_not, evP, Bool.false_eq_true, if_true, if_false, ite_true, ite_false, reduceIte, Bool.not_true, Bool.not_false, Option.some.injEq, q_pow10, Int.reduceToNat, Int.reducePow, Int.reduceAdd, Int.reduceSub, Int.reduceMul, Int.reduceNeg, Int.reduceLT, Int.reduceLE, Nat.reducePow, Nat.reduceLT, Nat.reduceLeDiff, Nat.reduceAdd, List.length_cons, List.length_nil, Int.neg_neg]
      refine ⟨trivial, _, rfl, p7.lq l8, (l6.trans l7).trans l8.le, by simpa using o1, by simpa using o3, ?_, ?_⟩
      · rw [List.pairwise_map, List.pairwise_reverse]
        exact oa.imp fun h => by omega
      · intro x hx
        simp only [List.mem_map, List.mem_reverse] at hx
        obtain ⟨y, hy, rfl⟩ := hx
        have := ob y hy
        omega
  rintro _ S7 ⟨os, rfl, p7, l7, o1, o3, oa, ob⟩
  obtain ⟨a, b, ha, hb, e0, e1, hab⟩ := ends o1 o3 oa
  have ba := ob a ha
  have bb := ob b hb
  have hab' := hab a ha
  refine seq_M (fun env S8 => env = [some (.ref p), some (.int k), some (.int low), some (.int un), some (.int wd), some (.int mid), some (.int top), some (.tup (os.map .int)), none, some (.int (b - a)), none] ∧ S8 = S7) ?_ ?_
  · simp only [ex, ev, M_bind, M_map, M_some, M_ite, t_eq, a_tup, al_eq, List.getElem?_cons_zero, List.getElem?_cons_succ, Option.bind_some, Option.map_some, q_add, q_sub, q_lt, q_le, q_gt, q_ge, q_eqI, q_neI, q_eqB, q_neB, q_isN, q_notN, isNon, q_ixT, q_ixR, atI_0, atI_1, atI_2, atI_3, atI_4, atI_5, atI_6, atI_7, q_slT, q_slR, q_revT, q_seqT, q_int, q_intB, q_max, q_min, q_abs, q_tupT, n_tup, n_int, n_bl, n_non, n_str, isi_ii, isi_ib, isi_tt, isi_itl, isi_btl, isi_ttl, isi_tl, isi_bb, u_bl, u_int, u_non, u_tup, g_name, g_tup, g_nil, g_cons, o_ret, o_nx, i_seq, List.set_cons_zero, List.set_cons_succ, decide_eq_true_eq, Bool.not_eq_true', decide_eq_false_iff_not, evP, Bool.false_eq_true, if_true, if_false, ite_true, ite_false, reduceIte, Bool.not_true, Bool.not_false, Option.some.injEq, q_pow10, Int.reduceToNat, Int.reducePow, Int.reduceAdd, Int.reduceSub, Int.reduceMul, Int.reduceNeg, Int.reduceLT, Int.reduceLE, Nat.reducePow, Nat.reduceLT, Nat.reduceLeDiff, Nat.reduceAdd, List.length_cons, List.length_nil, Int.neg_neg, e0, e1]
    exact ⟨trivial, trivial, trivial⟩
  rintro _ _ ⟨rfl, rfl⟩
  refine seq_M (fun env S9 => ∃ (c : Nat) (x y : Int), env = [some (.ref p), some (.int k), some (.int low), some (.int un), some (.int wd), some (.int mid), some (.int top), some (.tup (os.map .int)), none, some (.int (b - a)), some (.ref c)] ∧ c ≠ p ∧
    Pot p S9 ∧ Le p S S9 ∧ S9[c]? = some (.lst ([0, 0, 1, x, y, 999999 - (b - a)].map .int)) ∧ 0 ≤ x ∧ x < 1000 ∧ 0 ≤ y ∧ y < 1000000 - (b - a)) ?_ ?_
  · simp only [ex, ev, M_bind, M_map, M_some, M_ite, t_eq, a_tup, al_eq, List.getElem?_cons_zero, List.getElem?_cons_succ, Option.bind_some, Option.map_some, q_add, q_sub, q_lt, q_le, q_gt, q_ge, q_eqI, q_neI, q_eqB, q_neB, q_isN, q_notN, isNon, q_ixT, q_ixR, atI_0, atI_1, atI_2, atI_3, atI_4, atI_5, atI_6, atI_7, q_slT, q_slR, q_revT, q_seqT, q_int, q_intB, q_max, q_min, q_abs, q_tupT, n_tup, n_int, n_bl, n_non, n_str, isi_ii, isi_ib, isi_tt, isi_itl, isi_btl, isi_ttl, isi_tl, isi_bb, u_bl, u_int, u_non, u_tup, g_name, g_tup, g_nil, g_cons, o_ret, o_nx, i_seq, List.set_cons_zero, List.set_cons_succ, decide_eq_true_eq, Bool.not_eq_true', decide_eq_false_iff_not, evP, Bool.false_eq_true, if_true, if_false, ite_true, ite_false, reduceIte, Bool.not_true, Bool.not_false, Option.some.injEq, q_pow10, Int.reduceToNat, Int.reducePow, Int.reduceAdd, Int.reduceSub, Int.reduceMul, Int.reduceNeg, Int.reduceLT, Int.reduceLE, Nat.reducePow, Nat.reduceLT, Nat.reduceLeDiff, Nat.reduceAdd, List.length_cons, List.length_nil, Int.neg_neg]
    refine (draw_ok p7 (by omega) (by omega)).imp ?_
    rintro _ ⟨x, S8, rfl, h0, h1, p8, l8⟩
    simp only [ex, ev, M_bind, M_map, M_some, M_ite, t_eq, a_tup, al_eq, List.getElem?_cons_zero, List.getElem?_cons_succ, Option.bind_some, Option.map_some, q_add, q_sub, q_lt, q_le, q_gt, q_ge, q_eqI, q_neI, q_eqB, q_neB, q_isN, q_notN, isNon, q_ixT, q_ixR, atI_0, atI_1, atI_2, atI_3, atI_4, atI_5, atI_6, atI_7, q_slT, q_slR, q_revT, q_seqT, q_int, q_intB, q_max, q_min, q_abs, q_tupT, n_tup, n_int, n_bl, n_non, n_str, isi_ii, isi_ib, isi_tt, isi_itl, isi_btl, isi_ttl, isi_tl, isi_bb, u_bl, u_int, u_non, u_tup, g_name, g_tup, g_nil, g_cons, o_ret, o_nx, i_seq, List.set_cons_zero, List.set_cons_succ, decide_eq_true_eq, Bool.not_eq_true', decide_eq_false_iff_not, evP, Bool.false_eq_true, if_true, if_false, ite_true, ite_false, reduceIte, Bool.not_true, Bool.not_false, Option.some.injEq, q_pow10, Int.reduceToNat, Int.reducePow, Int.reduceAdd, Int.reduceSub, Int.reduceMul, Int.reduceNeg, Int.reduceLT, Int.reduceLE, Nat.reducePow, Nat.reduceLT, Nat.reduceLeDiff, Nat.reduceAdd, List.length_cons, List.length_nil, Int.neg_neg]
    refine (draw_ok p8 (by omega) (by omega)).imp ?_
    rintro _ ⟨y, S9, rfl, g0, g1, p9, l9⟩
    simp only [ex, ev, M_bind, M_map, M_some, M_ite, t_eq, a_tup, al_eq, List.getElem?_cons_zero, List.getElem?_cons_succ, Option.bind_some, Option.map_some, q_add, q_sub, q_lt, q_le, q_gt, q_ge, q_eqI, q_neI, q_eqB, q_neB, q_isN, q_notN, isNon, q_ixT, q_ixR, atI_0, atI_1, atI_2, atI_3, atI_4, atI_5, atI_6, atI_7, q_slT, q_slR, q_revT, q_seqT, q_int, q_intB, q_max, q_min, q_abs, q_tupT, n_tup, n_int, n_bl, n_non, n_str, isi_ii, isi_ib, isi_tt, isi_itl, isi_btl, isi_ttl, isi_tl, isi_bb, u_bl, u_int, u_non, u_tup, g_name, g_tup, g_nil, g_cons, o_ret, o_nx, i_seq, List.set_cons_zero, List.set_cons_succ, decide_eq_true_eq, Bool.not_eq_true', decide_eq_false_iff_not, evP, Bool.false_eq_true, if_true, if_false, ite_true, ite_false, reduceIte, Bool.not_true, Bool.not_false, Option.some.injEq, q_pow10, Int.reduceToNat, Int.reducePow, Int.reduceAdd, Int.reduceSub, Int.reduceMul, Int.reduceNeg, Int.reduceLT, Int.reduceLE, Nat.reducePow, Nat.reduceLT, Nat.reduceLeDiff, Nat.reduceAdd, List.length_cons, List.length_nil, Int.neg_neg, show (6 : Nat) ≤ most by decide, Nat.zero_add]
    exact ⟨trivial, _, x, y, rfl, p9.ne, p9.app _, ((l7.trans l8).trans l9).trans (Le.app _ _ _), get_new, h0, h1, g0, g1⟩
  rintro _ S9 ⟨c, x, y, rfl, hc, p9, l9, gc, h0, h1, g0, g1⟩
  simp only [ex, ev, M_bind, M_map, M_some, M_ite, t_eq, a_tup, al_eq, List.getElem?_cons_zero, List.getElem?_cons_succ, Option.bind_some, Option.map_some, q_add, q_sub, q_lt, q_le, q_gt, q_ge, q_eqI, q_neI, q_eqB, q_neB, q_isN, q_notN, isNon, q_ixT, q_ixR, atI_0, atI_1, atI_2, atI_3, atI_4, atI_5, atI_6, atI_7, q_slT, q_slR, q_revT, q_seqT, q_int, q_intB, q_max, q_min, q_abs, q_tupT, n_tup, n_int, n_bl, n_non, n_str, isi_ii, isi_ib, isi_tt, isi_itl, isi_btl, isi_ttl, isi_tl, isi_bb, u_bl, u_int, u_non, u_tup, g_name, g_tup, g_nil, g_cons, o_ret, o_nx, i_seq, List.set_cons_zero, List.set_cons_succ, decide_eq_true_eq, Bool.not_eq_true', decide_eq_false_iff_not, evP, Bool.false_eq_true, if_true, if_false, ite_true, ite_false, reduceIte, Bool.not_true, Bool.not_false, Option.some.injEq, q_pow10, Int.reduceToNat, Int.reducePow, Int.reduceAdd, Int.reduceSub, Int.reduceMul, Int.reduceNeg, Int.reduceLT, Int.reduceLE, Nat.reducePow, Nat.reduceLT, Nat.reduceLeDiff, Nat.reduceAdd, List.length_cons, List.length_nil, Int.neg_neg]
  refine (draw_ok p9 (by omega) (by omega)).imp ?_
  rintro _ ⟨z, S10, rfl, z0, z1, p10, l10⟩
  obtain ⟨v, _, hv, ev⟩ := atI_ints (ns := [0, 0, 1, x, y, 999999 - (b - a)]) z0 z1
  simp only [ex, ev, M_bind, M_map, M_some, M_ite, t_eq, a_tup, al_eq, List.getElem?_cons_zero, List.getElem?_cons_succ, Option.bind_some, Option.map_some, q_add, q_sub, q_lt, q_le, q_gt, q_ge, q_eqI, q_neI, q_eqB, q_neB, q_isN, q_notN, isNon, q_ixT, q_ixR, atI_0, atI_1, atI_2, atI_3, atI_4, atI_5, atI_6, atI_7, q_slT, q_slR, q_revT, q_seqT, q_int, q_intB, q_max, q_min, q_abs, q_tupT, n_tup, n_int, n_bl, n_non, n_str, isi_ii, isi_ib, isi_tt, isi_itl, isi_btl, isi_ttl, isi_tl, isi_bb, u_bl, u_int, u_non, u_tup, g_name, g_tup, g_nil, g_cons, o_ret, o_nx, i_seq, List.set_cons_zero, List.set_cons_succ, decide_eq_true_eq, Bool.not_eq_true', decide_eq_false_iff_not, evP, Bool.false_eq_true, if_true, if_false, ite_true, ite_false, reduceIte, Bool.not_true, Bool.not_false, Option.some.injEq, q_pow10, Int.reduceToNat, Int.reducePow, Int.reduceAdd, Int.reduceSub, Int.reduceMul, Int.reduceNeg, Int.reduceLT, Int.reduceLE, Nat.reducePow, Nat.reduceLT, Nat.reduceLeDiff, Nat.reduceAdd, List.length_cons, List.length_nil, Int.neg_neg, q_ixL (l10.at hc gc), ev, show (2 : Nat) ≤ most by decide, Nat.zero_add]
  simp only [List.mem_cons, List.not_mem_nil, or_false] at hv
  refine ⟨os, b - a + 1 + v, _, rfl, ⟨o1, o3, oa, fun u hu => (ob u hu).1, fun u hu => (ob u hu).2, fun u hu w hw => ?_, by omega⟩, p10, l9.trans l10⟩
  have := hab u hu
  have := hab w hw
  omega
end Lw

namespace Lw
open PySem L2 Ix
/-! ### tables -/
def Adj {β : Type} (R : β → β → Prop) (l : List β) : Prop := ∀ (i : Nat) (x y : β), l[i]? = some x → l[i + 1]? = some y → R x y
theorem Adj.nil {β : Type} {R : β → β → Prop} : Adj R ([] : List β) := fun i x y h => by simp at h
theorem Adj.one {β : Type} {R : β → β → Prop} {a : β} : Adj R [a] := fun i x y _ h => by simp at h
theorem Adj.snoc {β : Type} {R : β → β → Prop} {l : List β} {b : β} (h : Adj R l) (k : ∀ x, l.getLast? = some x → R x b) : Adj R (l ++ [b]) := fun i x y h1 h2 => by
  by_cases hi : i + 1 < l.length
  · rw [List.getElem?_append_left (by omega)] at h1
    rw [List.getElem?_append_left hi] at h2
    exact h i x y h1 h2
  · by_cases hj : i + 1 = l.length
    · rw [List.getElem?_append_left (by omega)] at h1
      rw [List.getElem?_append_right (by omega), hj, Nat.sub_self] at h2
      have e : b = y := by simpa using h2
      subst e
      refine k x ?_
      rw [List.getLast?_eq_getElem?, ← hj]
      exact h1
    · rw [List.getElem?_eq_none (by simp; omega)] at h2
      cases h2
def jumpD (j : Int × Int) : D := .tup [.int j.1, .int j.2]
def chartD (off : Int) (js : List (Int × Int)) : D := .tup [.int off, .tup (js.map jumpD)]
structure Chart (os : List Int) (sp off : Int) (js : List (Int × Int)) : Prop where
  first : off ∈ os
  mem : ∀ j ∈ js, j.2 ∈ os
  far : Adj (fun x y => x + sp ≤ y) (js.map (·.1))
  alt : Adj (fun x y => x ≠ y) (off :: js.map (·.2))
theorem os_ne {os : List Int} (ha : os.Pairwise (· < ·)) {i j : Nat} {x y : Int} (h1 : os[i]? = some x) (h2 : os[j]? = some y) (h : i ≠ j) : x ≠ y := by
  rw [List.pairwise_iff_getElem] at ha
  obtain ⟨a, e1⟩ := List.getElem?_eq_some_iff.mp h1
  obtain ⟨b, e2⟩ := List.getElem?_eq_some_iff.mp h2
  rcases Nat.lt_or_gt_of_ne h with q | q
  · have := ha i j a b q
    omega
  · have := ha j i b a q
    omega
theorem atI_os {os : List Int} {a : Int} (h0 : 0 ≤ a) (h1 : a < os.length) : ∃ x, os[a.toNat]? = some x ∧ x ∈ os ∧ atI (os.map D.int) a = some (.int x) := atI_ints h0 h1
theorem make_chart_ok {n p : Nat} {S : Hd} {os : List Int} {sp u : Int} (hS : Pot p S) (hz : Zone os sp) (u0 : 0 ≤ u) (u1 : u ≤ 1000) :
    M (run T (n + 3) 21 [.ref p, zoneD os sp, .int u] S) fun r => ∃ off js S', r = (chartD off js, S') ∧ Chart os sp off js ∧ (js.length : Int) ≤ u ∧ Pot p S' ∧ Le p S S' := by
  have o1 := hz.len1
  have o3 := hz.len3
  refine run_M T_make_chart rfl ?_
  show M (ex (run T (n + 2)) b_make_chart [some (.ref p), some (zoneD os sp), some (.int u), none, none, none, none, none, none, none, none] S) _
  unfold b_make_chart
  refine seq_M (fun env S1 => S = S1 ∧ env = [some (.ref p), some (zoneD os sp), some (.int u), some (.tup (os.map .int)), some (.int sp), none, none, none, none, none, none]) ?_ ?_
  · simp only [ex, ev, M_bind, M_map, M_some, M_ite, t_eq, a_tup, al_eq, List.getElem?_cons_zero, List.getElem?_cons_succ, Option.bind_some, Option.map_some, q_add, q_sub, q_lt, q_le, q_gt, q_ge, q_eqI, q_neI, q_eqB, q_neB, q_isN, q_notN, isNon, q_ixT, q_ixR, atI_0, atI_1, atI_2, atI_3, atI_4, atI_5, atI_6, atI_7, q_slT, q_slR, q_revT, q_seqT, q_int, q_intB, q_max, q_min, q_abs, q_tupT, n_tup, n_int, n_bl, n_non, n_str, isi_ii, isi_ib, isi_tt, isi_itl, isi_btl, isi_ttl, isi_tl, isi_bb, u_bl, u_int, u_non, u_tup, g_name, g_tup, g_nil, g_cons, o_ret, o_nx, i_seq, List.set_cons_zero, List.set_cons_succ, decide_eq_true_eq, Bool.not_eq_true', decide_eq_false_iff_not, evP, Bool.false_eq_true, if_true, if_false, ite_true, ite_false, reduceIte, Bool.not_true, Bool.not_false, Option.some.injEq, q_pow10, Int.reduceToNat, Int.reducePow, Int.reduceAdd, Int.reduceSub, Int.reduceMul, Int.reduceNeg, Int.reduceLT, Int.reduceLE, Nat.reducePow, Nat.reduceLT, Nat.reduceLeDiff, Nat.reduceAdd, List.length_cons, List.length_nil, Int.neg_neg]
    unfold zoneD
    simp only [ex, ev, M_bind, M_map, M_some, M_ite, t_eq, a_tup, al_eq, List.getElem?_cons_zero, List.getElem?_cons_succ, Option.bind_some, Option.map_some, q_add, q_sub, q_lt, q_le, q_gt, q_ge, q_eqI, q_neI, q_eqB, q_neB, q_isN, q_notN, isNon, q_ixT, q_ixR, atI_0, atI_1, atI_2, atI_3, atI_4, atI_5, atI_6, atI_7, q_slT, q_slR, q_revT, q_seqT, q_int, q_intB, q_max, q_min, q_abs, q_tupT, n_tup, n_int, n_bl, n_non, n_str, isi_ii, isi_ib, isi_tt, isi_itl, isi_btl, isi_ttl, isi_tl, isi_bb, u_bl, u_int, u_non, u_tup, g_name, g_tup, g_nil, g_cons, o_ret, o_nx, i_seq, List.set_cons_zero, List.set_cons_succ, decide_eq_true_eq, Bool.not_eq_true', decide_eq_false_iff_not, evP, Bool.false_eq_true, if_true, if_false, ite_true, ite_false, reduceIte, Bool.not_true, Bool.not_false, Option.some.injEq, q_pow10, Int.reduceToNat, Int.reducePow, Int.reduceAdd, Int.reduceSub, Int.reduceMul, Int.reduceNeg, Int.reduceLT, Int.reduceLE, Nat.reducePow, Nat.reduceLT, Nat.reduceLeDiff, Nat.reduceAdd, List.length_cons, List.length_nil, Int.neg_neg]
    exact ⟨trivial, trivial, trivial⟩
  rintro _ _ ⟨rfl, rfl⟩
  refine seq_M (fun env S1 => ∃ a : Int, env = [some (.ref p), some (zoneD os sp), some (.int u), some (.tup (os.map .int)), some (.int sp), some (.int a), none, none, none, none, none] ∧ 0 ≤ a ∧ a < os.length ∧ Pot p S1 ∧ Le p S S1) ?_ ?_
  · simp only [ex, ev, M_bind, M_map, M_some, M_ite, t_eq, a_tup, al_eq, List.getElem?_cons_zero, List.getElem?_cons_succ, Option.bind_some, Option.map_some, q_add, q_sub, q_lt, q_le, q_gt, q_ge, q_eqI, q_neI, q_eqB, q_neB, q_isN, q_notN, isNon, q_ixT, q_ixR, atI_0, atI_1, atI_2, atI_3, atI_4, atI_5, atI_6, atI_7, q_slT, q_slR, q_revT, q_seqT, q_int, q_intB, q_max, q_min, q_abs, q_tupT, n_tup, n_int, n_bl, n_non, n_str, isi_ii, isi_ib, isi_tt, isi_itl, isi_btl, isi_ttl, isi_tl, isi_bb, u_bl, u_int, u_non, u_tup, g_name, g_tup, g_nil, g_cons, o_ret, o_nx, i_seq, List.set_cons_zero, List.set_cons_succ, decide_eq_true_eq, Bool.not_eq_true', decide_eq_false_iff_not, evP, Bool.false_eq_true, if_true, if_false, ite_true, ite_false, reduceIte, Bool.not_true, Bool.not_false, Option.some.injEq, q_pow10, Int.reduceToNat, Int.reducePow, Int.reduceAdd, Int.reduceSub, Int.reduceMul, Int.reduceNeg, Int.reduceLT, Int.reduceLE, Nat.reducePow, Nat.reduceLT, Nat.reduceLeDiff, Nat.reduceAdd, List.length_cons, List.length_nil, Int.neg_neg, q_len (q_seqT), List.length_map]
    refine (draw_ok hS (by omega) (by omega)).imp ?_
    rintro _ ⟨z, S1, rfl, h0, h1, p1, l1⟩
    exact ⟨trivial, z, rfl, h0, h1, p1, l1⟩
  rintro _ S1 ⟨a, rfl, a0, a1, p1, l1⟩
  obtain ⟨off, ho, hom, hoi⟩ := atI_os a0 a1
  refine seq_M (fun env S2 => S1 = S2 ∧ env = [some (.ref p), some (zoneD os sp), some (.int u), some (.tup (os.map .int)), some (.int sp), some (.int a), some (.int off), none, none, none, none]) ?_ ?_
  · simp only [ex, ev, M_bind, M_map, M_some, M_ite, t_eq, a_tup, al_eq, List.getElem?_cons_zero, List.getElem?_cons_succ, Option.bind_some, Option.map_some, q_add, q_sub, q_lt, q_le, q_gt, q_ge, q_eqI, q_neI, q_eqB, q_neB, q_isN, q_notN, isNon, q_ixT, q_ixR, atI_0, atI_1, atI_2, atI_3, atI_4, atI_5, atI_6, atI_7, q_slT, q_slR, q_revT, q_seqT, q_int, q_intB, q_max, q_min, q_abs, q_tupT, n_tup, n_int, n_bl, n_non, n_str, isi_ii, isi_ib, isi_tt, isi_itl, isi_btl, isi_ttl, isi_tl, isi_bb, u_bl, u_int, u_non, u_tup, g_name, g_tup, g_nil, g_cons, o_ret, o_nx, i_seq, List.set_cons_zero, List.set_cons_succ, decide_eq_true_eq, Bool.not_eq_true', decide_eq_false_iff_not, evP, Bool.false_eq_true, if_true, if_false, ite_true, ite_false, reduceIte, Bool.not_true, Bool.not_false, Option.some.injEq, q_pow10, Int.reduceToNat, Int.reducePow, Int.reduceAdd, Int.reduceSub, Int.reduceMul, Int.reduceNeg, Int.reduceLT, Int.reduceLE, Nat.reducePow, Nat.reduceLT, Nat.reduceLeDiff, Nat.reduceAdd, List.length_cons, List.length_nil, Int.neg_neg, hoi]
    exact ⟨trivial, trivial, trivial⟩
  rintro _ _ ⟨rfl, rfl⟩
  refine seq_M (fun env S2 => ∃ h : Int, env = [some (.ref p), some (zoneD os sp), some (.int u), some (.tup (os.map .int)), some (.int sp), some (.int a), some (.int off), some (.int h), none, none, none] ∧ Pot p S2 ∧ Le p S S2) ?_ ?_
  · simp only [ex, ev, M_bind, M_map, M_some, M_ite, t_eq, a_tup, al_eq, List.getElem?_cons_zero, List.getElem?_cons_succ, Option.bind_some, Option.map_some, q_add, q_sub, q_lt, q_le, q_gt, q_ge, q_eqI, q_neI, q_eqB, q_neB, q_isN, q_notN, isNon, q_ixT, q_ixR, atI_0, atI_1, atI_2, atI_3, atI_4, atI_5, atI_6, atI_7, q_slT, q_slR, q_revT, q_seqT, q_int, q_intB, q_max, q_min, q_abs, q_tupT, n_tup, n_int, n_bl, n_non, n_str, isi_ii, isi_ib, isi_tt, isi_itl, isi_btl, isi_ttl, isi_tl, isi_bb, u_bl, u_int, u_non, u_tup, g_name, g_tup, g_nil, g_cons, o_ret, o_nx, i_seq, List.set_cons_zero, List.set_cons_succ, decide_eq_true_eq, Bool.not_eq_true', decide_eq_false_iff_not, evP, Bool.false_eq_true, if_true, if_false, ite_true, ite_false, reduceIte, Bool.not_true, Bool.not_false, Option.some.injEq, q_pow10, Int.reduceToNat, Int.reducePow, Int.reduceAdd, Int.reduceSub, Int.reduceMul, Int.reduceNeg, Int.reduceLT, Int.reduceLE, Nat.reducePow, Nat.reduceLT, Nat.reduceLeDiff, Nat.reduceAdd, List.length_cons, List.length_nil, Int.neg_neg]
    refine (any_hour_ok p1).imp ?_
    rintro _ ⟨z, S2, rfl, p2, l2⟩
    exact ⟨trivial, z, rfl, p2, l1.trans l2⟩
  rintro _ S2 ⟨h, rfl, p2, l2⟩
  refine seq_M (fun env S3 => env = [some (.ref p), some (zoneD os sp), some (.int u), some (.tup (os.map .int)), some (.int sp), some (.int a), some (.int off), some (.int h), some (.ref S2.length), none, none] ∧ S3 = S2 ++ [.lst []]) ?_ ?_
  · simp only [ex, ev, M_bind, M_map, M_some, M_ite, t_eq, a_tup, al_eq, List.getElem?_cons_zero, List.getElem?_cons_succ, Option.bind_some, Option.map_some, q_add, q_sub, q_lt, q_le, q_gt, q_ge, q_eqI, q_neI, q_eqB, q_neB, q_isN, q_notN, isNon, q_ixT, q_ixR, atI_0, atI_1, atI_2, atI_3, atI_4, atI_5, atI_6, atI_7, q_slT, q_slR, q_revT, q_seqT, q_int, q_intB, q_max, q_min, q_abs, q_tupT, n_tup, n_int, n_bl, n_non, n_str, isi_ii, isi_ib, isi_tt, isi_itl, isi_btl, isi_ttl, isi_tl, isi_bb, u_bl, u_int, u_non, u_tup, g_name, g_tup, g_nil, g_cons, o_ret, o_nx, i_seq, List.set_cons_zero, List.set_cons_succ, decide_eq_true_eq, Bool.not_eq_true', decide_eq_false_iff_not, evP, Bool.false_eq_true, if_true, if_false, ite_true, ite_false, reduceIte, Bool.not_true, Bool.not_false, Option.some.injEq, q_pow10, Int.reduceToNat, Int.reducePow, Int.reduceAdd, Int.reduceSub, Int.reduceMul, Int.reduceNeg, Int.reduceLT, Int.reduceLE, Nat.reducePow, Nat.reduceLT, Nat.reduceLeDiff, Nat.reduceAdd, List.length_cons, List.length_nil, Int.neg_neg, show (0 : Nat) ≤ most by decide]
    exact ⟨trivial, trivial, trivial⟩
  rintro _ _ ⟨rfl, rfl⟩
  have hc : S2.length ≠ p := p2.ne
  generalize hcc : S2.length = c at hc ⊢
  have hgc : (S2 ++ [O.lst []])[c]? = some (.lst []) := by rw [← hcc]; exact get_new
  have p3 := p2.app [O.lst []]
  have l3 : Le p S (S2 ++ [O.lst []]) := l2.trans (Le.app _ _ _)
  have hfree : ∀ k o, S[k]? = some o → k ≠ p → k ≠ c := fun k o hk n e => by
    have := l2 k o n hk
    have := lt_of_get this
    omega
  generalize hS3 : S2 ++ [O.lst []] = S3 at hgc p3 l3 ⊢
  refine seq_M (fun env S4 => ∃ (a' h' : Int) (v9 v10 : Option D) (js : List (Int × Int)), env = [some (.ref p), some (zoneD os sp), some (.int u), some (.tup (os.map .int)), some (.int sp), some (.int a'), some (.int off), some (.int h'), some (.ref c), v9, v10] ∧
    S4[c]? = some (.lst (js.map jumpD)) ∧ Pot p S4 ∧ Le p S S4 ∧ (js.length : Int) ≤ u ∧ Chart os sp off js) ?_ ?_
  · refine for_M (M.imp (P := fun r => ∃ m S4, r = (.tup [.int m], S4) ∧ 0 ≤ m ∧ m ≤ u ∧ (os.length = 1 → m = 0) ∧ Pot p S4 ∧ Le p S3 S4) ?_ ?_)
    · simp only [ex, ev, M_bind, M_map, M_some, M_ite, t_eq, a_tup, al_eq, List.getElem?_cons_zero, List.getElem?_cons_succ, Option.bind_some, Option.map_some, q_add, q_sub, q_lt, q_le, q_gt, q_ge, q_eqI, q_neI, q_eqB, q_neB, q_isN, q_notN, isNon, q_ixT, q_ixR, atI_0, atI_1, atI_2, atI_3, atI_4, atI_5, atI_6, atI_7, q_slT, q_slR, q_revT, q_seqT, q_int, q_intB, q_max, q_min, q_abs, q_tupT, n_tup, n_int, n_bl, n_non, n_str, isi_ii, isi_ib, isi_tt, isi_itl, isi_btl, isi_ttl, isi_tl, isi_bb, u_bl, u_int, u_non, u_tup, g_name, g_tup, g_nil, g_cons, o_ret, o_nx, i_seq, List.set_cons_zero, List.set_cons_succ, decide_eq_true_eq, Bool.not_eq_true', decide_eq_false_iff_not, evP, Bool.false_eq_true, if_true, if_false, ite_true, ite_false, reduceIte, Bool.not_true, Bool.not_false, Option.some.injEq, q_pow10, Int.reduceToNat, Int.reducePow, Int.reduceAdd, Int.reduceSub, Int.reduceMul, Int.reduceNeg, Int.reduceLT, Int.reduceLE, Nat.reducePow, Nat.reduceLT, Nat.reduceLeDiff, Nat.reduceAdd, List.length_cons, List.length_nil, Int.neg_neg]
      refine (draw_ok p3 (by omega) (by omega)).imp ?_
      rintro _ ⟨z, S4, rfl, h0, h1, p4, l4⟩
      simp only [ex, ev, M_bind, M_map, M_some, M_ite, t_eq, a_tup, al_eq, List.getElem?_cons_zero, List.getElem?_cons_succ, Option.bind_some, Option.map_some, q_add, q_sub, q_lt, q_le, q_gt, q_ge, q_eqI, q_neI, q_eqB, q_neB, q_isN, q_notN, isNon, q_ixT, q_ixR, atI_0, atI_1, atI_2, atI_3, atI_4, atI_5, atI_6, atI_7, q_slT, q_slR, q_revT, q_seqT, q_int, q_intB, q_max, q_min, q_abs, q_tupT, n_tup, n_int, n_bl, n_non, n_str, isi_ii, isi_ib, isi_tt, isi_itl, isi_btl, isi_ttl, isi_tl, isi_bb, u_bl, u_int, u_non, u_tup, g_name, g_tup, g_nil, g_cons, o_ret, o_nx, i_seq, List.set_cons_zero, List.set_cons_succ, decide_eq_true_eq, Bool.not_eq_true', decide_eq_false_iff_not, evP, Bool.false_eq_true, if_true, if_false, ite_true, ite_false, reduceIte, Bool.not_true, Bool.not_false, Option.some.injEq, q_pow10, Int.reduceToNat, Int.reducePow, Int.reduceAdd, Int.reduceSub, Int.reduceMul, Int.reduceNeg, Int.reduceLT, Int.reduceLE, Nat.reducePow, Nat.reduceLT, Nat.reduceLeDiff, Nat.reduceAdd, List.length_cons, List.length_nil, Int.neg_neg, q_len q_seqT, List.length_map]
      by_cases hl : (1 : Int) < os.length
      · simp only [hl, decide_true, if_true, q_mul (i := z) (j := 1) (by omega) (by omega) (by decide) (by decide), M_some]
        exact ⟨z * 1, S4, rfl, by omega, by omega, by omega, p4, l4⟩
      · simp only [hl, decide_false, Bool.false_eq_true, if_false, q_mul (i := z) (j := 0) (by omega) (by omega) (by decide) (by decide), M_some]
        exact ⟨z * 0, S4, rfl, by omega, by omega, by omega, p4, l4⟩
    rintro _ ⟨m, S4, rfl, m0, m1, m2, p4, l4⟩
    refine ⟨_, _, rfl, i_rng (i := m) (by omega) (by omega), ?_⟩
    have hg4 := l4.at hc hgc
    refine M_loopS (m := 0) (fun i env S5 => ∃ (a' h' : Int) (v9 v10 : Option D) (js : List (Int × Int)) (last : Int), env = [some (.ref p), some (zoneD os sp), some (.int u), some (.tup (os.map .int)), some (.int sp), some (.int a'), some (.int off), some (.int h'), some (.ref c), v9, v10] ∧
      S5[c]? = some (.lst (js.map jumpD)) ∧ Pot p S5 ∧ Le p S S5 ∧ js.length = i ∧ Chart os sp off js ∧ 0 ≤ a' ∧ a' < os.length ∧ os[a'.toNat]? = some last ∧ (off :: js.map (·.2)).getLast? = some last ∧ (∀ x, (js.map (·.1)).getLast? = some x → x + sp ≤ h')) ?_ ?_ ?_
    · exact ⟨a, h, none, none, [], off, rfl, hg4, p4, l3.trans l4, rfl, ⟨hom, by simp, Adj.nil, Adj.one⟩, a0, a1, ho, rfl, by simp⟩
    · rintro i d env S5 hi ⟨a', h', v9, v10, js, last, rfl, gc, p5, l5, jl, hch, b0, b1, hl, hlast, hfar⟩
      obtain ⟨im, rfl⟩ := rng_get hi
      have him : (i : Int) < m := by omega
      have o2 : os.length = 2 ∨ os.length = 3 := by
        have : os.length ≠ 1 := fun e => by have := m2 e; omega
        omega
      simp only [asgG, Option.bind_some, List.set_cons_succ, List.set_cons_zero]
      refine seq_M (fun env S6 => ∃ a2 : Int, env = [some (.ref p), some (zoneD os sp), some (.int u), some (.tup (os.map .int)), some (.int sp), some (.int a2), some (.int off), some (.int h'), some (.ref c), some (.int (0 + (i : Int))), v10] ∧ 0 ≤ a2 ∧ a2 < os.length ∧ a2 ≠ a' ∧ Pot p S6 ∧ Le p S5 S6) ?_ ?_
      · simp only [ex, ev, M_bind, M_map, M_some, M_ite, t_eq, a_tup, al_eq, List.getElem?_cons_zero, List.getElem?_cons_succ, Option.bind_some, Option.map_some, q_add, q_sub, q_lt, q_le, q_gt, q_ge, q_eqI, q_neI, q_eqB, q_neB, q_isN, q_notN, isNon, q_ixT, q_ixR, atI_0, atI_1, atI_2, atI_3, atI_4, atI_5, atI_6, atI_7, q_slT, q_slR, q_revT, q_seqT, q_int, q_intB, q_max, q_min, q_abs, q_tupT, n_tup, n_int, n_bl, n_non, n_str, isi_ii, isi_ib, isi_tt, isi_itl, isi_btl, isi_ttl, isi_tl, isi_bb, u_bl, u_int, u_non, u_tup, g_name, g_tup, g_nil, g_cons, o_ret, o_nx, i_seq, List.set_cons_zero, List.set_cons_succ, decide_eq_true_eq, Bool.not_eq_true', decide_eq_false_iff_not, evP, Bool.false_eq_true, if_true, if_false, ite_true, ite_false, reduceIte, Bool.not_true, Bool.not_false, Option.some.injEq, q_pow10, Int.reduceToNat, Int.reducePow, Int.reduceAdd, Int.reduceSub, Int.reduceMul, Int.reduceNeg, Int.reduceLT, Int.reduceLE, Nat.reducePow, Nat.reduceLT, Nat.reduceLeDiff, Nat.reduceAdd, List.length_cons, List.length_nil, Int.neg_neg, q_len q_seqT, List.length_map]
        refine (draw_ok p5 (by omega) (by omega)).imp ?_
        rintro _ ⟨z, S6, rfl, h0, h1, p6, l6⟩
        simp only [ex, ev, M_bind, M_map, M_some, M_ite, t_eq, a_tup, al_eq, List.getElem?_cons_zero, List.getElem?_cons_succ, Option.bind_some, Option.map_some, q_add, q_sub, q_lt, q_le, q_gt, q_ge, q_eqI, q_neI, q_eqB, q_neB, q_isN, q_notN, isNon, q_ixT, q_ixR, atI_0, atI_1, atI_2, atI_3, atI_4, atI_5, atI_6, atI_7, q_slT, q_slR, q_revT, q_seqT, q_int, q_intB, q_max, q_min, q_abs, q_tupT, n_tup, n_int, n_bl, n_non, n_str, isi_ii, isi_ib, isi_tt, isi_itl, isi_btl, isi_ttl, isi_tl, isi_bb, u_bl, u_int, u_non, u_tup, g_name, g_tup, g_nil, g_cons, o_ret, o_nx, i_seq, List.set_cons_zero, List.set_cons_succ, decide_eq_true_eq, Bool.not_eq_true', decide_eq_false_iff_not, evP, Bool.false_eq_true, if_true, if_false, ite_true, ite_false, reduceIte, Bool.not_true, Bool.not_false, Option.some.injEq, q_pow10, Int.reduceToNat, Int.reducePow, Int.reduceAdd, Int.reduceSub, Int.reduceMul, Int.reduceNeg, Int.reduceLT, Int.reduceLE, Nat.reducePow, Nat.reduceLT, Nat.reduceLeDiff, Nat.reduceAdd, List.length_cons, List.length_nil, Int.neg_neg, q_len q_seqT, List.length_map, q_mod (show (0 : Int) < (os.length : Int) by omega)]
        refine ⟨trivial, _, rfl, Int.emod_nonneg _ (by omega), Int.emod_lt_of_pos _ (by omega), ?_, p6, l6⟩
        rcases o2 with e | e <;> rw [e] at h1 b1 ⊢ <;> omega
      rintro _ S6 ⟨a2, rfl, c0, c1, c2, p6, l6⟩
      obtain ⟨nx, hn, hnm, hni⟩ := atI_os c0 c1
      have g6 := l6.at hc gc
      have js_lt : js.length < most := by
        have : (1000 : Nat) < most := by decide
        omega
      refine seq_M (fun env S7 => env = [some (.ref p), some (zoneD os sp), some (.int u), some (.tup (os.map .int)), some (.int sp), some (.int a2), some (.int off), some (.int h'), some (.ref c), some (.int (0 + (i : Int))), v10] ∧ S7 = S6.set c (.lst ((js ++ [(h', nx)]).map jumpD))) ?_ ?_
      · simp only [ex, ev, M_bind, M_map, M_some, M_ite, t_eq, a_tup, al_eq, List.getElem?_cons_zero, List.getElem?_cons_succ, Option.bind_some, Option.map_some, q_add, q_sub, q_lt, q_le, q_gt, q_ge, q_eqI, q_neI, q_eqB, q_neB, q_isN, q_notN, isNon, q_ixT, q_ixR, atI_0, atI_1, atI_2, atI_3, atI_4, atI_5, atI_6, atI_7, q_slT, q_slR, q_revT, q_seqT, q_int, q_intB, q_max, q_min, q_abs, q_tupT, n_tup, n_int, n_bl, n_non, n_str, isi_ii, isi_ib, isi_tt, isi_itl, isi_btl, isi_ttl, isi_tl, isi_bb, u_bl, u_int, u_non, u_tup, g_name, g_tup, g_nil, g_cons, o_ret, o_nx, i_seq, List.set_cons_zero, List.set_cons_succ, decide_eq_true_eq, Bool.not_eq_true', decide_eq_false_iff_not, evP, Bool.false_eq_true, if_true, if_false, ite_true, ite_false, reduceIte, Bool.not_true, Bool.not_false, Option.some.injEq, q_pow10, Int.reduceToNat, Int.reducePow, Int.reduceAdd, Int.reduceSub, Int.reduceMul, Int.reduceNeg, Int.reduceLT, Int.reduceLE, Nat.reducePow, Nat.reduceLT, Nat.reduceLeDiff, Nat.reduceAdd, List.length_cons, List.length_nil, Int.neg_neg, q_isL g6, hni, show (2 : Nat) ≤ most by decide]
        rw [q_app g6 (by simpa using js_lt)]
        simp only [M_some, List.map_append, List.map_cons, List.map_nil]
        exact ⟨trivial, trivial, rfl⟩
      rintro _ _ ⟨rfl, rfl⟩
      have p7 : Pot p (S6.set c (.lst ((js ++ [(h', nx)]).map jumpD))) := by
        obtain ⟨q, e⟩ := p6
        exact ⟨q, by rw [List.getElem?_set_ne hc]; exact e⟩
      have g7 : (S6.set c (.lst ((js ++ [(h', nx)]).map jumpD)))[c]? = some (.lst ((js ++ [(h', nx)]).map jumpD)) := List.getElem?_set_self (lt_of_get g6)
      have l7 : Le p S (S6.set c (.lst ((js ++ [(h', nx)]).map jumpD))) := fun k o hk e => by
        rw [List.getElem?_set_ne (fun z => hfree k o e hk z.symm)]
        exact (l5.trans l6) k o hk e
      generalize hS7 : S6.set c (.lst ((js ++ [(h', nx)]).map jumpD)) = S7 at p7 g7 l7 ⊢
      refine seq_M (fun env S8 => env = [some (.ref p), some (zoneD os sp), some (.int u), some (.tup (os.map .int)), some (.int sp), some (.int a2), some (.int off), some (.int (h' + sp)), some (.ref c), some (.int (0 + (i : Int))), v10] ∧ S7 = S8) ?_ ?_
      · simp only [ex, ev, M_bind, M_map, M_some, M_ite, t_eq, a_tup, al_eq, List.getElem?_cons_zero, List.getElem?_cons_succ, Option.bind_some, Option.map_some, q_add, q_sub, q_lt, q_le, q_gt, q_ge, q_eqI, q_neI, q_eqB, q_neB, q_isN, q_notN, isNon, q_ixT, q_ixR, atI_0, atI_1, atI_2, atI_3, atI_4, atI_5, atI_6, atI_7, q_slT, q_slR, q_revT, q_seqT, q_int, q_intB, q_max, q_min, q_abs, q_tupT, n_tup, n_int, n_bl, n_non, n_str, isi_ii, isi_ib, isi_tt, isi_itl, isi_btl, isi_ttl, isi_tl, isi_bb, u_bl, u_int, u_non, u_tup, g_name, g_tup, g_nil, g_cons, o_ret, o_nx, i_seq, List.set_cons_zero, List.set_cons_succ, decide_eq_true_eq, Bool.not_eq_true', decide_eq_false_iff_not, evP, Bool.false_eq_true, if_true, if_false, ite_true, ite_false, reduceIte, Bool.not_true, Bool.not_false, Option.some.injEq, q_pow10, Int.reduceToNat, Int.reducePow, Int.reduceAdd, Int.reduceSub, Int.reduceMul, Int.reduceNeg, Int.reduceLT, Int.reduceLE, Nat.reducePow, Nat.reduceLT, Nat.reduceLeDiff, Nat.reduceAdd, List.length_cons, List.length_nil, Int.neg_neg]
        exact ⟨trivial, trivial, trivial⟩
      rintro _ _ ⟨rfl, rfl⟩
      refine seq_M (fun env S8 => ∃ z : Int, env = [some (.ref p), some (zoneD os sp), some (.int u), some (.tup (os.map .int)), some (.int sp), some (.int a2), some (.int off), some (.int (h' + sp)), some (.ref c), some (.int (0 + (i : Int))), some (.int z)] ∧ 0 ≤ z ∧ z < 5 ∧ Pot p S8 ∧ Le p S7 S8) ?_ ?_
      · simp only [ex, ev, M_bind, M_map, M_some, M_ite, t_eq, a_tup, al_eq, List.getElem?_cons_zero, List.getElem?_cons_succ, Option.bind_some, Option.map_some, q_add, q_sub, q_lt, q_le, q_gt, q_ge, q_eqI, q_neI, q_eqB, q_neB, q_isN, q_notN, isNon, q_ixT, q_ixR, atI_0, atI_1, atI_2, atI_3, atI_4, atI_5, atI_6, atI_7, q_slT, q_slR, q_revT, q_seqT, q_int, q_intB, q_max, q_min, q_abs, q_tupT, n_tup, n_int, n_bl, n_non, n_str, isi_ii, isi_ib, isi_tt, isi_itl, isi_btl, isi_ttl, isi_tl, isi_bb, u_bl, u_int, u_non, u_tup, g_name, g_tup, g_nil, g_cons, o_ret, o_nx, i_seq, List.set_cons_zero, List.set_cons_succ, decide_eq_true_eq, Bool.not_eq_true', decide_eq_false_iff_not, evP, Bool.false_eq_true, if_true, if_false, ite_true, ite_false, reduceIte, Bool.not_true, Bool.not_false, Option.some.injEq, q_pow10, Int.reduceToNat, Int.reducePow, Int.reduceAdd, Int.reduceSub, Int.reduceMul, Int.reduceNeg, Int.reduceLT, Int.reduceLE, Nat.reducePow, Nat.reduceLT, Nat.reduceLeDiff, Nat.reduceAdd, List.length_cons, List.length_nil, Int.neg_neg]
        refine (draw_ok p7 (by omega) (by omega)).imp ?_
        rintro _ ⟨z, S8, rfl, h0, h1, p8, l8⟩
        exact ⟨trivial, z, rfl, h0, h1, p8, l8⟩
      rintro _ S8 ⟨z, rfl, z0, z1, p8, l8⟩
      have fin : ∀ (h2 : Int) (S9 : Hd), h' + sp ≤ h2 → Pot p S9 → Le p S7 S9 → ∃ (a' h' : Int) (v9 v10 : Option D) (js : List (Int × Int)) (last : Int), [some (D.ref p), some (zoneD os sp), some (.int u), some (.tup (os.map .int)), some (.int sp), some (.int a2), some (.int off), some (.int h2), some (.ref c), some (.int (0 + (i : Int))), some (.int z)] = [some (D.ref p), some (zoneD os sp), some (.int u), some (.tup (os.map .int)), some (.int sp), some (.int a'), some (.int off), some (.int h'), some (.ref c), v9, v10] ∧
          S9[c]? = some (.lst (js.map jumpD)) ∧ Pot p S9 ∧ Le p S S9 ∧ js.length = i + 1 ∧ Chart os sp off js ∧ 0 ≤ a' ∧ a' < os.length ∧ os[a'.toNat]? = some last ∧ (off :: js.map (·.2)).getLast? = some last ∧ (∀ x, (js.map (·.1)).getLast? = some x → x + sp ≤ h') := fun h2 S9 hh p9 l9 => by
        refine ⟨a2, h2, _, _, js ++ [(h', nx)], nx, rfl, l9.at hc g7, p9, l7.trans l9, by simp [jl], ⟨hom, ?_, ?_, ?_⟩, c0, c1, hn, ?_, ?_⟩
        · intro j hj
          rcases List.mem_append.mp hj with q | q
          · exact hch.mem j q
          · rw [List.mem_singleton.mp q]
            exact hnm
        · rw [List.map_append]
          exact hch.far.snoc hfar
        · rw [List.map_append, ← List.cons_append]
          refine hch.alt.snoc fun x hx => ?_
          rw [hlast] at hx
          cases hx
          exact os_ne hz.asc hl hn (fun e => c2 (by omega))
        · rw [List.map_append, ← List.cons_append]
          exact List.getLast?_concat
        · intro x hx
          rw [List.map_append] at hx
          simp at hx
          omega
      have sp0 : 0 < sp := by
        obtain ⟨x, hx⟩ : ∃ x, x ∈ os := ⟨off, hom⟩
        have := hz.gap x hx x hx
        omega
      have still : items .range1 [.int m] S8 = some ((List.range m.toNat).map fun (q : Nat) => .int (0 + (q : Int))) := i_rng (by omega) (by omega)
      simp only [ex, ev, M_bind, M_map, M_some, M_ite, t_eq, a_tup, al_eq, List.getElem?_cons_zero, List.getElem?_cons_succ, Option.bind_some, Option.map_some, q_add, q_sub, q_lt, q_le, q_gt, q_ge, q_eqI, q_neI, q_eqB, q_neB, q_isN, q_notN, isNon, q_ixT, q_ixR, atI_0, atI_1, atI_2, atI_3, atI_4, atI_5, atI_6, atI_7, q_slT, q_slR, q_revT, q_seqT, q_int, q_intB, q_max, q_min, q_abs, q_tupT, n_tup, n_int, n_bl, n_non, n_str, isi_ii, isi_ib, isi_tt, isi_itl, isi_btl, isi_ttl, isi_tl, isi_bb, u_bl, u_int, u_non, u_tup, g_name, g_tup, g_nil, g_cons, o_ret, o_nx, i_seq, List.set_cons_zero, List.set_cons_succ, decide_eq_true_eq, Bool.not_eq_true', decide_eq_false_iff_not, evP, Bool.false_eq_true, if_true, if_false, ite_true, ite_false, reduceIte, Bool.not_true, Bool.not_false, Option.some.injEq, q_pow10, Int.reduceToNat, Int.reducePow, Int.reduceAdd, Int.reduceSub, Int.reduceMul, Int.reduceNeg, Int.reduceLT, Int.reduceLE, Nat.reducePow, Nat.reduceLT, Nat.reduceLeDiff, Nat.reduceAdd, List.length_cons, List.length_nil, Int.neg_neg]
      by_cases hz2 : 2 < z
      · simp only [if_pos hz2, ex, ev, M_bind, M_map, M_some, M_ite, t_eq, a_tup, al_eq, List.getElem?_cons_zero, List.getElem?_cons_succ, Option.bind_some, Option.map_some, q_add, q_sub, q_lt, q_le, q_gt, q_ge, q_eqI, q_neI, q_eqB, q_neB, q_isN, q_notN, isNon, q_ixT, q_ixR, atI_0, atI_1, atI_2, atI_3, atI_4, atI_5, atI_6, atI_7, q_slT, q_slR, q_revT, q_seqT, q_int, q_intB, q_max, q_min, q_abs, q_tupT, n_tup, n_int, n_bl, n_non, n_str, isi_ii, isi_ib, isi_tt, isi_itl, isi_btl, isi_ttl, isi_tl, isi_bb, u_bl, u_int, u_non, u_tup, g_name, g_tup, g_nil, g_cons, o_ret, o_nx, i_seq, List.set_cons_zero, List.set_cons_succ, decide_eq_true_eq, Bool.not_eq_true', decide_eq_false_iff_not, evP, Bool.false_eq_true, if_true, if_false, ite_true, ite_false, reduceIte, Bool.not_true, Bool.not_false, Option.some.injEq, q_pow10, Int.reduceToNat, Int.reducePow, Int.reduceAdd, Int.reduceSub, Int.reduceMul, Int.reduceNeg, Int.reduceLT, Int.reduceLE, Nat.reducePow, Nat.reduceLT, Nat.reduceLeDiff, Nat.reduceAdd, List.length_cons, List.length_nil, Int.neg_neg, q_mul (i := 2) (j := sp) (by decide) (by decide) (by omega) (by have := hz.top; omega), show (5 : Nat) ≤ most by decide, Nat.zero_add]
        have hz3 : z = 3 ∨ z = 4 := by omega
        have top := hz.top
        rcases hz3 with rfl | rfl
        · simp only [q_ixL get_new, ex, ev, M_bind, M_map, M_some, M_ite, t_eq, a_tup, al_eq, List.getElem?_cons_zero, List.getElem?_cons_succ, Option.bind_some, Option.map_some, q_add, q_sub, q_lt, q_le, q_gt, q_ge, q_eqI, q_neI, q_eqB, q_neB, q_isN, q_notN, isNon, q_ixT, q_ixR, atI_0, atI_1, atI_2, atI_3, atI_4, atI_5, atI_6, atI_7, q_slT, q_slR, q_revT, q_seqT, q_int, q_intB, q_max, q_min, q_abs, q_tupT, n_tup, n_int, n_bl, n_non, n_str, isi_ii, isi_ib, isi_tt, isi_itl, isi_btl, isi_ttl, isi_tl, isi_bb, u_bl, u_int, u_non, u_tup, g_name, g_tup, g_nil, g_cons, o_ret, o_nx, i_seq, List.set_cons_zero, List.set_cons_succ, decide_eq_true_eq, Bool.not_eq_true', decide_eq_false_iff_not, evP, Bool.false_eq_true, if_true, if_false, ite_true, ite_false, reduceIte, Bool.not_true, Bool.not_false, Option.some.injEq, q_pow10, Int.reduceToNat, Int.reducePow, Int.reduceAdd, Int.reduceSub, Int.reduceMul, Int.reduceNeg, Int.reduceLT, Int.reduceLE, Nat.reducePow, Nat.reduceLT, Nat.reduceLeDiff, Nat.reduceAdd, List.length_cons, List.length_nil, Int.neg_neg]
          refine (draw_ok (p8.app _) (by omega) (by omega)).imp ?_
          rintro _ ⟨y, S9, rfl, y0, y1, p9, l9⟩
          simp only [ex, ev, M_bind, M_map, M_some, M_ite, t_eq, a_tup, al_eq, List.getElem?_cons_zero, List.getElem?_cons_succ, Option.bind_some, Option.map_some, q_add, q_sub, q_lt, q_le, q_gt, q_ge, q_eqI, q_neI, q_eqB, q_neB, q_isN, q_notN, isNon, q_ixT, q_ixR, atI_0, atI_1, atI_2, atI_3, atI_4, atI_5, atI_6, atI_7, q_slT, q_slR, q_revT, q_seqT, q_int, q_intB, q_max, q_min, q_abs, q_tupT, n_tup, n_int, n_bl, n_non, n_str, isi_ii, isi_ib, isi_tt, isi_itl, isi_btl, isi_ttl, isi_tl, isi_bb, u_bl, u_int, u_non, u_tup, g_name, g_tup, g_nil, g_cons, o_ret, o_nx, i_seq, List.set_cons_zero, List.set_cons_succ, decide_eq_true_eq, Bool.not_eq_true', decide_eq_false_iff_not, evP, Bool.false_eq_true, if_true, if_false, ite_true, ite_false, reduceIte, Bool.not_true, Bool.not_false, Option.some.injEq, q_pow10, Int.reduceToNat, Int.reducePow, Int.reduceAdd, Int.reduceSub, Int.reduceMul, Int.reduceNeg, Int.reduceLT, Int.reduceLE, Nat.reducePow, Nat.reduceLT, Nat.reduceLeDiff, Nat.reduceAdd, List.length_cons, List.length_nil, Int.neg_neg]
          exact ⟨i_rng (by omega) (by omega), fin (h' + sp + y) _ (by omega) p9 ((l8.trans (Le.app _ _ _)).trans l9)⟩
        · simp only [q_ixL get_new, ex, ev, M_bind, M_map, M_some, M_ite, t_eq, a_tup, al_eq, List.getElem?_cons_zero, List.getElem?_cons_succ, Option.bind_some, Option.map_some, q_add, q_sub, q_lt, q_le, q_gt, q_ge, q_eqI, q_neI, q_eqB, q_neB, q_isN, q_notN, isNon, q_ixT, q_ixR, atI_0, atI_1, atI_2, atI_3, atI_4, atI_5, atI_6, atI_7, q_slT, q_slR, q_revT, q_seqT, q_int, q_intB, q_max, q_min, q_abs, q_tupT, n_tup, n_int, n_bl, n_non, n_str, isi_ii, isi_ib, isi_tt, isi_itl, isi_btl, isi_ttl, isi_tl, isi_bb, u_bl, u_int, u_non, u_tup, g_name, g_tup, g_nil, g_cons, o_ret, o_nx, i_seq, List.set_cons_zero, List.set_cons_succ, decide_eq_true_eq, Bool.not_eq_true', decide_eq_false_iff_not, evP, Bool.false_eq_true, if_true, if_false, ite_true, ite_false, reduceIte, Bool.not_true, Bool.not_false, Option.some.injEq, q_pow10, Int.reduceToNat, Int.reducePow, Int.reduceAdd, Int.reduceSub, Int.reduceMul, Int.reduceNeg, Int.reduceLT, Int.reduceLE, Nat.reducePow, Nat.reduceLT, Nat.reduceLeDiff, Nat.reduceAdd, List.length_cons, List.length_nil, Int.neg_neg]
          refine (draw_ok (p8.app _) (by omega) (by omega)).imp ?_
          rintro _ ⟨y, S9, rfl, y0, y1, p9, l9⟩
          simp only [ex, ev, M_bind, M_map, M_some, M_ite, t_eq, a_tup, al_eq, List.getElem?_cons_zero, List.getElem?_cons_succ, Option.bind_some, Option.map_some, q_add, q_sub, q_lt, q_le, q_gt, q_ge, q_eqI, q_neI, q_eqB, q_neB, q_isN, q_notN, isNon, q_ixT, q_ixR, atI_0, atI_1, atI_2, atI_3, atI_4, atI_5, atI_6, atI_7, q_slT, q_slR, q_revT, q_seqT, q_int, q_intB, q_max, q_min, q_abs, q_tupT, n_tup, n_int, n_bl, n_non, n_str, isi_ii, isi_ib, isi_tt, isi_itl, isi_btl, isi_ttl, isi_tl, isi_bb, u_bl, u_int, u_non, u_tup, g_name, g_tup, g_nil, g_cons, o_ret, o_nx, i_seq, List.set_cons_zero, List.set_cons_succ, decide_eq_true_eq, Bool.not_eq_true', decide_eq_false_iff_not, evP, Bool.false_eq_true, if_true, if_false, ite_true, ite_false, reduceIte, Bool.not_true, Bool.not_false, Option.some.injEq, q_pow10, Int.reduceToNat, Int.reducePow, Int.reduceAdd, Int.reduceSub, Int.reduceMul, Int.reduceNeg, Int.reduceLT, Int.reduceLE, Nat.reducePow, Nat.reduceLT, Nat.reduceLeDiff, Nat.reduceAdd, List.length_cons, List.length_nil, Int.neg_neg]
          exact ⟨i_rng (by omega) (by omega), fin (h' + sp + y) _ (by omega) p9 ((l8.trans (Le.app _ _ _)).trans l9)⟩
      · simp only [if_neg hz2, Nat.zero_add]
        exact ⟨still, fin (h' + sp) _ (by omega) p8 l8⟩
    · rintro env S5 ⟨a', h', v9, v10, js, last, rfl, gc, p5, l5, jl, hch, _⟩
      refine ⟨rfl, a', h', v9, v10, js, rfl, gc, p5, l5, ?_, hch⟩
      simp at jl
      omega
  rintro _ S4 ⟨a', h', v9, v10, js, rfl, gc, p4, l4, jl, hch⟩
  simp only [ex, ev, M_bind, M_map, M_some, M_ite, t_eq, a_tup, al_eq, List.getElem?_cons_zero, List.getElem?_cons_succ, Option.bind_some, Option.map_some, q_add, q_sub, q_lt, q_le, q_gt, q_ge, q_eqI, q_neI, q_eqB, q_neB, q_isN, q_notN, isNon, q_ixT, q_ixR, atI_0, atI_1, atI_2, atI_3, atI_4, atI_5, atI_6, atI_7, q_slT, q_slR, q_revT, q_seqT, q_int, q_intB, q_max, q_min, q_abs, q_tupT, n_tup, n_int, n_bl, n_non, n_str, isi_ii, isi_ib, isi_tt, isi_itl, isi_btl, isi_ttl, isi_tl, isi_bb, u_bl, u_int, u_non, u_tup, g_name, g_tup, g_nil, g_cons, o_ret, o_nx, i_seq, List.set_cons_zero, List.set_cons_succ, decide_eq_true_eq, Bool.not_eq_true', decide_eq_false_iff_not, evP, Bool.false_eq_true, if_true, if_false, ite_true, ite_false, reduceIte, Bool.not_true, Bool.not_false, Option.some.injEq, q_pow10, Int.reduceToNat, Int.reducePow, Int.reduceAdd, Int.reduceSub, Int.reduceMul, Int.reduceNeg, Int.reduceLT, Int.reduceLE, Nat.reducePow, Nat.reduceLT, Nat.reduceLeDiff, Nat.reduceAdd, List.length_cons, List.length_nil, Int.neg_neg, q_tupL gc, show (2 : Nat) ≤ most by decide]
  exact ⟨off, js, _, rfl, hch, jl, p4, l4⟩
end Lw

namespace Lw
open PySem L2 Ix
/-! ### the program's tests of what is a zone, a table -/
theorem is_number_ok {n : Nat} {S : Hd} {i : Int} : Pu (run T (n + 1) 0 [.int i] S) (.bl true) S := by
  refine Pu.run T_is_number rfl ?_
  show M (ex (run T n) b_is_number [some (.int i)] S) _
  unfold b_is_number
  simp only [ex, ev, M_bind, M_map, M_some, M_ite, t_eq, a_tup, al_eq, List.getElem?_cons_zero, List.getElem?_cons_succ, Option.bind_some, Option.map_some, q_add, q_sub, q_lt, q_le, q_gt, q_ge, q_eqI, q_neI, q_eqB, q_neB, q_isN, q_notN, isNon, q_ixT, q_ixR, atI_0, atI_1, atI_2, atI_3, atI_4, atI_5, atI_6, atI_7, q_slT, q_slR, q_revT, q_seqT, q_int, q_intB, q_max, q_min, q_abs, q_tupT, n_tup, n_int, n_bl, n_non, n_str, isi_ii, isi_ib, isi_tt, isi_itl, isi_btl, isi_ttl, isi_tl, isi_bb, u_bl, u_int, u_non, u_tup, g_name, g_tup, g_nil, g_cons, o_ret, o_nx, i_seq, List.set_cons_zero, List.set_cons_succ, decide_eq_true_eq, Bool.not_eq_true', decide_eq_false_iff_not, evP, Bool.false_eq_true, if_true, if_false, ite_true, ite_false, reduceIte, Bool.not_true, Bool.not_false, Option.some.injEq, q_pow10, Int.reduceToNat, Int.reducePow, Int.reduceAdd, Int.reduceSub, Int.reduceMul, Int.reduceNeg, Int.reduceLT, Int.reduceLE, Nat.reducePow, Nat.reduceLT, Nat.reduceLeDiff, Nat.reduceAdd, List.length_cons, List.length_nil, Int.neg_neg]
  exact ⟨trivial, Lq.refl _⟩
theorem whole_ok {n : Nat} {S : Hd} {i : Int} : Pu (run T (n + 1) 24 [.int i] S) (.bl true) S := by
  refine Pu.run T_whole rfl ?_
  show M (ex (run T n) b_whole [some (.int i)] S) _
  unfold b_whole
  simp only [ex, ev, M_bind, M_map, M_some, M_ite, t_eq, a_tup, al_eq, List.getElem?_cons_zero, List.getElem?_cons_succ, Option.bind_some, Option.map_some, q_add, q_sub, q_lt, q_le, q_gt, q_ge, q_eqI, q_neI, q_eqB, q_neB, q_isN, q_notN, isNon, q_ixT, q_ixR, atI_0, atI_1, atI_2, atI_3, atI_4, atI_5, atI_6, atI_7, q_slT, q_slR, q_revT, q_seqT, q_int, q_intB, q_max, q_min, q_abs, q_tupT, n_tup, n_int, n_bl, n_non, n_str, isi_ii, isi_ib, isi_tt, isi_itl, isi_btl, isi_ttl, isi_tl, isi_bb, u_bl, u_int, u_non, u_tup, g_name, g_tup, g_nil, g_cons, o_ret, o_nx, i_seq, List.set_cons_zero, List.set_cons_succ, decide_eq_true_eq, Bool.not_eq_true', decide_eq_false_iff_not, evP, Bool.false_eq_true, if_true, if_false, ite_true, ite_false, reduceIte, Bool.not_true, Bool.not_false, Option.some.injEq, q_pow10, Int.reduceToNat, Int.reducePow, Int.reduceAdd, Int.reduceSub, Int.reduceMul, Int.reduceNeg, Int.reduceLT, Int.reduceLE, Nat.reducePow, Nat.reduceLT, Nat.reduceLeDiff, Nat.reduceAdd, List.length_cons, List.length_nil, Int.neg_neg]
  exact ⟨trivial, Lq.refl _⟩
theorem is_pair_ok {n : Nat} {S : Hd} {a b : D} : Pu (run T (n + 1) 1 [.tup [a, b]] S) (.bl true) S := by
  refine Pu.run T_is_pair rfl ?_
  show M (ex (run T n) b_is_pair [some (.tup [a, b])] S) _
  unfold b_is_pair
  simp only [ex, ev, M_bind, M_map, M_some, M_ite, t_eq, a_tup, al_eq, List.getElem?_cons_zero, List.getElem?_cons_succ, Option.bind_some, Option.map_some, q_add, q_sub, q_lt, q_le, q_gt, q_ge, q_eqI, q_neI, q_eqB, q_neB, q_isN, q_notN, isNon, q_ixT, q_ixR, atI_0, atI_1, atI_2, atI_3, atI_4, atI_5, atI_6, atI_7, q_slT, q_slR, q_revT, q_seqT, q_int, q_intB, q_max, q_min, q_abs, q_tupT, n_tup, n_int, n_bl, n_non, n_str, isi_ii, isi_ib, isi_tt, isi_itl, isi_btl, isi_ttl, isi_tl, isi_bb, u_bl, u_int, u_non, u_tup, g_name, g_tup, g_nil, g_cons, o_ret, o_nx, i_seq, List.set_cons_zero, List.set_cons_succ, decide_eq_true_eq, Bool.not_eq_true', decide_eq_false_iff_not, evP, Bool.false_eq_true, if_true, if_false, ite_true, ite_false, reduceIte, Bool.not_true, Bool.not_false, Option.some.injEq, q_pow10, Int.reduceToNat, Int.reducePow, Int.reduceAdd, Int.reduceSub, Int.reduceMul, Int.reduceNeg, Int.reduceLT, Int.reduceLE, Nat.reducePow, Nat.reduceLT, Nat.reduceLeDiff, Nat.reduceAdd, List.length_cons, List.length_nil, Int.neg_neg, q_len q_seqT]
  exact ⟨rfl, Lq.refl _⟩
theorem is_near_ok {n : Nat} {S : Hd} {i : Int} (h1 : -900 ≤ i) (h2 : i ≤ 900) : Pu (run T (n + 2) 4 [.int i] S) (.bl true) S := by
  refine Pu.run T_is_near rfl ?_
  show M (ex (run T (n + 1)) b_is_near [some (.int i)] S) _
  unfold b_is_near
  simp only [ex, ev, M_bind, M_map, M_some, M_ite, t_eq, a_tup, al_eq, List.getElem?_cons_zero, List.getElem?_cons_succ, Option.bind_some, Option.map_some, q_add, q_sub, q_lt, q_le, q_gt, q_ge, q_eqI, q_neI, q_eqB, q_neB, q_isN, q_notN, isNon, q_ixT, q_ixR, atI_0, atI_1, atI_2, atI_3, atI_4, atI_5, atI_6, atI_7, q_slT, q_slR, q_revT, q_seqT, q_int, q_intB, q_max, q_min, q_abs, q_tupT, n_tup, n_int, n_bl, n_non, n_str, isi_ii, isi_ib, isi_tt, isi_itl, isi_btl, isi_ttl, isi_tl, isi_bb, u_bl, u_int, u_non, u_tup, g_name, g_tup, g_nil, g_cons, o_ret, o_nx, i_seq, List.set_cons_zero, List.set_cons_succ, decide_eq_true_eq, Bool.not_eq_true', decide_eq_false_iff_not, evP, Bool.false_eq_true, if_true, if_false, ite_true, ite_false, reduceIte, Bool.not_true, Bool.not_false, Option.some.injEq, q_pow10, Int.reduceToNat, Int.reducePow, Int.reduceAdd, Int.reduceSub, Int.reduceMul, Int.reduceNeg, Int.reduceLT, Int.reduceLE, Nat.reducePow, Nat.reduceLT, Nat.reduceLeDiff, Nat.reduceAdd, List.length_cons, List.length_nil, Int.neg_neg]
  refine is_number_ok.use fun S1 l1 => ?_
  simp only [ex, ev, M_bind, M_map, M_some, M_ite, t_eq, a_tup, al_eq, List.getElem?_cons_zero, List.getElem?_cons_succ, Option.bind_some, Option.map_some, q_add, q_sub, q_lt, q_le, q_gt, q_ge, q_eqI, q_neI, q_eqB, q_neB, q_isN, q_notN, isNon, q_ixT, q_ixR, atI_0, atI_1, atI_2, atI_3, atI_4, atI_5, atI_6, atI_7, q_slT, q_slR, q_revT, q_seqT, q_int, q_intB, q_max, q_min, q_abs, q_tupT, n_tup, n_int, n_bl, n_non, n_str, isi_ii, isi_ib, isi_tt, isi_itl, isi_btl, isi_ttl, isi_tl, isi_bb, u_bl, u_int, u_non, u_tup, g_name, g_tup, g_nil, g_cons, o_ret, o_nx, i_seq, List.set_cons_zero, List.set_cons_succ, decide_eq_true_eq, Bool.not_eq_true', decide_eq_false_iff_not, evP, Bool.false_eq_true, if_true, if_false, ite_true, ite_false, reduceIte, Bool.not_true, Bool.not_false, Option.some.injEq, q_pow10, Int.reduceToNat, Int.reducePow, Int.reduceAdd, Int.reduceSub, Int.reduceMul, Int.reduceNeg, Int.reduceLT, Int.reduceLE, Nat.reducePow, Nat.reduceLT, Nat.reduceLeDiff, Nat.reduceAdd, List.length_cons, List.length_nil, Int.neg_neg, h1, h2, decide_true]
  exact ⟨trivial, l1⟩
theorem is_ascending_ok {n : Nat} {S : Hd} {os : List Int} (ha : os.Pairwise (· < ·)) (hz : os.length ≤ 1000) : Pu (run T (n + 1) 3 [.tup (os.map .int)] S) (.bl true) S := by
  refine Pu.run T_is_ascending rfl ?_
  show M (ex (run T n) b_is_ascending [some (.tup (os.map .int)), none, none] S) _
  unfold b_is_ascending
  simp only [ex, M_map]
  refine M_allT (S1 := S) (ds := [.tup (os.map .int), .tup ((os.map D.int).drop 1)]) (its := List.zipWith (fun a b => D.tup [a, b]) (os.map .int) ((os.map .int).drop 1)) (by decide)
    (by simp only [ex, ev, M_bind, M_map, M_some, M_ite, t_eq, a_tup, al_eq, List.getElem?_cons_zero, List.getElem?_cons_succ, Option.bind_some, Option.map_some, q_add, q_sub, q_lt, q_le, q_gt, q_ge, q_eqI, q_neI, q_eqB, q_neB, q_isN, q_notN, isNon, q_ixT, q_ixR, atI_0, atI_1, atI_2, atI_3, atI_4, atI_5, atI_6, atI_7, q_slT, q_slR, q_revT, q_seqT, q_int, q_intB, q_max, q_min, q_abs, q_tupT, n_tup, n_int, n_bl, n_non, n_str, isi_ii, isi_ib, isi_tt, isi_itl, isi_btl, isi_ttl, isi_tl, isi_bb, u_bl, u_int, u_non, u_tup, g_name, g_tup, g_nil, g_cons, o_ret, o_nx, i_seq, List.set_cons_zero, List.set_cons_succ, decide_eq_true_eq, Bool.not_eq_true', decide_eq_false_iff_not, evP, Bool.false_eq_true, if_true, if_false, ite_true, ite_false, reduceIte, Bool.not_true, Bool.not_false, Option.some.injEq, q_pow10, Int.reduceToNat, Int.reducePow, Int.reduceAdd, Int.reduceSub, Int.reduceMul, Int.reduceNeg, Int.reduceLT, Int.reduceLE, Nat.reducePow, Nat.reduceLT, Nat.reduceLeDiff, Nat.reduceAdd, List.length_cons, List.length_nil, Int.neg_neg, cut_1]) (Lq.refl _) rfl (by have h : (1000 : Nat) < most := (by decide); simp; omega) (fun i d S2 hi l => ?_) (fun _ _ => rfl) fun S2 l => ?_
  · obtain ⟨x, y, e1, e2, rfl⟩ := zip_get hi
    refine ⟨_, rfl, ?_⟩
    simp only [wipeD, ex, ev, M_bind, M_map, M_some, M_ite, t_eq, a_tup, al_eq, List.getElem?_cons_zero, List.getElem?_cons_succ, Option.bind_some, Option.map_some, q_add, q_sub, q_lt, q_le, q_gt, q_ge, q_eqI, q_neI, q_eqB, q_neB, q_isN, q_notN, isNon, q_ixT, q_ixR, atI_0, atI_1, atI_2, atI_3, atI_4, atI_5, atI_6, atI_7, q_slT, q_slR, q_revT, q_seqT, q_int, q_intB, q_max, q_min, q_abs, q_tupT, n_tup, n_int, n_bl, n_non, n_str, isi_ii, isi_ib, isi_tt, isi_itl, isi_btl, isi_ttl, isi_tl, isi_bb, u_bl, u_int, u_non, u_tup, g_name, g_tup, g_nil, g_cons, o_ret, o_nx, i_seq, List.set_cons_zero, List.set_cons_succ, decide_eq_true_eq, Bool.not_eq_true', decide_eq_false_iff_not, evP, Bool.false_eq_true, if_true, if_false, ite_true, ite_false, reduceIte, Bool.not_true, Bool.not_false, Option.some.injEq, q_pow10, Int.reduceToNat, Int.reducePow, Int.reduceAdd, Int.reduceSub, Int.reduceMul, Int.reduceNeg, Int.reduceLT, Int.reduceLE, Nat.reducePow, Nat.reduceLT, Nat.reduceLeDiff, Nat.reduceAdd, List.length_cons, List.length_nil, Int.neg_neg]
    refine ⟨?_, Lq.refl _⟩
    rw [List.pairwise_iff_getElem] at ha
    obtain ⟨q1, e1⟩ := List.getElem?_eq_some_iff.mp e1
    obtain ⟨q2, e2⟩ := List.getElem?_eq_some_iff.mp e2
    have := ha i (i + 1) q1 q2 (by omega)
    rw [e1, e2] at this
    simp [this]
  · simp only [ex, ev, M_bind, M_map, M_some, M_ite, t_eq, a_tup, al_eq, List.getElem?_cons_zero, List.getElem?_cons_succ, Option.bind_some, Option.map_some, q_add, q_sub, q_lt, q_le, q_gt, q_ge, q_eqI, q_neI, q_eqB, q_neB, q_isN, q_notN, isNon, q_ixT, q_ixR, atI_0, atI_1, atI_2, atI_3, atI_4, atI_5, atI_6, atI_7, q_slT, q_slR, q_revT, q_seqT, q_int, q_intB, q_max, q_min, q_abs, q_tupT, n_tup, n_int, n_bl, n_non, n_str, isi_ii, isi_ib, isi_tt, isi_itl, isi_btl, isi_ttl, isi_tl, isi_bb, u_bl, u_int, u_non, u_tup, g_name, g_tup, g_nil, g_cons, o_ret, o_nx, i_seq, List.set_cons_zero, List.set_cons_succ, decide_eq_true_eq, Bool.not_eq_true', decide_eq_false_iff_not, evP, Bool.false_eq_true, if_true, if_false, ite_true, ite_false, reduceIte, Bool.not_true, Bool.not_false, Option.some.injEq, q_pow10, Int.reduceToNat, Int.reducePow, Int.reduceAdd, Int.reduceSub, Int.reduceMul, Int.reduceNeg, Int.reduceLT, Int.reduceLE, Nat.reducePow, Nat.reduceLT, Nat.reduceLeDiff, Nat.reduceAdd, List.length_cons, List.length_nil, Int.neg_neg]
    exact ⟨trivial, l⟩
theorem are_offsets_ok {n : Nat} {S : Hd} {os : List Int} {sp : Int} (hz : Zone os sp) : Pu (run T (n + 3) 5 [.tup (os.map .int)] S) (.bl true) S := by
  have o1 := hz.len1
  have o3 := hz.len3
  refine Pu.run T_are_offsets rfl ?_
  show M (ex (run T (n + 2)) b_are_offsets [some (.tup (os.map .int)), none] S) _
  unfold b_are_offsets
  refine seq_M (fun env S1 => env = [some (.tup (os.map .int)), none] ∧ S = S1) ?_ ?_
  · simp only [ex, ev, M_bind, M_map, M_some, M_ite, t_eq, a_tup, al_eq, List.getElem?_cons_zero, List.getElem?_cons_succ, Option.bind_some, Option.map_some, q_add, q_sub, q_lt, q_le, q_gt, q_ge, q_eqI, q_neI, q_eqB, q_neB, q_isN, q_notN, isNon, q_ixT, q_ixR, atI_0, atI_1, atI_2, atI_3, atI_4, atI_5, atI_6, atI_7, q_slT, q_slR, q_revT, q_seqT, q_int, q_intB, q_max, q_min, q_abs, q_tupT, n_tup, n_int, n_bl, n_non, n_str, isi_ii, isi_ib, isi_tt, isi_itl, isi_btl, isi_ttl, isi_tl, isi_bb, u_bl, u_int, u_non, u_tup, g_name, g_tup, g_nil, g_cons, o_ret, o_nx, i_seq, List.set_cons_zero, List.set_cons_succ, decide_eq_true_eq, Bool.not_eq_true', decide_eq_false_iff_not, evP, Bool.false_eq_true, if_true, if_false, ite_true, ite_false, reduceIte, Bool.not_true, Bool.not_false, Option.some.injEq, q_pow10, Int.reduceToNat, Int.reducePow, Int.reduceAdd, Int.reduceSub, Int.reduceMul, Int.reduceNeg, Int.reduceLT, Int.reduceLE, Nat.reducePow, Nat.reduceLT, Nat.reduceLeDiff, Nat.reduceAdd, List.length_cons, List.length_nil, Int.neg_neg, q_len q_seqT, List.length_map, show decide ((1 : Int) ≤ (os.length : Int)) = true by simp; omega, show decide ((os.length : Int) ≤ 3) = true by simp; omega]
    exact ⟨trivial, trivial, trivial⟩
  rintro _ _ ⟨rfl, rfl⟩
  simp only [ex, M_map]
  refine M_and (M_allT (S1 := S) (ds := [.tup (os.map .int)]) (its := os.map .int) (by decide) (by simp only [ex, ev, M_bind, M_map, M_some, M_ite, t_eq, a_tup, al_eq, List.getElem?_cons_zero, List.getElem?_cons_succ, Option.bind_some, Option.map_some, q_add, q_sub, q_lt, q_le, q_gt, q_ge, q_eqI, q_neI, q_eqB, q_neB, q_isN, q_notN, isNon, q_ixT, q_ixR, atI_0, atI_1, atI_2, atI_3, atI_4, atI_5, atI_6, atI_7, q_slT, q_slR, q_revT, q_seqT, q_int, q_intB, q_max, q_min, q_abs, q_tupT, n_tup, n_int, n_bl, n_non, n_str, isi_ii, isi_ib, isi_tt, isi_itl, isi_btl, isi_ttl, isi_tl, isi_bb, u_bl, u_int, u_non, u_tup, g_name, g_tup, g_nil, g_cons, o_ret, o_nx, i_seq, List.set_cons_zero, List.set_cons_succ, decide_eq_true_eq, Bool.not_eq_true', decide_eq_false_iff_not, evP, Bool.false_eq_true, if_true, if_false, ite_true, ite_false, reduceIte, Bool.not_true, Bool.not_false, Option.some.injEq, q_pow10, Int.reduceToNat, Int.reducePow, Int.reduceAdd, Int.reduceSub, Int.reduceMul, Int.reduceNeg, Int.reduceLT, Int.reduceLE, Nat.reducePow, Nat.reduceLT, Nat.reduceLeDiff, Nat.reduceAdd, List.length_cons, List.length_nil, Int.neg_neg]) (Lq.refl _) rfl (by have h : (1000 : Nat) < most := (by decide); simp; omega) (fun i d S2 hi l => ?_) (fun _ _ => rfl) fun S2 l => ⟨rfl, ?_⟩)
  · rw [List.getElem?_map] at hi
    cases hx : os[i]? with
    | none => rw [hx] at hi; cases hi
    | some x =>
      rw [hx] at hi
      simp only [Option.map_some, Option.some.injEq] at hi
      subst hi
      refine ⟨_, rfl, ?_⟩
      simp only [wipeD, ex, ev, M_bind, M_map, M_some, M_ite, t_eq, a_tup, al_eq, List.getElem?_cons_zero, List.getElem?_cons_succ, Option.bind_some, Option.map_some, q_add, q_sub, q_lt, q_le, q_gt, q_ge, q_eqI, q_neI, q_eqB, q_neB, q_isN, q_notN, isNon, q_ixT, q_ixR, atI_0, atI_1, atI_2, atI_3, atI_4, atI_5, atI_6, atI_7, q_slT, q_slR, q_revT, q_seqT, q_int, q_intB, q_max, q_min, q_abs, q_tupT, n_tup, n_int, n_bl, n_non, n_str, isi_ii, isi_ib, isi_tt, isi_itl, isi_btl, isi_ttl, isi_tl, isi_bb, u_bl, u_int, u_non, u_tup, g_name, g_tup, g_nil, g_cons, o_ret, o_nx, i_seq, List.set_cons_zero, List.set_cons_succ, decide_eq_true_eq, Bool.not_eq_true', decide_eq_false_iff_not, evP, Bool.false_eq_true, if_true, if_false, ite_true, ite_false, reduceIte, Bool.not_true, Bool.not_false, Option.some.injEq, q_pow10, Int.reduceToNat, Int.reducePow, Int.reduceAdd, Int.reduceSub, Int.reduceMul, Int.reduceNeg, Int.reduceLT, Int.reduceLE, Nat.reducePow, Nat.reduceLT, Nat.reduceLeDiff, Nat.reduceAdd, List.length_cons, List.length_nil, Int.neg_neg]
      exact is_near_ok (hz.lo x (List.mem_of_getElem? hx)) (hz.hi x (List.mem_of_getElem? hx))
  · simp only [ex, ev, M_bind, M_map, M_some, M_ite, t_eq, a_tup, al_eq, List.getElem?_cons_zero, List.getElem?_cons_succ, Option.bind_some, Option.map_some, q_add, q_sub, q_lt, q_le, q_gt, q_ge, q_eqI, q_neI, q_eqB, q_neB, q_isN, q_notN, isNon, q_ixT, q_ixR, atI_0, atI_1, atI_2, atI_3, atI_4, atI_5, atI_6, atI_7, q_slT, q_slR, q_revT, q_seqT, q_int, q_intB, q_max, q_min, q_abs, q_tupT, n_tup, n_int, n_bl, n_non, n_str, isi_ii, isi_ib, isi_tt, isi_itl, isi_btl, isi_ttl, isi_tl, isi_bb, u_bl, u_int, u_non, u_tup, g_name, g_tup, g_nil, g_cons, o_ret, o_nx, i_seq, List.set_cons_zero, List.set_cons_succ, decide_eq_true_eq, Bool.not_eq_true', decide_eq_false_iff_not, evP, Bool.false_eq_true, if_true, if_false, ite_true, ite_false, reduceIte, Bool.not_true, Bool.not_false, Option.some.injEq, q_pow10, Int.reduceToNat, Int.reducePow, Int.reduceAdd, Int.reduceSub, Int.reduceMul, Int.reduceNeg, Int.reduceLT, Int.reduceLE, Nat.reducePow, Nat.reduceLT, Nat.reduceLeDiff, Nat.reduceAdd, List.length_cons, List.length_nil, Int.neg_neg]
    refine (is_ascending_ok hz.asc (by omega)).use fun S3 l3 => ?_
    simp only [ex, ev, M_bind, M_map, M_some, M_ite, t_eq, a_tup, al_eq, List.getElem?_cons_zero, List.getElem?_cons_succ, Option.bind_some, Option.map_some, q_add, q_sub, q_lt, q_le, q_gt, q_ge, q_eqI, q_neI, q_eqB, q_neB, q_isN, q_notN, isNon, q_ixT, q_ixR, atI_0, atI_1, atI_2, atI_3, atI_4, atI_5, atI_6, atI_7, q_slT, q_slR, q_revT, q_seqT, q_int, q_intB, q_max, q_min, q_abs, q_tupT, n_tup, n_int, n_bl, n_non, n_str, isi_ii, isi_ib, isi_tt, isi_itl, isi_btl, isi_ttl, isi_tl, isi_bb, u_bl, u_int, u_non, u_tup, g_name, g_tup, g_nil, g_cons, o_ret, o_nx, i_seq, List.set_cons_zero, List.set_cons_succ, decide_eq_true_eq, Bool.not_eq_true', decide_eq_false_iff_not, evP, Bool.false_eq_true, if_true, if_false, ite_true, ite_false, reduceIte, Bool.not_true, Bool.not_false, Option.some.injEq, q_pow10, Int.reduceToNat, Int.reducePow, Int.reduceAdd, Int.reduceSub, Int.reduceMul, Int.reduceNeg, Int.reduceLT, Int.reduceLE, Nat.reducePow, Nat.reduceLT, Nat.reduceLeDiff, Nat.reduceAdd, List.length_cons, List.length_nil, Int.neg_neg]
    exact ⟨trivial, l.trans l3⟩
theorem is_zone_ok {n : Nat} {S : Hd} {os : List Int} {sp : Int} (hz : Zone os sp) : Pu (run T (n + 4) 6 [zoneD os sp] S) (.bl true) S := by
  have o1 := hz.len1
  have o3 := hz.len3
  refine Pu.run T_is_zone rfl ?_
  show M (ex (run T (n + 3)) b_is_zone [some (zoneD os sp), none, none] S) _
  unfold b_is_zone zoneD
  refine seq_M (fun env S1 => env = [some (.tup [.tup (os.map .int), .int sp]), none, none] ∧ Lq S S1) ?_ ?_
  · refine ite_M ?_
    simp only [ex, ev, M_bind, M_map, M_some, M_ite, t_eq, a_tup, al_eq, List.getElem?_cons_zero, List.getElem?_cons_succ, Option.bind_some, Option.map_some, q_add, q_sub, q_lt, q_le, q_gt, q_ge, q_eqI, q_neI, q_eqB, q_neB, q_isN, q_notN, isNon, q_ixT, q_ixR, atI_0, atI_1, atI_2, atI_3, atI_4, atI_5, atI_6, atI_7, q_slT, q_slR, q_revT, q_seqT, q_int, q_intB, q_max, q_min, q_abs, q_tupT, n_tup, n_int, n_bl, n_non, n_str, isi_ii, isi_ib, isi_tt, isi_itl, isi_btl, isi_ttl, isi_tl, isi_bb, u_bl, u_int, u_non, u_tup, g_name, g_tup, g_nil, g_cons, o_ret, o_nx, i_seq, List.set_cons_zero, List.set_cons_succ, decide_eq_true_eq, Bool.not_eq_true', decide_eq_false_iff_not, evP, Bool.false_eq_true, if_true, if_false, ite_true, ite_false, reduceIte, Bool.not_true, Bool.not_false, Option.some.injEq, q_pow10, Int.reduceToNat, Int.reducePow, Int.reduceAdd, Int.reduceSub, Int.reduceMul, Int.reduceNeg, Int.reduceLT, Int.reduceLE, Nat.reducePow, Nat.reduceLT, Nat.reduceLeDiff, Nat.reduceAdd, List.length_cons, List.length_nil, Int.neg_neg]
    refine is_pair_ok.use fun S1 l1 => ?_
    simp only [ex, ev, M_bind, M_map, M_some, M_ite, t_eq, a_tup, al_eq, List.getElem?_cons_zero, List.getElem?_cons_succ, Option.bind_some, Option.map_some, q_add, q_sub, q_lt, q_le, q_gt, q_ge, q_eqI, q_neI, q_eqB, q_neB, q_isN, q_notN, isNon, q_ixT, q_ixR, atI_0, atI_1, atI_2, atI_3, atI_4, atI_5, atI_6, atI_7, q_slT, q_slR, q_revT, q_seqT, q_int, q_intB, q_max, q_min, q_abs, q_tupT, n_tup, n_int, n_bl, n_non, n_str, isi_ii, isi_ib, isi_tt, isi_itl, isi_btl, isi_ttl, isi_tl, isi_bb, u_bl, u_int, u_non, u_tup, g_name, g_tup, g_nil, g_cons, o_ret, o_nx, i_seq, List.set_cons_zero, List.set_cons_succ, decide_eq_true_eq, Bool.not_eq_true', decide_eq_false_iff_not, evP, Bool.false_eq_true, if_true, if_false, ite_true, ite_false, reduceIte, Bool.not_true, Bool.not_false, Option.some.injEq, q_pow10, Int.reduceToNat, Int.reducePow, Int.reduceAdd, Int.reduceSub, Int.reduceMul, Int.reduceNeg, Int.reduceLT, Int.reduceLE, Nat.reducePow, Nat.reduceLT, Nat.reduceLeDiff, Nat.reduceAdd, List.length_cons, List.length_nil, Int.neg_neg]
    exact ⟨trivial, trivial, l1⟩
  rintro _ S1 ⟨rfl, l1⟩
  refine seq_M (fun env S2 => env = [some (.tup [.tup (os.map .int), .int sp]), some (.tup (os.map .int)), some (.int sp)] ∧ S1 = S2) ?_ ?_
  · simp only [ex, ev, M_bind, M_map, M_some, M_ite, t_eq, a_tup, al_eq, List.getElem?_cons_zero, List.getElem?_cons_succ, Option.bind_some, Option.map_some, q_add, q_sub, q_lt, q_le, q_gt, q_ge, q_eqI, q_neI, q_eqB, q_neB, q_isN, q_notN, isNon, q_ixT, q_ixR, atI_0, atI_1, atI_2, atI_3, atI_4, atI_5, atI_6, atI_7, q_slT, q_slR, q_revT, q_seqT, q_int, q_intB, q_max, q_min, q_abs, q_tupT, n_tup, n_int, n_bl, n_non, n_str, isi_ii, isi_ib, isi_tt, isi_itl, isi_btl, isi_ttl, isi_tl, isi_bb, u_bl, u_int, u_non, u_tup, g_name, g_tup, g_nil, g_cons, o_ret, o_nx, i_seq, List.set_cons_zero, List.set_cons_succ, decide_eq_true_eq, Bool.not_eq_true', decide_eq_false_iff_not, evP, Bool.false_eq_true, if_true, if_false, ite_true, ite_false, reduceIte, Bool.not_true, Bool.not_false, Option.some.injEq, q_pow10, Int.reduceToNat, Int.reducePow, Int.reduceAdd, Int.reduceSub, Int.reduceMul, Int.reduceNeg, Int.reduceLT, Int.reduceLE, Nat.reducePow, Nat.reduceLT, Nat.reduceLeDiff, Nat.reduceAdd, List.length_cons, List.length_nil, Int.neg_neg]
    exact ⟨trivial, trivial, trivial⟩
  rintro _ _ ⟨rfl, rfl⟩
  refine seq_M (fun env S2 => env = [some (.tup [.tup (os.map .int), .int sp]), some (.tup (os.map .int)), some (.int sp)] ∧ Lq S S2) ?_ ?_
  · refine ite_M ?_
    simp only [ex, ev, M_bind, M_map, M_some, M_ite, t_eq, a_tup, al_eq, List.getElem?_cons_zero, List.getElem?_cons_succ, Option.bind_some, Option.map_some, q_add, q_sub, q_lt, q_le, q_gt, q_ge, q_eqI, q_neI, q_eqB, q_neB, q_isN, q_notN, isNon, q_ixT, q_ixR, atI_0, atI_1, atI_2, atI_3, atI_4, atI_5, atI_6, atI_7, q_slT, q_slR, q_revT, q_seqT, q_int, q_intB, q_max, q_min, q_abs, q_tupT, n_tup, n_int, n_bl, n_non, n_str, isi_ii, isi_ib, isi_tt, isi_itl, isi_btl, isi_ttl, isi_tl, isi_bb, u_bl, u_int, u_non, u_tup, g_name, g_tup, g_nil, g_cons, o_ret, o_nx, i_seq, List.set_cons_zero, List.set_cons_succ, decide_eq_true_eq, Bool.not_eq_true', decide_eq_false_iff_not, evP, Bool.false_eq_true, if_true, if_false, ite_true, ite_false, reduceIte, Bool.not_true, Bool.not_false, Option.some.injEq, q_pow10, Int.reduceToNat, Int.reducePow, Int.reduceAdd, Int.reduceSub, Int.reduceMul, Int.reduceNeg, Int.reduceLT, Int.reduceLE, Nat.reducePow, Nat.reduceLT, Nat.reduceLeDiff, Nat.reduceAdd, List.length_cons, List.length_nil, Int.neg_neg]
    refine (are_offsets_ok hz).use fun S2 l2 => ?_
    simp only [ex, ev, M_bind, M_map, M_some, M_ite, t_eq, a_tup, al_eq, List.getElem?_cons_zero, List.getElem?_cons_succ, Option.bind_some, Option.map_some, q_add, q_sub, q_lt, q_le, q_gt, q_ge, q_eqI, q_neI, q_eqB, q_neB, q_isN, q_notN, isNon, q_ixT, q_ixR, atI_0, atI_1, atI_2, atI_3, atI_4, atI_5, atI_6, atI_7, q_slT, q_slR, q_revT, q_seqT, q_int, q_intB, q_max, q_min, q_abs, q_tupT, n_tup, n_int, n_bl, n_non, n_str, isi_ii, isi_ib, isi_tt, isi_itl, isi_btl, isi_ttl, isi_tl, isi_bb, u_bl, u_int, u_non, u_tup, g_name, g_tup, g_nil, g_cons, o_ret, o_nx, i_seq, List.set_cons_zero, List.set_cons_succ, decide_eq_true_eq, Bool.not_eq_true', decide_eq_false_iff_not, evP, Bool.false_eq_true, if_true, if_false, ite_true, ite_false, reduceIte, Bool.not_true, Bool.not_false, Option.some.injEq, q_pow10, Int.reduceToNat, Int.reducePow, Int.reduceAdd, Int.reduceSub, Int.reduceMul, Int.reduceNeg, Int.reduceLT, Int.reduceLE, Nat.reducePow, Nat.reduceLT, Nat.reduceLeDiff, Nat.reduceAdd, List.length_cons, List.length_nil, Int.neg_neg]
    refine is_number_ok.use fun S3 l3 => ?_
    simp only [ex, ev, M_bind, M_map, M_some, M_ite, t_eq, a_tup, al_eq, List.getElem?_cons_zero, List.getElem?_cons_succ, Option.bind_some, Option.map_some, q_add, q_sub, q_lt, q_le, q_gt, q_ge, q_eqI, q_neI, q_eqB, q_neB, q_isN, q_notN, isNon, q_ixT, q_ixR, atI_0, atI_1, atI_2, atI_3, atI_4, atI_5, atI_6, atI_7, q_slT, q_slR, q_revT, q_seqT, q_int, q_intB, q_max, q_min, q_abs, q_tupT, n_tup, n_int, n_bl, n_non, n_str, isi_ii, isi_ib, isi_tt, isi_itl, isi_btl, isi_ttl, isi_tl, isi_bb, u_bl, u_int, u_non, u_tup, g_name, g_tup, g_nil, g_cons, o_ret, o_nx, i_seq, List.set_cons_zero, List.set_cons_succ, decide_eq_true_eq, Bool.not_eq_true', decide_eq_false_iff_not, evP, Bool.false_eq_true, if_true, if_false, ite_true, ite_false, reduceIte, Bool.not_true, Bool.not_false, Option.some.injEq, q_pow10, Int.reduceToNat, Int.reducePow, Int.reduceAdd, Int.reduceSub, Int.reduceMul, Int.reduceNeg, Int.reduceLT, Int.reduceLE, Nat.reducePow, Nat.reduceLT, Nat.reduceLeDiff, Nat.reduceAdd, List.length_cons, List.length_nil, Int.neg_neg]
    exact ⟨trivial, trivial, l1.trans (l2.trans l3)⟩
  rintro _ S2 ⟨rfl, l2⟩
  obtain ⟨a, b, ha, hb, e0, e1, hab⟩ := ends o1 o3 hz.asc
  have g := hz.gap a ha b hb
  have t := hz.top
  simp only [ex, ev, M_bind, M_map, M_some, M_ite, t_eq, a_tup, al_eq, List.getElem?_cons_zero, List.getElem?_cons_succ, Option.bind_some, Option.map_some, q_add, q_sub, q_lt, q_le, q_gt, q_ge, q_eqI, q_neI, q_eqB, q_neB, q_isN, q_notN, isNon, q_ixT, q_ixR, atI_0, atI_1, atI_2, atI_3, atI_4, atI_5, atI_6, atI_7, q_slT, q_slR, q_revT, q_seqT, q_int, q_intB, q_max, q_min, q_abs, q_tupT, n_tup, n_int, n_bl, n_non, n_str, isi_ii, isi_ib, isi_tt, isi_itl, isi_btl, isi_ttl, isi_tl, isi_bb, u_bl, u_int, u_non, u_tup, g_name, g_tup, g_nil, g_cons, o_ret, o_nx, i_seq, List.set_cons_zero, List.set_cons_succ, decide_eq_true_eq, Bool.not_eq_true', decide_eq_false_iff_not, evP, Bool.false_eq_true, if_true, if_false, ite_true, ite_false, reduceIte, Bool.not_true, Bool.not_false, Option.some.injEq, q_pow10, Int.reduceToNat, Int.reducePow, Int.reduceAdd, Int.reduceSub, Int.reduceMul, Int.reduceNeg, Int.reduceLT, Int.reduceLE, Nat.reducePow, Nat.reduceLT, Nat.reduceLeDiff, Nat.reduceAdd, List.length_cons, List.length_nil, Int.neg_neg, e0, e1, show decide (b - a < sp) = true by simpa using g, show decide (sp ≤ 1000000) = true by simpa using t]
  exact ⟨trivial, l2⟩
theorem check_zone_ok {n : Nat} {S : Hd} {os : List Int} {sp : Int} (hz : Zone os sp) : Pu (run T (n + 5) 7 [zoneD os sp] S) .non S := by
  refine Pu.run T_check_zone rfl ?_
  show M (ex (run T (n + 4)) b_check_zone [some (zoneD os sp)] S) _
  unfold b_check_zone
  refine ite_M ?_
  simp only [ex, ev, M_bind, M_map, M_some, M_ite, t_eq, a_tup, al_eq, List.getElem?_cons_zero, List.getElem?_cons_succ, Option.bind_some, Option.map_some, q_add, q_sub, q_lt, q_le, q_gt, q_ge, q_eqI, q_neI, q_eqB, q_neB, q_isN, q_notN, isNon, q_ixT, q_ixR, atI_0, atI_1, atI_2, atI_3, atI_4, atI_5, atI_6, atI_7, q_slT, q_slR, q_revT, q_seqT, q_int, q_intB, q_max, q_min, q_abs, q_tupT, n_tup, n_int, n_bl, n_non, n_str, isi_ii, isi_ib, isi_tt, isi_itl, isi_btl, isi_ttl, isi_tl, isi_bb, u_bl, u_int, u_non, u_tup, g_name, g_tup, g_nil, g_cons, o_ret, o_nx, i_seq, List.set_cons_zero, List.set_cons_succ, decide_eq_true_eq, Bool.not_eq_true', decide_eq_false_iff_not, evP, Bool.false_eq_true, if_true, if_false, ite_true, ite_false, reduceIte, Bool.not_true, Bool.not_false, Option.some.injEq, q_pow10, Int.reduceToNat, Int.reducePow, Int.reduceAdd, Int.reduceSub, Int.reduceMul, Int.reduceNeg, Int.reduceLT, Int.reduceLE, Nat.reducePow, Nat.reduceLT, Nat.reduceLeDiff, Nat.reduceAdd, List.length_cons, List.length_nil, Int.neg_neg]
  refine (is_zone_ok hz).use fun S1 l1 => ?_
  simp only [ex, ev, M_bind, M_map, M_some, M_ite, t_eq, a_tup, al_eq, List.getElem?_cons_zero, List.getElem?_cons_succ, Option.bind_some, Option.map_some, q_add, q_sub, q_lt, q_le, q_gt, q_ge, q_eqI, q_neI, q_eqB, q_neB, q_isN, q_notN, isNon, q_ixT, q_ixR, atI_0, atI_1, atI_2, atI_3, atI_4, atI_5, atI_6, atI_7, q_slT, q_slR, q_revT, q_seqT, q_int, q_intB, q_max, q_min, q_abs, q_tupT, n_tup, n_int, n_bl, n_non, n_str, isi_ii, isi_ib, isi_tt, isi_itl, isi_btl, isi_ttl, isi_tl, isi_bb, u_bl, u_int, u_non, u_tup, g_name, g_tup, g_nil, g_cons, o_ret, o_nx, i_seq, List.set_cons_zero, List.set_cons_succ, decide_eq_true_eq, Bool.not_eq_true', decide_eq_false_iff_not, evP, Bool.false_eq_true, if_true, if_false, ite_true, ite_false, reduceIte, Bool.not_true, Bool.not_false, Option.some.injEq, q_pow10, Int.reduceToNat, Int.reducePow, Int.reduceAdd, Int.reduceSub, Int.reduceMul, Int.reduceNeg, Int.reduceLT, Int.reduceLE, Nat.reducePow, Nat.reduceLT, Nat.reduceLeDiff, Nat.reduceAdd, List.length_cons, List.length_nil, Int.neg_neg]
  exact ⟨trivial, l1⟩
theorem check_number_ok {n : Nat} {S : Hd} {i : Int} : Pu (run T (n + 2) 2 [.int i] S) .non S := by
  refine Pu.run T_check_number rfl ?_
  show M (ex (run T (n + 1)) b_check_number [some (.int i)] S) _
  unfold b_check_number
  refine ite_M ?_
  simp only [ex, ev, M_bind, M_map, M_some, M_ite, t_eq, a_tup, al_eq, List.getElem?_cons_zero, List.getElem?_cons_succ, Option.bind_some, Option.map_some, q_add, q_sub, q_lt, q_le, q_gt, q_ge, q_eqI, q_neI, q_eqB, q_neB, q_isN, q_notN, isNon, q_ixT, q_ixR, atI_0, atI_1, atI_2, atI_3, atI_4, atI_5, atI_6, atI_7, q_slT, q_slR, q_revT, q_seqT, q_int, q_intB, q_max, q_min, q_abs, q_tupT, n_tup, n_int, n_bl, n_non, n_str, isi_ii, isi_ib, isi_tt, isi_itl, isi_btl, isi_ttl, isi_tl, isi_bb, u_bl, u_int, u_non, u_tup, g_name, g_tup, g_nil, g_cons, o_ret, o_nx, i_seq, List.set_cons_zero, List.set_cons_succ, decide_eq_true_eq, Bool.not_eq_true', decide_eq_false_iff_not, evP, Bool.false_eq_true, if_true, if_false, ite_true, ite_false, reduceIte, Bool.not_true, Bool.not_false, Option.some.injEq, q_pow10, Int.reduceToNat, Int.reducePow, Int.reduceAdd, Int.reduceSub, Int.reduceMul, Int.reduceNeg, Int.reduceLT, Int.reduceLE, Nat.reducePow, Nat.reduceLT, Nat.reduceLeDiff, Nat.reduceAdd, List.length_cons, List.length_nil, Int.neg_neg]
  refine is_number_ok.use fun S1 l1 => ?_
  simp only [ex, ev, M_bind, M_map, M_some, M_ite, t_eq, a_tup, al_eq, List.getElem?_cons_zero, List.getElem?_cons_succ, Option.bind_some, Option.map_some, q_add, q_sub, q_lt, q_le, q_gt, q_ge, q_eqI, q_neI, q_eqB, q_neB, q_isN, q_notN, isNon, q_ixT, q_ixR, atI_0, atI_1, atI_2, atI_3, atI_4, atI_5, atI_6, atI_7, q_slT, q_slR, q_revT, q_seqT, q_int, q_intB, q_max, q_min, q_abs, q_tupT, n_tup, n_int, n_bl, n_non, n_str, isi_ii, isi_ib, isi_tt, isi_itl, isi_btl, isi_ttl, isi_tl, isi_bb, u_bl, u_int, u_non, u_tup, g_name, g_tup, g_nil, g_cons, o_ret, o_nx, i_seq, List.set_cons_zero, List.set_cons_succ, decide_eq_true_eq, Bool.not_eq_true', decide_eq_false_iff_not, evP, Bool.false_eq_true, if_true, if_false, ite_true, ite_false, reduceIte, Bool.not_true, Bool.not_false, Option.some.injEq, q_pow10, Int.reduceToNat, Int.reducePow, Int.reduceAdd, Int.reduceSub, Int.reduceMul, Int.reduceNeg, Int.reduceLT, Int.reduceLE, Nat.reducePow, Nat.reduceLT, Nat.reduceLeDiff, Nat.reduceAdd, List.length_cons, List.length_nil, Int.neg_neg]
  exact ⟨trivial, l1⟩
end Lw

namespace Lw
open PySem L2 Ix
theorem most_big : (1000 : Nat) < most := by decide
theorem Chart.ns {os : List Int} {sp off : Int} {js : List (Int × Int)} : True := trivial
theorem is_offset_ok {n : Nat} {S : Hd} {os : List Int} {sp v : Int} (hv : v ∈ os) : Pu (run T (n + 2) 9 [zoneD os sp, .int v] S) (.bl true) S := by
  refine Pu.run T_is_offset rfl ?_
  show M (ex (run T (n + 1)) b_is_offset [some (zoneD os sp), some (.int v)] S) _
  unfold b_is_offset zoneD
  simp only [ex, ev, M_bind, M_map, M_some, M_ite, t_eq, a_tup, al_eq, List.getElem?_cons_zero, List.getElem?_cons_succ, Option.bind_some, Option.map_some, q_add, q_sub, q_lt, q_le, q_gt, q_ge, q_eqI, q_neI, q_eqB, q_neB, q_isN, q_notN, isNon, q_ixT, q_ixR, atI_0, atI_1, atI_2, atI_3, atI_4, atI_5, atI_6, atI_7, q_slT, q_slR, q_revT, q_seqT, q_int, q_intB, q_max, q_min, q_abs, q_tupT, n_tup, n_int, n_bl, n_non, n_str, isi_ii, isi_ib, isi_tt, isi_itl, isi_btl, isi_ttl, isi_tl, isi_bb, u_bl, u_int, u_non, u_tup, g_name, g_tup, g_nil, g_cons, o_ret, o_nx, i_seq, List.set_cons_zero, List.set_cons_succ, decide_eq_true_eq, Bool.not_eq_true', decide_eq_false_iff_not, evP, Bool.false_eq_true, if_true, if_false, ite_true, ite_false, reduceIte, Bool.not_true, Bool.not_false, Option.some.injEq, q_pow10, Int.reduceToNat, Int.reducePow, Int.reduceAdd, Int.reduceSub, Int.reduceMul, Int.reduceNeg, Int.reduceLT, Int.reduceLE, Nat.reducePow, Nat.reduceLT, Nat.reduceLeDiff, Nat.reduceAdd, List.length_cons, List.length_nil, Int.neg_neg]
  refine is_number_ok.use fun S1 l1 => ?_
  have h1 : (os.map D.int).all flat = true := by simp [flat]
  have h2 : ((os.map D.int).any fun z => eqF z (.int v)) = true := by
    rw [List.any_eq_true]
    exact ⟨.int v, List.mem_map_of_mem hv, by simp [eqF]⟩
  simp only [ex, ev, M_bind, M_map, M_some, M_ite, t_eq, a_tup, al_eq, List.getElem?_cons_zero, List.getElem?_cons_succ, Option.bind_some, Option.map_some, q_add, q_sub, q_lt, q_le, q_gt, q_ge, q_eqI, q_neI, q_eqB, q_neB, q_isN, q_notN, isNon, q_ixT, q_ixR, atI_0, atI_1, atI_2, atI_3, atI_4, atI_5, atI_6, atI_7, q_slT, q_slR, q_revT, q_seqT, q_int, q_intB, q_max, q_min, q_abs, q_tupT, n_tup, n_int, n_bl, n_non, n_str, isi_ii, isi_ib, isi_tt, isi_itl, isi_btl, isi_ttl, isi_tl, isi_bb, u_bl, u_int, u_non, u_tup, g_name, g_tup, g_nil, g_cons, o_ret, o_nx, i_seq, List.set_cons_zero, List.set_cons_succ, decide_eq_true_eq, Bool.not_eq_true', decide_eq_false_iff_not, evP, Bool.false_eq_true, if_true, if_false, ite_true, ite_false, reduceIte, Bool.not_true, Bool.not_false, Option.some.injEq, q_pow10, Int.reduceToNat, Int.reducePow, Int.reduceAdd, Int.reduceSub, Int.reduceMul, Int.reduceNeg, Int.reduceLT, Int.reduceLE, Nat.reducePow, Nat.reduceLT, Nat.reduceLeDiff, Nat.reduceAdd, List.length_cons, List.length_nil, Int.neg_neg, q_in (x := .int v) rfl (q_seqT (xs := os.map .int)) h1, h2]
  exact ⟨trivial, l1⟩
theorem is_mark_ok {n : Nat} {S : Hd} {os : List Int} {sp : Int} {j : Int × Int} (hv : j.2 ∈ os) : Pu (run T (n + 3) 10 [zoneD os sp, jumpD j] S) (.bl true) S := by
  refine Pu.run T_is_mark rfl ?_
  show M (ex (run T (n + 2)) b_is_mark [some (zoneD os sp), some (jumpD j)] S) _
  unfold b_is_mark jumpD
  simp only [ex, ev, M_bind, M_map, M_some, M_ite, t_eq, a_tup, al_eq, List.getElem?_cons_zero, List.getElem?_cons_succ, Option.bind_some, Option.map_some, q_add, q_sub, q_lt, q_le, q_gt, q_ge, q_eqI, q_neI, q_eqB, q_neB, q_isN, q_notN, isNon, q_ixT, q_ixR, atI_0, atI_1, atI_2, atI_3, atI_4, atI_5, atI_6, atI_7, q_slT, q_slR, q_revT, q_seqT, q_int, q_intB, q_max, q_min, q_abs, q_tupT, n_tup, n_int, n_bl, n_non, n_str, isi_ii, isi_ib, isi_tt, isi_itl, isi_btl, isi_ttl, isi_tl, isi_bb, u_bl, u_int, u_non, u_tup, g_name, g_tup, g_nil, g_cons, o_ret, o_nx, i_seq, List.set_cons_zero, List.set_cons_succ, decide_eq_true_eq, Bool.not_eq_true', decide_eq_false_iff_not, evP, Bool.false_eq_true, if_true, if_false, ite_true, ite_false, reduceIte, Bool.not_true, Bool.not_false, Option.some.injEq, q_pow10, Int.reduceToNat, Int.reducePow, Int.reduceAdd, Int.reduceSub, Int.reduceMul, Int.reduceNeg, Int.reduceLT, Int.reduceLE, Nat.reducePow, Nat.reduceLT, Nat.reduceLeDiff, Nat.reduceAdd, List.length_cons, List.length_nil, Int.neg_neg]
  refine is_pair_ok.use fun S1 l1 => ?_
  simp only [ex, ev, M_bind, M_map, M_some, M_ite, t_eq, a_tup, al_eq, List.getElem?_cons_zero, List.getElem?_cons_succ, Option.bind_some, Option.map_some, q_add, q_sub, q_lt, q_le, q_gt, q_ge, q_eqI, q_neI, q_eqB, q_neB, q_isN, q_notN, isNon, q_ixT, q_ixR, atI_0, atI_1, atI_2, atI_3, atI_4, atI_5, atI_6, atI_7, q_slT, q_slR, q_revT, q_seqT, q_int, q_intB, q_max, q_min, q_abs, q_tupT, n_tup, n_int, n_bl, n_non, n_str, isi_ii, isi_ib, isi_tt, isi_itl, isi_btl, isi_ttl, isi_tl, isi_bb, u_bl, u_int, u_non, u_tup, g_name, g_tup, g_nil, g_cons, o_ret, o_nx, i_seq, List.set_cons_zero, List.set_cons_succ, decide_eq_true_eq, Bool.not_eq_true', decide_eq_false_iff_not, evP, Bool.false_eq_true, if_true, if_false, ite_true, ite_false, reduceIte, Bool.not_true, Bool.not_false, Option.some.injEq, q_pow10, Int.reduceToNat, Int.reducePow, Int.reduceAdd, Int.reduceSub, Int.reduceMul, Int.reduceNeg, Int.reduceLT, Int.reduceLE, Nat.reducePow, Nat.reduceLT, Nat.reduceLeDiff, Nat.reduceAdd, List.length_cons, List.length_nil, Int.neg_neg]
  refine is_number_ok.use fun S2 l2 => ?_
  simp only [ex, ev, M_bind, M_map, M_some, M_ite, t_eq, a_tup, al_eq, List.getElem?_cons_zero, List.getElem?_cons_succ, Option.bind_some, Option.map_some, q_add, q_sub, q_lt, q_le, q_gt, q_ge, q_eqI, q_neI, q_eqB, q_neB, q_isN, q_notN, isNon, q_ixT, q_ixR, atI_0, atI_1, atI_2, atI_3, atI_4, atI_5, atI_6, atI_7, q_slT, q_slR, q_revT, q_seqT, q_int, q_intB, q_max, q_min, q_abs, q_tupT, n_tup, n_int, n_bl, n_non, n_str, isi_ii, isi_ib, isi_tt, isi_itl, isi_btl, isi_ttl, isi_tl, isi_bb, u_bl, u_int, u_non, u_tup, g_name, g_tup, g_nil, g_cons, o_ret, o_nx, i_seq, List.set_cons_zero, List.set_cons_succ, decide_eq_true_eq, Bool.not_eq_true', decide_eq_false_iff_not, evP, Bool.false_eq_true, if_true, if_false, ite_true, ite_false, reduceIte, Bool.not_true, Bool.not_false, Option.some.injEq, q_pow10, Int.reduceToNat, Int.reducePow, Int.reduceAdd, Int.reduceSub, Int.reduceMul, Int.reduceNeg, Int.reduceLT, Int.reduceLE, Nat.reducePow, Nat.reduceLT, Nat.reduceLeDiff, Nat.reduceAdd, List.length_cons, List.length_nil, Int.neg_neg]
  refine (is_offset_ok hv).use fun S3 l3 => ?_
  simp only [ex, ev, M_bind, M_map, M_some, M_ite, t_eq, a_tup, al_eq, List.getElem?_cons_zero, List.getElem?_cons_succ, Option.bind_some, Option.map_some, q_add, q_sub, q_lt, q_le, q_gt, q_ge, q_eqI, q_neI, q_eqB, q_neB, q_isN, q_notN, isNon, q_ixT, q_ixR, atI_0, atI_1, atI_2, atI_3, atI_4, atI_5, atI_6, atI_7, q_slT, q_slR, q_revT, q_seqT, q_int, q_intB, q_max, q_min, q_abs, q_tupT, n_tup, n_int, n_bl, n_non, n_str, isi_ii, isi_ib, isi_tt, isi_itl, isi_btl, isi_ttl, isi_tl, isi_bb, u_bl, u_int, u_non, u_tup, g_name, g_tup, g_nil, g_cons, o_ret, o_nx, i_seq, List.set_cons_zero, List.set_cons_succ, decide_eq_true_eq, Bool.not_eq_true', decide_eq_false_iff_not, evP, Bool.false_eq_true, if_true, if_false, ite_true, ite_false, reduceIte, Bool.not_true, Bool.not_false, Option.some.injEq, q_pow10, Int.reduceToNat, Int.reducePow, Int.reduceAdd, Int.reduceSub, Int.reduceMul, Int.reduceNeg, Int.reduceLT, Int.reduceLE, Nat.reducePow, Nat.reduceLT, Nat.reduceLeDiff, Nat.reduceAdd, List.length_cons, List.length_nil, Int.neg_neg]
  exact ⟨trivial, l1.trans (l2.trans l3)⟩
theorem are_marks_ok {n : Nat} {S : Hd} {os : List Int} {sp : Int} {js : List (Int × Int)} (hv : ∀ j ∈ js, j.2 ∈ os) (hz : js.length ≤ 900) : Pu (run T (n + 4) 11 [zoneD os sp, .tup (js.map jumpD)] S) (.bl true) S := by
  refine Pu.run T_are_marks rfl ?_
  show M (ex (run T (n + 3)) b_are_marks [some (zoneD os sp), some (.tup (js.map jumpD)), none] S) _
  unfold b_are_marks
  simp only [ex, M_map]
  refine M_and (M.imp (P := fun x => x = (.bl true, S)) (by simp only [ex, ev, M_bind, M_map, M_some, M_ite, t_eq, a_tup, al_eq, List.getElem?_cons_zero, List.getElem?_cons_succ, Option.bind_some, Option.map_some, q_add, q_sub, q_lt, q_le, q_gt, q_ge, q_eqI, q_neI, q_eqB, q_neB, q_isN, q_notN, isNon, q_ixT, q_ixR, atI_0, atI_1, atI_2, atI_3, atI_4, atI_5, atI_6, atI_7, q_slT, q_slR, q_revT, q_seqT, q_int, q_intB, q_max, q_min, q_abs, q_tupT, n_tup, n_int, n_bl, n_non, n_str, isi_ii, isi_ib, isi_tt, isi_itl, isi_btl, isi_ttl, isi_tl, isi_bb, u_bl, u_int, u_non, u_tup, g_name, g_tup, g_nil, g_cons, o_ret, o_nx, i_seq, List.set_cons_zero, List.set_cons_succ, decide_eq_true_eq, Bool.not_eq_true', decide_eq_false_iff_not, evP, Bool.false_eq_true, if_true, if_false, ite_true, ite_false, reduceIte, Bool.not_true, Bool.not_false, Option.some.injEq, q_pow10, Int.reduceToNat, Int.reducePow, Int.reduceAdd, Int.reduceSub, Int.reduceMul, Int.reduceNeg, Int.reduceLT, Int.reduceLE, Nat.reducePow, Nat.reduceLT, Nat.reduceLeDiff, Nat.reduceAdd, List.length_cons, List.length_nil, Int.neg_neg]) ?_)
  rintro _ rfl
  refine ⟨rfl, ?_⟩
  refine M_allT (S1 := S) (ds := [.tup (js.map jumpD)]) (its := js.map jumpD) (by decide) (by simp only [ex, ev, M_bind, M_map, M_some, M_ite, t_eq, a_tup, al_eq, List.getElem?_cons_zero, List.getElem?_cons_succ, Option.bind_some, Option.map_some, q_add, q_sub, q_lt, q_le, q_gt, q_ge, q_eqI, q_neI, q_eqB, q_neB, q_isN, q_notN, isNon, q_ixT, q_ixR, atI_0, atI_1, atI_2, atI_3, atI_4, atI_5, atI_6, atI_7, q_slT, q_slR, q_revT, q_seqT, q_int, q_intB, q_max, q_min, q_abs, q_tupT, n_tup, n_int, n_bl, n_non, n_str, isi_ii, isi_ib, isi_tt, isi_itl, isi_btl, isi_ttl, isi_tl, isi_bb, u_bl, u_int, u_non, u_tup, g_name, g_tup, g_nil, g_cons, o_ret, o_nx, i_seq, List.set_cons_zero, List.set_cons_succ, decide_eq_true_eq, Bool.not_eq_true', decide_eq_false_iff_not, evP, Bool.false_eq_true, if_true, if_false, ite_true, ite_false, reduceIte, Bool.not_true, Bool.not_false, Option.some.injEq, q_pow10, Int.reduceToNat, Int.reducePow, Int.reduceAdd, Int.reduceSub, Int.reduceMul, Int.reduceNeg, Int.reduceLT, Int.reduceLE, Nat.reducePow, Nat.reduceLT, Nat.reduceLeDiff, Nat.reduceAdd, List.length_cons, List.length_nil, Int.neg_neg]) (Lq.refl _) rfl (by have := most_big; simp; omega) (fun i d S2 hi l => ?_) (fun _ _ => rfl) fun S2 l => ?_
  · rw [List.getElem?_map] at hi
    cases hx : js[i]? with
    | none => rw [hx] at hi; cases hi
    | some x =>
      rw [hx] at hi
      simp only [Option.map_some, Option.some.injEq] at hi
      subst hi
      refine ⟨_, rfl, ?_⟩
      simp only [wipeD, ex, ev, M_bind, M_map, M_some, M_ite, t_eq, a_tup, al_eq, List.getElem?_cons_zero, List.getElem?_cons_succ, Option.bind_some, Option.map_some, q_add, q_sub, q_lt, q_le, q_gt, q_ge, q_eqI, q_neI, q_eqB, q_neB, q_isN, q_notN, isNon, q_ixT, q_ixR, atI_0, atI_1, atI_2, atI_3, atI_4, atI_5, atI_6, atI_7, q_slT, q_slR, q_revT, q_seqT, q_int, q_intB, q_max, q_min, q_abs, q_tupT, n_tup, n_int, n_bl, n_non, n_str, isi_ii, isi_ib, isi_tt, isi_itl, isi_btl, isi_ttl, isi_tl, isi_bb, u_bl, u_int, u_non, u_tup, g_name, g_tup, g_nil, g_cons, o_ret, o_nx, i_seq, List.set_cons_zero, List.set_cons_succ, decide_eq_true_eq, Bool.not_eq_true', decide_eq_false_iff_not, evP, Bool.false_eq_true, if_true, if_false, ite_true, ite_false, reduceIte, Bool.not_true, Bool.not_false, Option.some.injEq, q_pow10, Int.reduceToNat, Int.reducePow, Int.reduceAdd, Int.reduceSub, Int.reduceMul, Int.reduceNeg, Int.reduceLT, Int.reduceLE, Nat.reducePow, Nat.reduceLT, Nat.reduceLeDiff, Nat.reduceAdd, List.length_cons, List.length_nil, Int.neg_neg]
      exact is_mark_ok (hv x (List.mem_of_getElem? hx))
  · simp only [ex, ev, M_bind, M_map, M_some, M_ite, t_eq, a_tup, al_eq, List.getElem?_cons_zero, List.getElem?_cons_succ, Option.bind_some, Option.map_some, q_add, q_sub, q_lt, q_le, q_gt, q_ge, q_eqI, q_neI, q_eqB, q_neB, q_isN, q_notN, isNon, q_ixT, q_ixR, atI_0, atI_1, atI_2, atI_3, atI_4, atI_5, atI_6, atI_7, q_slT, q_slR, q_revT, q_seqT, q_int, q_intB, q_max, q_min, q_abs, q_tupT, n_tup, n_int, n_bl, n_non, n_str, isi_ii, isi_ib, isi_tt, isi_itl, isi_btl, isi_ttl, isi_tl, isi_bb, u_bl, u_int, u_non, u_tup, g_name, g_tup, g_nil, g_cons, o_ret, o_nx, i_seq, List.set_cons_zero, List.set_cons_succ, decide_eq_true_eq, Bool.not_eq_true', decide_eq_false_iff_not, evP, Bool.false_eq_true, if_true, if_false, ite_true, ite_false, reduceIte, Bool.not_true, Bool.not_false, Option.some.injEq, q_pow10, Int.reduceToNat, Int.reducePow, Int.reduceAdd, Int.reduceSub, Int.reduceMul, Int.reduceNeg, Int.reduceLT, Int.reduceLE, Nat.reducePow, Nat.reduceLT, Nat.reduceLeDiff, Nat.reduceAdd, List.length_cons, List.length_nil, Int.neg_neg]
    exact ⟨trivial, l⟩
/-- one of the two numbers of each jump -/
theorem M_proj {Γ : Fs} {iv ov : Nat} {c : Int} {f : Int × Int → Int} {env : Sl} {S : Hd} {js : List (Int × Int)} {Q : D × Hd → Prop} (hi : env[iv]? = some (some (.tup (js.map jumpD)))) (ho : ov < env.length) (hz : js.length ≤ 900)
    (hf : ∀ j : Int × Int, atI [D.int j.1, D.int j.2] c = some (.int (f j))) (hq : ∀ (j : Nat) (S2 : Hd), S2[j]? = some (.lst ((js.map f).map .int)) → Lq S S2 → Q (.ref j, S2)) :
    M (ev Γ (.lc .seq (.cons (.var iv) .nil) (.name ov) (.c (.bl true)) (.ix (.var ov) (.c (.int c))) [ov]) env S) Q := by
  refine M_lc (S1 := S) (ds := [.tup (js.map jumpD)]) (its := js.map jumpD) (fun i => .int (f (js[i]?.getD (0, 0)))) (by simp [gOk]) (by simp only [ev, hi, Option.bind_some, argsOf, Option.map_some]) rfl (by have := most_big; simp; omega) (fun i d S2 hi l => ?_) (fun _ _ => rfl) fun j S2 hj hg l => ?_
  · rw [List.getElem?_map] at hi
    cases hx : js[i]? with
    | none => rw [hx] at hi; cases hi
    | some x =>
      rw [hx] at hi
      simp only [Option.map_some, Option.some.injEq] at hi
      subst hi
      refine ⟨_, rfl, ?_⟩
      simp only [ev, wipeD]
      rw [List.getElem?_set_self (by simpa using ho)]
      unfold jumpD
      simp only [ex, ev, M_bind, M_map, M_some, M_ite, t_eq, a_tup, al_eq, List.getElem?_cons_zero, List.getElem?_cons_succ, Option.bind_some, Option.map_some, q_add, q_sub, q_lt, q_le, q_gt, q_ge, q_eqI, q_neI, q_eqB, q_neB, q_isN, q_notN, isNon, q_ixT, q_ixR, atI_0, atI_1, atI_2, atI_3, atI_4, atI_5, atI_6, atI_7, q_slT, q_slR, q_revT, q_seqT, q_int, q_intB, q_max, q_min, q_abs, q_tupT, n_tup, n_int, n_bl, n_non, n_str, isi_ii, isi_ib, isi_tt, isi_itl, isi_btl, isi_ttl, isi_tl, isi_bb, u_bl, u_int, u_non, u_tup, g_name, g_tup, g_nil, g_cons, o_ret, o_nx, i_seq, List.set_cons_zero, List.set_cons_succ, decide_eq_true_eq, Bool.not_eq_true', decide_eq_false_iff_not, evP, Bool.false_eq_true, if_true, if_false, ite_true, ite_false, reduceIte, Bool.not_true, Bool.not_false, Option.some.injEq, q_pow10, Int.reduceToNat, Int.reducePow, Int.reduceAdd, Int.reduceSub, Int.reduceMul, Int.reduceNeg, Int.reduceLT, Int.reduceLE, Nat.reducePow, Nat.reduceLT, Nat.reduceLeDiff, Nat.reduceAdd, List.length_cons, List.length_nil, Int.neg_neg, hf, Option.getD_some]
      exact ⟨trivial, Lq.refl _⟩
  · refine hq j S2 ?_ l
    rw [hg]
    congr 2
    apply List.ext_getElem?
    intro i
    simp only [List.getElem?_map, List.length_map]
    by_cases h : i < js.length
    · rw [List.getElem?_range h, List.getElem?_eq_getElem h]
      simp only [Option.map_some, List.getElem?_eq_getElem h, Option.getD_some]
    · rw [List.getElem?_eq_none (by simpa using h), List.getElem?_eq_none (by simpa using h)]
      rfl
/-- a test of each two neighbours in a list -/
theorem M_adj {Γ : Fs} {iv a b : Nat} {ce : E} {R : Int → Int → Prop} {env : Sl} {S : Hd} {L : List Int} {k : Nat} {Q : D × Hd → Prop} (hi : env[iv]? = some (some (.ref k))) (hk : S[k]? = some (.lst (L.map .int))) (hz : L.length ≤ 990) (hR : Adj R L)
    (he : ∀ (x y : Int) (S2 : Hd), R x y → Lq S S2 → M (ev Γ ce (((wipeD env [a, b]).set a (some (.int x))).set b (some (.int y))) S2) fun r => r.1 = .bl true ∧ Lq S2 r.2)
    (hq : ∀ S2, Lq S S2 → Q (.bl true, S2)) : M (ev Γ (.blt .all_ (.cons (.lc .zip (.cons (.var iv) (.cons (.sl true false (.var iv) (.c (.int 1)) .nop) .nil)) (.tup (.cons (.name a) (.cons (.name b) .nil))) (.c (.bl true)) ce [a, b]) .nil)) env S) Q := by
  have hlt := lt_of_get hk
  refine M_allT (S1 := S ++ [.lst ((L.map .int).drop 1)]) (ds := [.ref k, .ref S.length]) (its := List.zipWith (fun a b => D.tup [a, b]) (L.map .int) ((L.map .int).drop 1)) (by simp [gOk])
    (by simp only [ev, hi, Option.bind_some, evP, if_true, q_slL hk, cut_1, al_eq, argsOf, Option.map_some, Bool.false_eq_true, if_false]) (Lq.app _ _) ?_ (by have := most_big; simp; omega) (fun i d S2 hi l => ?_) (fun S2 l => ?_) fun S2 l => hq S2 l
  · simp only [items, isTup, if_true, q_seqL (Lq.app S [.lst ((L.map .int).drop 1)] _ _ hk), q_seqL get_new, Option.bind_some, Option.map_some]
  · obtain ⟨x, y, e1, e2, rfl⟩ := zip_get hi
    refine ⟨_, rfl, ?_⟩
    have := he x y S2 (hR i x y e1 e2) ((Lq.app _ _).trans l)
    exact this
  · simp only [items, isTup, if_true, q_seqL (l _ _ (Lq.app S [.lst ((L.map .int).drop 1)] _ _ hk)), q_seqL (l _ _ get_new), Option.bind_some, Option.map_some]
theorem are_jumps_ok {n : Nat} {S : Hd} {os : List Int} {sp off : Int} {js : List (Int × Int)} (hc : Chart os sp off js) (hz : js.length ≤ 900) : Pu (run T (n + 1) 8 [zoneD os sp, .int off, .tup (js.map jumpD)] S) (.bl true) S := by
  refine Pu.run T_are_jumps rfl ?_
  show M (ex (run T n) b_are_jumps [some (zoneD os sp), some (.int off), some (.tup (js.map jumpD)), none, none, none, none, none, none, none, none] S) _
  unfold b_are_jumps
  refine seq_M (fun env S1 => ∃ k1 : Nat, env = [some (zoneD os sp), some (.int off), some (.tup (js.map jumpD)), some (.ref k1), none, none, none, none, none, none, none] ∧ S1[k1]? = some (.lst ((js.map (·.1)).map .int)) ∧ Lq S S1) ?_ ?_
  · simp only [ex, M_bind, M_map]
    refine M_proj (js := js) (f := (·.1)) rfl (by simp) hz (fun j => atI_0) fun k S1 hk l => ?_
    simp only [asgG, M_some, List.set_cons_succ, List.set_cons_zero]
    exact ⟨trivial, k, rfl, hk, l⟩
  rintro _ S1 ⟨k1, rfl, g1, l1⟩
  refine seq_M (fun env S2 => ∃ k2 : Nat, env = [some (zoneD os sp), some (.int off), some (.tup (js.map jumpD)), some (.ref k1), none, some (.ref k2), none, none, none, none, none] ∧ S2[k2]? = some (.lst ((off :: js.map (·.2)).map .int)) ∧ Lq S1 S2) ?_ ?_
  · simp only [ex, M_bind, M_map]
    rw [show ∀ (e1 e2 : E) (env : Sl) (S : Hd), ev (run T n) (.bin .add e1 e2) env S = (ev (run T n) e1 env S).bind fun x => (ev (run T n) e2 env x.2).bind fun y => binD .add x.1 y.1 y.2 from fun _ _ _ _ => rfl]
    simp only [M_bind]
    rw [show ev (run T n) (.lst (.cons (.var 1) .nil)) [some (zoneD os sp), some (.int off), some (.tup (js.map jumpD)), some (.ref k1), none, none, none, none, none, none, none] S1 = some (.ref S1.length, S1 ++ [.lst [.int off]]) from by simp only [ev, List.getElem?_cons_succ, List.getElem?_cons_zero, Option.bind_some, argsOf, Option.map_some, List.length_cons, List.length_nil, show (0 + 1 : Nat) ≤ most by decide, if_true, al_eq]]
    simp only [M_some]
    refine M_proj (js := js) (f := (·.2)) rfl (by simp) hz (fun j => atI_1) fun k S2 hk l => ?_
    have hm := most_big
    simp only [q_addL (l _ _ get_new) hk (by simp; omega), al_eq, M_some, asgG, List.set_cons_succ, List.set_cons_zero]
    exact ⟨trivial, _, rfl, by rw [get_new]; rfl, ((Lq.app _ _).trans l).trans (Lq.app _ _)⟩
  rintro _ S2 ⟨k2, rfl, g2, l2⟩
  refine seq_M (fun env S3 => env = [some (zoneD os sp), some (.int off), some (.tup (js.map jumpD)), some (.ref k1), none, some (.ref k2), some (.bl true), none, none, none, none] ∧ Lq S2 S3) ?_ ?_
  · simp only [ex, M_bind, M_map]
    refine M_adj (R := fun x y => x + sp ≤ y) (L := js.map (·.1)) rfl (l2 _ _ g1) (by simp; omega) hc.far (fun x y S3 h l => ?_) fun S3 l => ?_
    · unfold zoneD
      simp only [wipeD, ex, ev, M_bind, M_map, M_some, M_ite, t_eq, a_tup, al_eq, List.getElem?_cons_zero, List.getElem?_cons_succ, Option.bind_some, Option.map_some, q_add, q_sub, q_lt, q_le, q_gt, q_ge, q_eqI, q_neI, q_eqB, q_neB, q_isN, q_notN, isNon, q_ixT, q_ixR, atI_0, atI_1, atI_2, atI_3, atI_4, atI_5, atI_6, atI_7, q_slT, q_slR, q_revT, q_seqT, q_int, q_intB, q_max, q_min, q_abs, q_tupT, n_tup, n_int, n_bl, n_non, n_str, isi_ii, isi_ib, isi_tt, isi_itl, isi_btl, isi_ttl, isi_tl, isi_bb, u_bl, u_int, u_non, u_tup, g_name, g_tup, g_nil, g_cons, o_ret, o_nx, i_seq, List.set_cons_zero, List.set_cons_succ, decide_eq_true_eq, Bool.not_eq_true', decide_eq_false_iff_not, evP, Bool.false_eq_true, if_true, if_false, ite_true, ite_false, reduceIte, Bool.not_true, Bool.not_false, Option.some.injEq, q_pow10, Int.reduceToNat, Int.reducePow, Int.reduceAdd, Int.reduceSub, Int.reduceMul, Int.reduceNeg, Int.reduceLT, Int.reduceLE, Nat.reducePow, Nat.reduceLT, Nat.reduceLeDiff, Nat.reduceAdd, List.length_cons, List.length_nil, Int.neg_neg, show decide (sp ≤ y - x) = true by simp; omega]
      exact ⟨trivial, Lq.refl _⟩
    · simp only [asgG, M_some, List.set_cons_succ, List.set_cons_zero]
      exact ⟨trivial, trivial, l⟩
  rintro _ S3 ⟨rfl, l3⟩
  simp only [ex, M_map]
  refine M_and (M.imp (P := fun x => x = (.bl true, S3)) (by simp only [ex, ev, M_bind, M_map, M_some, M_ite, t_eq, a_tup, al_eq, List.getElem?_cons_zero, List.getElem?_cons_succ, Option.bind_some, Option.map_some, q_add, q_sub, q_lt, q_le, q_gt, q_ge, q_eqI, q_neI, q_eqB, q_neB, q_isN, q_notN, isNon, q_ixT, q_ixR, atI_0, atI_1, atI_2, atI_3, atI_4, atI_5, atI_6, atI_7, q_slT, q_slR, q_revT, q_seqT, q_int, q_intB, q_max, q_min, q_abs, q_tupT, n_tup, n_int, n_bl, n_non, n_str, isi_ii, isi_ib, isi_tt, isi_itl, isi_btl, isi_ttl, isi_tl, isi_bb, u_bl, u_int, u_non, u_tup, g_name, g_tup, g_nil, g_cons, o_ret, o_nx, i_seq, List.set_cons_zero, List.set_cons_succ, decide_eq_true_eq, Bool.not_eq_true', decide_eq_false_iff_not, evP, Bool.false_eq_true, if_true, if_false, ite_true, ite_false, reduceIte, Bool.not_true, Bool.not_false, Option.some.injEq, q_pow10, Int.reduceToNat, Int.reducePow, Int.reduceAdd, Int.reduceSub, Int.reduceMul, Int.reduceNeg, Int.reduceLT, Int.reduceLE, Nat.reducePow, Nat.reduceLT, Nat.reduceLeDiff, Nat.reduceAdd, List.length_cons, List.length_nil, Int.neg_neg]) ?_)
  rintro _ rfl
  refine ⟨rfl, ?_⟩
  refine M_adj (R := fun x y => x ≠ y) (L := off :: js.map (·.2)) rfl (l3 _ _ g2) (by simp; omega) hc.alt (fun x y S4 h l => ?_) fun S4 l => ?_
  · simp only [wipeD, ex, ev, M_bind, M_map, M_some, M_ite, t_eq, a_tup, al_eq, List.getElem?_cons_zero, List.getElem?_cons_succ, Option.bind_some, Option.map_some, q_add, q_sub, q_lt, q_le, q_gt, q_ge, q_eqI, q_neI, q_eqB, q_neB, q_isN, q_notN, isNon, q_ixT, q_ixR, atI_0, atI_1, atI_2, atI_3, atI_4, atI_5, atI_6, atI_7, q_slT, q_slR, q_revT, q_seqT, q_int, q_intB, q_max, q_min, q_abs, q_tupT, n_tup, n_int, n_bl, n_non, n_str, isi_ii, isi_ib, isi_tt, isi_itl, isi_btl, isi_ttl, isi_tl, isi_bb, u_bl, u_int, u_non, u_tup, g_name, g_tup, g_nil, g_cons, o_ret, o_nx, i_seq, List.set_cons_zero, List.set_cons_succ, decide_eq_true_eq, Bool.not_eq_true', decide_eq_false_iff_not, evP, Bool.false_eq_true, if_true, if_false, ite_true, ite_false, reduceIte, Bool.not_true, Bool.not_false, Option.some.injEq, q_pow10, Int.reduceToNat, Int.reducePow, Int.reduceAdd, Int.reduceSub, Int.reduceMul, Int.reduceNeg, Int.reduceLT, Int.reduceLE, Nat.reducePow, Nat.reduceLT, Nat.reduceLeDiff, Nat.reduceAdd, List.length_cons, List.length_nil, Int.neg_neg, show decide (x = y) = false by simpa using h]
    exact ⟨trivial, Lq.refl _⟩
  · simp only [ex, ev, M_bind, M_map, M_some, M_ite, t_eq, a_tup, al_eq, List.getElem?_cons_zero, List.getElem?_cons_succ, Option.bind_some, Option.map_some, q_add, q_sub, q_lt, q_le, q_gt, q_ge, q_eqI, q_neI, q_eqB, q_neB, q_isN, q_notN, isNon, q_ixT, q_ixR, atI_0, atI_1, atI_2, atI_3, atI_4, atI_5, atI_6, atI_7, q_slT, q_slR, q_revT, q_seqT, q_int, q_intB, q_max, q_min, q_abs, q_tupT, n_tup, n_int, n_bl, n_non, n_str, isi_ii, isi_ib, isi_tt, isi_itl, isi_btl, isi_ttl, isi_tl, isi_bb, u_bl, u_int, u_non, u_tup, g_name, g_tup, g_nil, g_cons, o_ret, o_nx, i_seq, List.set_cons_zero, List.set_cons_succ, decide_eq_true_eq, Bool.not_eq_true', decide_eq_false_iff_not, evP, Bool.false_eq_true, if_true, if_false, ite_true, ite_false, reduceIte, Bool.not_true, Bool.not_false, Option.some.injEq, q_pow10, Int.reduceToNat, Int.reducePow, Int.reduceAdd, Int.reduceSub, Int.reduceMul, Int.reduceNeg, Int.reduceLT, Int.reduceLE, Nat.reducePow, Nat.reduceLT, Nat.reduceLeDiff, Nat.reduceAdd, List.length_cons, List.length_nil, Int.neg_neg]
    exact ⟨trivial, l1.trans (l2.trans (l3.trans l))⟩
theorem fits_as_table_ok {n : Nat} {S : Hd} {os : List Int} {sp off : Int} {js : List (Int × Int)} (hc : Chart os sp off js) (hz : js.length ≤ 900) : Pu (run T (n + 5) 12 [zoneD os sp, chartD off js] S) (.bl true) S := by
  refine Pu.run T_fits_as_table rfl ?_
  show M (ex (run T (n + 4)) b_fits_as_table [some (zoneD os sp), some (chartD off js), none, none] S) _
  unfold b_fits_as_table chartD
  refine seq_M (fun env S1 => env = [some (zoneD os sp), some (.tup [.int off, .tup (js.map jumpD)]), none, none] ∧ Lq S S1) ?_ ?_
  · refine ite_M ?_
    simp only [ex, ev, M_bind, M_map, M_some, M_ite, t_eq, a_tup, al_eq, List.getElem?_cons_zero, List.getElem?_cons_succ, Option.bind_some, Option.map_some, q_add, q_sub, q_lt, q_le, q_gt, q_ge, q_eqI, q_neI, q_eqB, q_neB, q_isN, q_notN, isNon, q_ixT, q_ixR, atI_0, atI_1, atI_2, atI_3, atI_4, atI_5, atI_6, atI_7, q_slT, q_slR, q_revT, q_seqT, q_int, q_intB, q_max, q_min, q_abs, q_tupT, n_tup, n_int, n_bl, n_non, n_str, isi_ii, isi_ib, isi_tt, isi_itl, isi_btl, isi_ttl, isi_tl, isi_bb, u_bl, u_int, u_non, u_tup, g_name, g_tup, g_nil, g_cons, o_ret, o_nx, i_seq, List.set_cons_zero, List.set_cons_succ, decide_eq_true_eq, Bool.not_eq_true', decide_eq_false_iff_not, evP, Bool.false_eq_true, if_true, if_false, ite_true, ite_false, reduceIte, Bool.not_true, Bool.not_false, Option.some.injEq, q_pow10, Int.reduceToNat, Int.reducePow, Int.reduceAdd, Int.reduceSub, Int.reduceMul, Int.reduceNeg, Int.reduceLT, Int.reduceLE, Nat.reducePow, Nat.reduceLT, Nat.reduceLeDiff, Nat.reduceAdd, List.length_cons, List.length_nil, Int.neg_neg]
    refine is_pair_ok.use fun S1 l1 => ?_
    simp only [ex, ev, M_bind, M_map, M_some, M_ite, t_eq, a_tup, al_eq, List.getElem?_cons_zero, List.getElem?_cons_succ, Option.bind_some, Option.map_some, q_add, q_sub, q_lt, q_le, q_gt, q_ge, q_eqI, q_neI, q_eqB, q_neB, q_isN, q_notN, isNon, q_ixT, q_ixR, atI_0, atI_1, atI_2, atI_3, atI_4, atI_5, atI_6, atI_7, q_slT, q_slR, q_revT, q_seqT, q_int, q_intB, q_max, q_min, q_abs, q_tupT, n_tup, n_int, n_bl, n_non, n_str, isi_ii, isi_ib, isi_tt, isi_itl, isi_btl, isi_ttl, isi_tl, isi_bb, u_bl, u_int, u_non, u_tup, g_name, g_tup, g_nil, g_cons, o_ret, o_nx, i_seq, List.set_cons_zero, List.set_cons_succ, decide_eq_true_eq, Bool.not_eq_true', decide_eq_false_iff_not, evP, Bool.false_eq_true, if_true, if_false, ite_true, ite_false, reduceIte, Bool.not_true, Bool.not_false, Option.some.injEq, q_pow10, Int.reduceToNat, Int.reducePow, Int.reduceAdd, Int.reduceSub, Int.reduceMul, Int.reduceNeg, Int.reduceLT, Int.reduceLE, Nat.reducePow, Nat.reduceLT, Nat.reduceLeDiff, Nat.reduceAdd, List.length_cons, List.length_nil, Int.neg_neg]
    exact ⟨trivial, trivial, l1⟩
  rintro _ S1 ⟨rfl, l1⟩
  refine seq_M (fun env S2 => env = [some (zoneD os sp), some (.tup [.int off, .tup (js.map jumpD)]), some (.int off), some (.tup (js.map jumpD))] ∧ S1 = S2) ?_ ?_
  · simp only [ex, ev, M_bind, M_map, M_some, M_ite, t_eq, a_tup, al_eq, List.getElem?_cons_zero, List.getElem?_cons_succ, Option.bind_some, Option.map_some, q_add, q_sub, q_lt, q_le, q_gt, q_ge, q_eqI, q_neI, q_eqB, q_neB, q_isN, q_notN, isNon, q_ixT, q_ixR, atI_0, atI_1, atI_2, atI_3, atI_4, atI_5, atI_6, atI_7, q_slT, q_slR, q_revT, q_seqT, q_int, q_intB, q_max, q_min, q_abs, q_tupT, n_tup, n_int, n_bl, n_non, n_str, isi_ii, isi_ib, isi_tt, isi_itl, isi_btl, isi_ttl, isi_tl, isi_bb, u_bl, u_int, u_non, u_tup, g_name, g_tup, g_nil, g_cons, o_ret, o_nx, i_seq, List.set_cons_zero, List.set_cons_succ, decide_eq_true_eq, Bool.not_eq_true', decide_eq_false_iff_not, evP, Bool.false_eq_true, if_true, if_false, ite_true, ite_false, reduceIte, Bool.not_true, Bool.not_false, Option.some.injEq, q_pow10, Int.reduceToNat, Int.reducePow, Int.reduceAdd, Int.reduceSub, Int.reduceMul, Int.reduceNeg, Int.reduceLT, Int.reduceLE, Nat.reducePow, Nat.reduceLT, Nat.reduceLeDiff, Nat.reduceAdd, List.length_cons, List.length_nil, Int.neg_neg]
    exact ⟨trivial, trivial, trivial⟩
  rintro _ _ ⟨rfl, rfl⟩
  refine seq_M (fun env S2 => env = [some (zoneD os sp), some (.tup [.int off, .tup (js.map jumpD)]), some (.int off), some (.tup (js.map jumpD))] ∧ Lq S S2) ?_ ?_
  · refine ite_M ?_
    simp only [ex, ev, M_bind, M_map, M_some, M_ite, t_eq, a_tup, al_eq, List.getElem?_cons_zero, List.getElem?_cons_succ, Option.bind_some, Option.map_some, q_add, q_sub, q_lt, q_le, q_gt, q_ge, q_eqI, q_neI, q_eqB, q_neB, q_isN, q_notN, isNon, q_ixT, q_ixR, atI_0, atI_1, atI_2, atI_3, atI_4, atI_5, atI_6, atI_7, q_slT, q_slR, q_revT, q_seqT, q_int, q_intB, q_max, q_min, q_abs, q_tupT, n_tup, n_int, n_bl, n_non, n_str, isi_ii, isi_ib, isi_tt, isi_itl, isi_btl, isi_ttl, isi_tl, isi_bb, u_bl, u_int, u_non, u_tup, g_name, g_tup, g_nil, g_cons, o_ret, o_nx, i_seq, List.set_cons_zero, List.set_cons_succ, decide_eq_true_eq, Bool.not_eq_true', decide_eq_false_iff_not, evP, Bool.false_eq_true, if_true, if_false, ite_true, ite_false, reduceIte, Bool.not_true, Bool.not_false, Option.some.injEq, q_pow10, Int.reduceToNat, Int.reducePow, Int.reduceAdd, Int.reduceSub, Int.reduceMul, Int.reduceNeg, Int.reduceLT, Int.reduceLE, Nat.reducePow, Nat.reduceLT, Nat.reduceLeDiff, Nat.reduceAdd, List.length_cons, List.length_nil, Int.neg_neg]
    refine (is_offset_ok hc.first).use fun S2 l2 => ?_
    simp only [ex, ev, M_bind, M_map, M_some, M_ite, t_eq, a_tup, al_eq, List.getElem?_cons_zero, List.getElem?_cons_succ, Option.bind_some, Option.map_some, q_add, q_sub, q_lt, q_le, q_gt, q_ge, q_eqI, q_neI, q_eqB, q_neB, q_isN, q_notN, isNon, q_ixT, q_ixR, atI_0, atI_1, atI_2, atI_3, atI_4, atI_5, atI_6, atI_7, q_slT, q_slR, q_revT, q_seqT, q_int, q_intB, q_max, q_min, q_abs, q_tupT, n_tup, n_int, n_bl, n_non, n_str, isi_ii, isi_ib, isi_tt, isi_itl, isi_btl, isi_ttl, isi_tl, isi_bb, u_bl, u_int, u_non, u_tup, g_name, g_tup, g_nil, g_cons, o_ret, o_nx, i_seq, List.set_cons_zero, List.set_cons_succ, decide_eq_true_eq, Bool.not_eq_true', decide_eq_false_iff_not, evP, Bool.false_eq_true, if_true, if_false, ite_true, ite_false, reduceIte, Bool.not_true, Bool.not_false, Option.some.injEq, q_pow10, Int.reduceToNat, Int.reducePow, Int.reduceAdd, Int.reduceSub, Int.reduceMul, Int.reduceNeg, Int.reduceLT, Int.reduceLE, Nat.reducePow, Nat.reduceLT, Nat.reduceLeDiff, Nat.reduceAdd, List.length_cons, List.length_nil, Int.neg_neg]
    refine (are_marks_ok hc.mem hz).use fun S3 l3 => ?_
    simp only [ex, ev, M_bind, M_map, M_some, M_ite, t_eq, a_tup, al_eq, List.getElem?_cons_zero, List.getElem?_cons_succ, Option.bind_some, Option.map_some, q_add, q_sub, q_lt, q_le, q_gt, q_ge, q_eqI, q_neI, q_eqB, q_neB, q_isN, q_notN, isNon, q_ixT, q_ixR, atI_0, atI_1, atI_2, atI_3, atI_4, atI_5, atI_6, atI_7, q_slT, q_slR, q_revT, q_seqT, q_int, q_intB, q_max, q_min, q_abs, q_tupT, n_tup, n_int, n_bl, n_non, n_str, isi_ii, isi_ib, isi_tt, isi_itl, isi_btl, isi_ttl, isi_tl, isi_bb, u_bl, u_int, u_non, u_tup, g_name, g_tup, g_nil, g_cons, o_ret, o_nx, i_seq, List.set_cons_zero, List.set_cons_succ, decide_eq_true_eq, Bool.not_eq_true', decide_eq_false_iff_not, evP, Bool.false_eq_true, if_true, if_false, ite_true, ite_false, reduceIte, Bool.not_true, Bool.not_false, Option.some.injEq, q_pow10, Int.reduceToNat, Int.reducePow, Int.reduceAdd, Int.reduceSub, Int.reduceMul, Int.reduceNeg, Int.reduceLT, Int.reduceLE, Nat.reducePow, Nat.reduceLT, Nat.reduceLeDiff, Nat.reduceAdd, List.length_cons, List.length_nil, Int.neg_neg]
    exact ⟨trivial, trivial, l1.trans (l2.trans l3)⟩
  rintro _ S2 ⟨rfl, l2⟩
  simp only [ex, ev, M_bind, M_map, M_some, M_ite, t_eq, a_tup, al_eq, List.getElem?_cons_zero, List.getElem?_cons_succ, Option.bind_some, Option.map_some, q_add, q_sub, q_lt, q_le, q_gt, q_ge, q_eqI, q_neI, q_eqB, q_neB, q_isN, q_notN, isNon, q_ixT, q_ixR, atI_0, atI_1, atI_2, atI_3, atI_4, atI_5, atI_6, atI_7, q_slT, q_slR, q_revT, q_seqT, q_int, q_intB, q_max, q_min, q_abs, q_tupT, n_tup, n_int, n_bl, n_non, n_str, isi_ii, isi_ib, isi_tt, isi_itl, isi_btl, isi_ttl, isi_tl, isi_bb, u_bl, u_int, u_non, u_tup, g_name, g_tup, g_nil, g_cons, o_ret, o_nx, i_seq, List.set_cons_zero, List.set_cons_succ, decide_eq_true_eq, Bool.not_eq_true', decide_eq_false_iff_not, evP, Bool.false_eq_true, if_true, if_false, ite_true, ite_false, reduceIte, Bool.not_true, Bool.not_false, Option.some.injEq, q_pow10, Int.reduceToNat, Int.reducePow, Int.reduceAdd, Int.reduceSub, Int.reduceMul, Int.reduceNeg, Int.reduceLT, Int.reduceLE, Nat.reducePow, Nat.reduceLT, Nat.reduceLeDiff, Nat.reduceAdd, List.length_cons, List.length_nil, Int.neg_neg]
  refine (are_jumps_ok hc hz).use fun S3 l3 => ?_
  simp only [ex, ev, M_bind, M_map, M_some, M_ite, t_eq, a_tup, al_eq, List.getElem?_cons_zero, List.getElem?_cons_succ, Option.bind_some, Option.map_some, q_add, q_sub, q_lt, q_le, q_gt, q_ge, q_eqI, q_neI, q_eqB, q_neB, q_isN, q_notN, isNon, q_ixT, q_ixR, atI_0, atI_1, atI_2, atI_3, atI_4, atI_5, atI_6, atI_7, q_slT, q_slR, q_revT, q_seqT, q_int, q_intB, q_max, q_min, q_abs, q_tupT, n_tup, n_int, n_bl, n_non, n_str, isi_ii, isi_ib, isi_tt, isi_itl, isi_btl, isi_ttl, isi_tl, isi_bb, u_bl, u_int, u_non, u_tup, g_name, g_tup, g_nil, g_cons, o_ret, o_nx, i_seq, List.set_cons_zero, List.set_cons_succ, decide_eq_true_eq, Bool.not_eq_true', decide_eq_false_iff_not, evP, Bool.false_eq_true, if_true, if_false, ite_true, ite_false, reduceIte, Bool.not_true, Bool.not_false, Option.some.injEq, q_pow10, Int.reduceToNat, Int.reducePow, Int.reduceAdd, Int.reduceSub, Int.reduceMul, Int.reduceNeg, Int.reduceLT, Int.reduceLE, Nat.reducePow, Nat.reduceLT, Nat.reduceLeDiff, Nat.reduceAdd, List.length_cons, List.length_nil, Int.neg_neg]
  exact ⟨trivial, l2.trans l3⟩
theorem check_table_ok {n : Nat} {S : Hd} {os : List Int} {sp off : Int} {js : List (Int × Int)} (hc : Chart os sp off js) (hz : js.length ≤ 900) : Pu (run T (n + 6) 13 [zoneD os sp, chartD off js] S) .non S := by
  refine Pu.run T_check_table rfl ?_
  show M (ex (run T (n + 5)) b_check_table [some (zoneD os sp), some (chartD off js)] S) _
  unfold b_check_table
  refine ite_M ?_
  simp only [ex, ev, M_bind, M_map, M_some, M_ite, t_eq, a_tup, al_eq, List.getElem?_cons_zero, List.getElem?_cons_succ, Option.bind_some, Option.map_some, q_add, q_sub, q_lt, q_le, q_gt, q_ge, q_eqI, q_neI, q_eqB, q_neB, q_isN, q_notN, isNon, q_ixT, q_ixR, atI_0, atI_1, atI_2, atI_3, atI_4, atI_5, atI_6, atI_7, q_slT, q_slR, q_revT, q_seqT, q_int, q_intB, q_max, q_min, q_abs, q_tupT, n_tup, n_int, n_bl, n_non, n_str, isi_ii, isi_ib, isi_tt, isi_itl, isi_btl, isi_ttl, isi_tl, isi_bb, u_bl, u_int, u_non, u_tup, g_name, g_tup, g_nil, g_cons, o_ret, o_nx, i_seq, List.set_cons_zero, List.set_cons_succ, decide_eq_true_eq, Bool.not_eq_true', decide_eq_false_iff_not, evP, Bool.false_eq_true, if_true, if_false, ite_true, ite_false, reduceIte, Bool.not_true, Bool.not_false, Option.some.injEq, q_pow10, Int.reduceToNat, Int.reducePow, Int.reduceAdd, Int.reduceSub, Int.reduceMul, Int.reduceNeg, Int.reduceLT, Int.reduceLE, Nat.reducePow, Nat.reduceLT, Nat.reduceLeDiff, Nat.reduceAdd, List.length_cons, List.length_nil, Int.neg_neg]
  refine (fits_as_table_ok hc hz).use fun S1 l1 => ?_
  simp only [ex, ev, M_bind, M_map, M_some, M_ite, t_eq, a_tup, al_eq, List.getElem?_cons_zero, List.getElem?_cons_succ, Option.bind_some, Option.map_some, q_add, q_sub, q_lt, q_le, q_gt, q_ge, q_eqI, q_neI, q_eqB, q_neB, q_isN, q_notN, isNon, q_ixT, q_ixR, atI_0, atI_1, atI_2, atI_3, atI_4, atI_5, atI_6, atI_7, q_slT, q_slR, q_revT, q_seqT, q_int, q_intB, q_max, q_min, q_abs, q_tupT, n_tup, n_int, n_bl, n_non, n_str, isi_ii, isi_ib, isi_tt, isi_itl, isi_btl, isi_ttl, isi_tl, isi_bb, u_bl, u_int, u_non, u_tup, g_name, g_tup, g_nil, g_cons, o_ret, o_nx, i_seq, List.set_cons_zero, List.set_cons_succ, decide_eq_true_eq, Bool.not_eq_true', decide_eq_false_iff_not, evP, Bool.false_eq_true, if_true, if_false, ite_true, ite_false, reduceIte, Bool.not_true, Bool.not_false, Option.some.injEq, q_pow10, Int.reduceToNat, Int.reducePow, Int.reduceAdd, Int.reduceSub, Int.reduceMul, Int.reduceNeg, Int.reduceLT, Int.reduceLE, Nat.reducePow, Nat.reduceLT, Nat.reduceLeDiff, Nat.reduceAdd, List.length_cons, List.length_nil, Int.neg_neg]
  exact ⟨trivial, l1⟩
end Lw

namespace Lw
open PySem L2 Ix
/-! ### which offset holds -/
def heldF (off : Int) (js : List (Int × Int)) (m : Int) : Int := js.foldl (fun h j => if j.1 ≤ m then j.2 else h) off
theorem heldF_succ {off m : Int} {js : List (Int × Int)} {i : Nat} {j : Int × Int} (h : js[i]? = some j) : heldF off (js.take (i + 1)) m = if j.1 ≤ m then j.2 else heldF off (js.take i) m := by
  unfold heldF
  rw [List.take_add_one, h]
  simp [List.foldl_append]
theorem far_asc {sp : Int} {L : List Int} (h : Adj (fun x y => x + sp ≤ y) L) (h0 : 0 < sp) : ∀ (d i : Nat) (x y : Int), L[i]? = some x → L[i + d]? = some y → x + (d : Int) * sp ≤ y
  | 0, i, x, y, h1, h2 => by
    rw [Nat.add_zero, h1] at h2
    cases h2
    simp
  | d + 1, i, x, y, h1, h2 => by
    have hd : i + d < L.length := by
      have := (List.getElem?_eq_some_iff.mp h2).1
      omega
    have ih := far_asc h h0 d i x _ h1 (List.getElem?_eq_getElem hd)
    have := h (i + d) _ y (List.getElem?_eq_getElem hd) h2
    have e : ((d + 1 : Nat) : Int) * sp = (d : Int) * sp + sp := by
      rw [Int.natCast_add, Int.add_mul]
      simp
    omega
theorem Zone.pos {os : List Int} {sp : Int} (hz : Zone os sp) : 0 < sp := by
  have h1 := hz.len1
  cases os with
  | nil => simp at h1
  | cons x xs =>
    have := hz.gap x List.mem_cons_self x List.mem_cons_self
    omega
/-- behind the first jump that is behind the moment nothing changes -/
theorem heldF_stop {off m sp : Int} {js : List (Int × Int)} (hf : Adj (fun x y => x + sp ≤ y) (js.map (·.1))) (h0 : 0 < sp) {i : Nat} {j : Int × Int} (h : js[i]? = some j) (hm : m < j.1) : heldF off js m = heldF off (js.take i) m := by
  have key : ∀ d, i + d ≤ js.length → heldF off (js.take (i + d)) m = heldF off (js.take i) m := by
    intro d
    induction d with
    | zero => intro _; rfl
    | succ d ih =>
      intro hd
      have hlt : i + d < js.length := by omega
      have e : js[i + d]? = some js[i + d] := List.getElem?_eq_getElem hlt
      rw [show i + (d + 1) = i + d + 1 by omega, heldF_succ e, ih (by omega)]
      have := far_asc hf h0 d i j.1 (js[i + d]).1 (by rw [List.getElem?_map, h]; rfl) (by rw [List.getElem?_map, e]; rfl)
      have hp : 0 ≤ (d : Int) * sp := Int.mul_nonneg (by omega) (by omega)
      rw [if_neg (by omega)]
  have hi := (List.getElem?_eq_some_iff.mp h).1
  have := key (js.length - i) (by omega)
  rw [show i + (js.length - i) = js.length by omega, List.take_length] at this
  exact this
theorem jump_get {js : List (Int × Int)} {i : Nat} {d : D} (h : (js.map jumpD)[i]? = some d) : ∃ j, js[i]? = some j ∧ d = .tup [.int j.1, .int j.2] := by
  rw [List.getElem?_map] at h
  cases hx : js[i]? with
  | none => rw [hx] at h; cases h
  | some j =>
    rw [hx] at h
    simp only [Option.map_some, Option.some.injEq] at h
    exact ⟨j, rfl, h.symm⟩
theorem held_offset_ok {n : Nat} {S : Hd} {sp off m : Int} {js : List (Int × Int)} (hf : Adj (fun x y => x + sp ≤ y) (js.map (·.1))) (h0 : 0 < sp) : Pu (run T (n + 1) 14 [chartD off js, .int m] S) (.int (heldF off js m)) S := by
  refine Pu.run T_held_offset rfl ?_
  show M (ex (run T n) b_held_offset [some (chartD off js), some (.int m), none, none, none, none] S) _
  unfold b_held_offset chartD
  refine seq_M (fun env S1 => env = [some (.tup [.int off, .tup (js.map jumpD)]), some (.int m), some (.int off), some (.tup (js.map jumpD)), none, none] ∧ S = S1) ?_ ?_
  · simp only [ex, ev, M_bind, M_map, M_some, M_ite, t_eq, a_tup, al_eq, List.getElem?_cons_zero, List.getElem?_cons_succ, Option.bind_some, Option.map_some, q_add, q_sub, q_lt, q_le, q_gt, q_ge, q_eqI, q_neI, q_eqB, q_neB, q_isN, q_notN, isNon, q_ixT, q_ixR, atI_0, atI_1, atI_2, atI_3, atI_4, atI_5, atI_6, atI_7, q_slT, q_slR, q_revT, q_seqT, q_int, q_intB, q_max, q_min, q_abs, q_tupT, n_tup, n_int, n_bl, n_non, n_str, isi_ii, isi_ib, isi_tt, isi_itl, isi_btl, isi_ttl, isi_tl, isi_bb, u_bl, u_int, u_non, u_tup, g_name, g_tup, g_nil, g_cons, o_ret, o_nx, i_seq, List.set_cons_zero, List.set_cons_succ, decide_eq_true_eq, Bool.not_eq_true', decide_eq_false_iff_not, evP, Bool.false_eq_true, if_true, if_false, ite_true, ite_false, reduceIte, Bool.not_true, Bool.not_false, Option.some.injEq, q_pow10, Int.reduceToNat, Int.reducePow, Int.reduceAdd, Int.reduceSub, Int.reduceMul, Int.reduceNeg, Int.reduceLT, Int.reduceLE, Nat.reducePow, Nat.reduceLT, Nat.reduceLeDiff, Nat.reduceAdd, List.length_cons, List.length_nil, Int.neg_neg]
    exact ⟨trivial, trivial, trivial⟩
  rintro _ _ ⟨rfl, rfl⟩
  refine seq_M (fun env S1 => ∃ v4 v5 : Option D, env = [some (.tup [.int off, .tup (js.map jumpD)]), some (.int m), some (.int (heldF off js m)), some (.tup (js.map jumpD)), v4, v5] ∧ S = S1) ?_ ?_
  · refine for_M ?_
    simp only [ex, ev, M_bind, M_map, M_some, M_ite, t_eq, a_tup, al_eq, List.getElem?_cons_zero, List.getElem?_cons_succ, Option.bind_some, Option.map_some, q_add, q_sub, q_lt, q_le, q_gt, q_ge, q_eqI, q_neI, q_eqB, q_neB, q_isN, q_notN, isNon, q_ixT, q_ixR, atI_0, atI_1, atI_2, atI_3, atI_4, atI_5, atI_6, atI_7, q_slT, q_slR, q_revT, q_seqT, q_int, q_intB, q_max, q_min, q_abs, q_tupT, n_tup, n_int, n_bl, n_non, n_str, isi_ii, isi_ib, isi_tt, isi_itl, isi_btl, isi_ttl, isi_tl, isi_bb, u_bl, u_int, u_non, u_tup, g_name, g_tup, g_nil, g_cons, o_ret, o_nx, i_seq, List.set_cons_zero, List.set_cons_succ, decide_eq_true_eq, Bool.not_eq_true', decide_eq_false_iff_not, evP, Bool.false_eq_true, if_true, if_false, ite_true, ite_false, reduceIte, Bool.not_true, Bool.not_false, Option.some.injEq, q_pow10, Int.reduceToNat, Int.reducePow, Int.reduceAdd, Int.reduceSub, Int.reduceMul, Int.reduceNeg, Int.reduceLT, Int.reduceLE, Nat.reducePow, Nat.reduceLT, Nat.reduceLeDiff, Nat.reduceAdd, List.length_cons, List.length_nil, Int.neg_neg]
    refine ⟨_, _, rfl, rfl, ?_⟩
    refine M_loopS (m := 0) (fun i env S1 => S = S1 ∧ ∃ v4 v5 : Option D, env = [some (.tup [.int off, .tup (js.map jumpD)]), some (.int m), some (.int (heldF off (js.take i) m)), some (.tup (js.map jumpD)), v4, v5]) ⟨rfl, none, none, rfl⟩ ?_ ?_
    · rintro i d env S1 hi ⟨rfl, v4, v5, rfl⟩
      obtain ⟨j, hj, rfl⟩ := jump_get hi
      simp only [ex, ev, M_bind, M_map, M_some, M_ite, t_eq, a_tup, al_eq, List.getElem?_cons_zero, List.getElem?_cons_succ, Option.bind_some, Option.map_some, q_add, q_sub, q_lt, q_le, q_gt, q_ge, q_eqI, q_neI, q_eqB, q_neB, q_isN, q_notN, isNon, q_ixT, q_ixR, atI_0, atI_1, atI_2, atI_3, atI_4, atI_5, atI_6, atI_7, q_slT, q_slR, q_revT, q_seqT, q_int, q_intB, q_max, q_min, q_abs, q_tupT, n_tup, n_int, n_bl, n_non, n_str, isi_ii, isi_ib, isi_tt, isi_itl, isi_btl, isi_ttl, isi_tl, isi_bb, u_bl, u_int, u_non, u_tup, g_name, g_tup, g_nil, g_cons, o_ret, o_nx, i_seq, List.set_cons_zero, List.set_cons_succ, decide_eq_true_eq, Bool.not_eq_true', decide_eq_false_iff_not, evP, Bool.false_eq_true, if_true, if_false, ite_true, ite_false, reduceIte, Bool.not_true, Bool.not_false, Option.some.injEq, q_pow10, Int.reduceToNat, Int.reducePow, Int.reduceAdd, Int.reduceSub, Int.reduceMul, Int.reduceNeg, Int.reduceLT, Int.reduceLE, Nat.reducePow, Nat.reduceLT, Nat.reduceLeDiff, Nat.reduceAdd, List.length_cons, List.length_nil, Int.neg_neg, Nat.zero_add]
      by_cases hm : m < j.1
      · simp only [if_pos hm]
        exact ⟨trivial, _, _, by rw [← heldF_stop hf h0 hj hm], trivial⟩
      · simp only [if_neg hm]
        exact ⟨trivial, trivial, _, _, by rw [heldF_succ hj, if_pos (by omega)]⟩
    · rintro env S1 ⟨rfl, v4, v5, rfl⟩
      refine ⟨rfl, v4, v5, ?_, rfl⟩
      simp
  rintro _ _ ⟨v4, v5, rfl, rfl⟩
  simp only [ex, ev, M_bind, M_map, M_some, M_ite, t_eq, a_tup, al_eq, List.getElem?_cons_zero, List.getElem?_cons_succ, Option.bind_some, Option.map_some, q_add, q_sub, q_lt, q_le, q_gt, q_ge, q_eqI, q_neI, q_eqB, q_neB, q_isN, q_notN, isNon, q_ixT, q_ixR, atI_0, atI_1, atI_2, atI_3, atI_4, atI_5, atI_6, atI_7, q_slT, q_slR, q_revT, q_seqT, q_int, q_intB, q_max, q_min, q_abs, q_tupT, n_tup, n_int, n_bl, n_non, n_str, isi_ii, isi_ib, isi_tt, isi_itl, isi_btl, isi_ttl, isi_tl, isi_bb, u_bl, u_int, u_non, u_tup, g_name, g_tup, g_nil, g_cons, o_ret, o_nx, i_seq, List.set_cons_zero, List.set_cons_succ, decide_eq_true_eq, Bool.not_eq_true', decide_eq_false_iff_not, evP, Bool.false_eq_true, if_true, if_false, ite_true, ite_false, reduceIte, Bool.not_true, Bool.not_false, Option.some.injEq, q_pow10, Int.reduceToNat, Int.reducePow, Int.reduceAdd, Int.reduceSub, Int.reduceMul, Int.reduceNeg, Int.reduceLT, Int.reduceLE, Nat.reducePow, Nat.reduceLT, Nat.reduceLeDiff, Nat.reduceAdd, List.length_cons, List.length_nil, Int.neg_neg]
  exact ⟨trivial, Lq.refl _⟩
theorem shift_at_ok {n : Nat} {S : Hd} {off m : Int} {js : List (Int × Int)} : Pu (run T (n + 1) 22 [chartD off js, .int m] S) (.int (heldF off js m)) S := by
  refine Pu.run T_shift_at rfl ?_
  show M (ex (run T n) b_shift_at [some (chartD off js), some (.int m), none, none, none] S) _
  unfold b_shift_at chartD
  refine seq_M (fun env S1 => env = [some (.tup [.int off, .tup (js.map jumpD)]), some (.int m), some (.int off), none, none] ∧ S = S1) ?_ ?_
  · simp only [ex, ev, M_bind, M_map, M_some, M_ite, t_eq, a_tup, al_eq, List.getElem?_cons_zero, List.getElem?_cons_succ, Option.bind_some, Option.map_some, q_add, q_sub, q_lt, q_le, q_gt, q_ge, q_eqI, q_neI, q_eqB, q_neB, q_isN, q_notN, isNon, q_ixT, q_ixR, atI_0, atI_1, atI_2, atI_3, atI_4, atI_5, atI_6, atI_7, q_slT, q_slR, q_revT, q_seqT, q_int, q_intB, q_max, q_min, q_abs, q_tupT, n_tup, n_int, n_bl, n_non, n_str, isi_ii, isi_ib, isi_tt, isi_itl, isi_btl, isi_ttl, isi_tl, isi_bb, u_bl, u_int, u_non, u_tup, g_name, g_tup, g_nil, g_cons, o_ret, o_nx, i_seq, List.set_cons_zero, List.set_cons_succ, decide_eq_true_eq, Bool.not_eq_true', decide_eq_false_iff_not, evP, Bool.false_eq_true, if_true, if_false, ite_true, ite_false, reduceIte, Bool.not_true, Bool.not_false, Option.some.injEq, q_pow10, Int.reduceToNat, Int.reducePow, Int.reduceAdd, Int.reduceSub, Int.reduceMul, Int.reduceNeg, Int.reduceLT, Int.reduceLE, Nat.reducePow, Nat.reduceLT, Nat.reduceLeDiff, Nat.reduceAdd, List.length_cons, List.length_nil, Int.neg_neg]
    exact ⟨trivial, trivial, trivial⟩
  rintro _ _ ⟨rfl, rfl⟩
  refine seq_M (fun env S1 => ∃ v4 v5 : Option D, env = [some (.tup [.int off, .tup (js.map jumpD)]), some (.int m), some (.int (heldF off js m)), v4, v5] ∧ S = S1) ?_ ?_
  · refine for_M ?_
    simp only [ex, ev, M_bind, M_map, M_some, M_ite, t_eq, a_tup, al_eq, List.getElem?_cons_zero, List.getElem?_cons_succ, Option.bind_some, Option.map_some, q_add, q_sub, q_lt, q_le, q_gt, q_ge, q_eqI, q_neI, q_eqB, q_neB, q_isN, q_notN, isNon, q_ixT, q_ixR, atI_0, atI_1, atI_2, atI_3, atI_4, atI_5, atI_6, atI_7, q_slT, q_slR, q_revT, q_seqT, q_int, q_intB, q_max, q_min, q_abs, q_tupT, n_tup, n_int, n_bl, n_non, n_str, isi_ii, isi_ib, isi_tt, isi_itl, isi_btl, isi_ttl, isi_tl, isi_bb, u_bl, u_int, u_non, u_tup, g_name, g_tup, g_nil, g_cons, o_ret, o_nx, i_seq, List.set_cons_zero, List.set_cons_succ, decide_eq_true_eq, Bool.not_eq_true', decide_eq_false_iff_not, evP, Bool.false_eq_true, if_true, if_false, ite_true, ite_false, reduceIte, Bool.not_true, Bool.not_false, Option.some.injEq, q_pow10, Int.reduceToNat, Int.reducePow, Int.reduceAdd, Int.reduceSub, Int.reduceMul, Int.reduceNeg, Int.reduceLT, Int.reduceLE, Nat.reducePow, Nat.reduceLT, Nat.reduceLeDiff, Nat.reduceAdd, List.length_cons, List.length_nil, Int.neg_neg]
    refine ⟨_, _, rfl, rfl, ?_⟩
    refine M_loopS (m := 0) (fun i env S1 => S = S1 ∧ ∃ v4 v5 : Option D, env = [some (.tup [.int off, .tup (js.map jumpD)]), some (.int m), some (.int (heldF off (js.take i) m)), v4, v5]) ⟨rfl, none, none, rfl⟩ ?_ ?_
    · rintro i d env S1 hi ⟨rfl, v4, v5, rfl⟩
      obtain ⟨j, hj, rfl⟩ := jump_get hi
      simp only [ex, ev, M_bind, M_map, M_some, M_ite, t_eq, a_tup, al_eq, List.getElem?_cons_zero, List.getElem?_cons_succ, Option.bind_some, Option.map_some, q_add, q_sub, q_lt, q_le, q_gt, q_ge, q_eqI, q_neI, q_eqB, q_neB, q_isN, q_notN, isNon, q_ixT, q_ixR, atI_0, atI_1, atI_2, atI_3, atI_4, atI_5, atI_6, atI_7, q_slT, q_slR, q_revT, q_seqT, q_int, q_intB, q_max, q_min, q_abs, q_tupT, n_tup, n_int, n_bl, n_non, n_str, isi_ii, isi_ib, isi_tt, isi_itl, isi_btl, isi_ttl, isi_tl, isi_bb, u_bl, u_int, u_non, u_tup, g_name, g_tup, g_nil, g_cons, o_ret, o_nx, i_seq, List.set_cons_zero, List.set_cons_succ, decide_eq_true_eq, Bool.not_eq_true', decide_eq_false_iff_not, evP, Bool.false_eq_true, if_true, if_false, ite_true, ite_false, reduceIte, Bool.not_true, Bool.not_false, Option.some.injEq, q_pow10, Int.reduceToNat, Int.reducePow, Int.reduceAdd, Int.reduceSub, Int.reduceMul, Int.reduceNeg, Int.reduceLT, Int.reduceLE, Nat.reducePow, Nat.reduceLT, Nat.reduceLeDiff, Nat.reduceAdd, List.length_cons, List.length_nil, Int.neg_neg, Nat.zero_add]
      by_cases hm : j.1 ≤ m
      · simp only [if_pos hm]
        exact ⟨trivial, trivial, _, _, by rw [heldF_succ hj, if_pos hm]⟩
      · simp only [if_neg hm]
        exact ⟨trivial, trivial, _, _, by rw [heldF_succ hj, if_neg hm]⟩
    · rintro env S1 ⟨rfl, v4, v5, rfl⟩
      refine ⟨rfl, v4, v5, ?_, rfl⟩
      simp
  rintro _ _ ⟨v4, v5, rfl, rfl⟩
  simp only [ex, ev, M_bind, M_map, M_some, M_ite, t_eq, a_tup, al_eq, List.getElem?_cons_zero, List.getElem?_cons_succ, Option.bind_some, Option.map_some, q_add, q_sub, q_lt, q_le, q_gt, q_ge, q_eqI, q_neI, q_eqB, q_neB, q_isN, q_notN, isNon, q_ixT, q_ixR, atI_0, atI_1, atI_2, atI_3, atI_4, atI_5, atI_6, atI_7, q_slT, q_slR, q_revT, q_seqT, q_int, q_intB, q_max, q_min, q_abs, q_tupT, n_tup, n_int, n_bl, n_non, n_str, isi_ii, isi_ib, isi_tt, isi_itl, isi_btl, isi_ttl, isi_tl, isi_bb, u_bl, u_int, u_non, u_tup, g_name, g_tup, g_nil, g_cons, o_ret, o_nx, i_seq, List.set_cons_zero, List.set_cons_succ, decide_eq_true_eq, Bool.not_eq_true', decide_eq_false_iff_not, evP, Bool.false_eq_true, if_true, if_false, ite_true, ite_false, reduceIte, Bool.not_true, Bool.not_false, Option.some.injEq, q_pow10, Int.reduceToNat, Int.reducePow, Int.reduceAdd, Int.reduceSub, Int.reduceMul, Int.reduceNeg, Int.reduceLT, Int.reduceLE, Nat.reducePow, Nat.reduceLT, Nat.reduceLeDiff, Nat.reduceAdd, List.length_cons, List.length_nil, Int.neg_neg]
  exact ⟨trivial, Lq.refl _⟩
theorem offset_at_ok {n : Nat} {S : Hd} {os : List Int} {sp off m : Int} {js : List (Int × Int)} (hz : Zone os sp) (hc : Chart os sp off js) (hl : js.length ≤ 900) : Pu (run T (n + 7) 15 [zoneD os sp, chartD off js, .int m] S) (.int (heldF off js m)) S := by
  refine Pu.run T_offset_at rfl ?_
  show M (ex (run T (n + 6)) b_offset_at [some (zoneD os sp), some (chartD off js), some (.int m)] S) _
  unfold b_offset_at
  simp only [ex, ev, M_bind, M_map, M_some, M_ite, t_eq, a_tup, al_eq, List.getElem?_cons_zero, List.getElem?_cons_succ, Option.bind_some, Option.map_some, q_add, q_sub, q_lt, q_le, q_gt, q_ge, q_eqI, q_neI, q_eqB, q_neB, q_isN, q_notN, isNon, q_ixT, q_ixR, atI_0, atI_1, atI_2, atI_3, atI_4, atI_5, atI_6, atI_7, q_slT, q_slR, q_revT, q_seqT, q_int, q_intB, q_max, q_min, q_abs, q_tupT, n_tup, n_int, n_bl, n_non, n_str, isi_ii, isi_ib, isi_tt, isi_itl, isi_btl, isi_ttl, isi_tl, isi_bb, u_bl, u_int, u_non, u_tup, g_name, g_tup, g_nil, g_cons, o_ret, o_nx, i_seq, List.set_cons_zero, List.set_cons_succ, decide_eq_true_eq, Bool.not_eq_true', decide_eq_false_iff_not, evP, Bool.false_eq_true, if_true, if_false, ite_true, ite_false, reduceIte, Bool.not_true, Bool.not_false, Option.some.injEq, q_pow10, Int.reduceToNat, Int.reducePow, Int.reduceAdd, Int.reduceSub, Int.reduceMul, Int.reduceNeg, Int.reduceLT, Int.reduceLE, Nat.reducePow, Nat.reduceLT, Nat.reduceLeDiff, Nat.reduceAdd, List.length_cons, List.length_nil, Int.neg_neg]
  refine (check_zone_ok hz).use fun S1 l1 => ?_
  simp only [ex, ev, M_bind, M_map, M_some, M_ite, t_eq, a_tup, al_eq, List.getElem?_cons_zero, List.getElem?_cons_succ, Option.bind_some, Option.map_some, q_add, q_sub, q_lt, q_le, q_gt, q_ge, q_eqI, q_neI, q_eqB, q_neB, q_isN, q_notN, isNon, q_ixT, q_ixR, atI_0, atI_1, atI_2, atI_3, atI_4, atI_5, atI_6, atI_7, q_slT, q_slR, q_revT, q_seqT, q_int, q_intB, q_max, q_min, q_abs, q_tupT, n_tup, n_int, n_bl, n_non, n_str, isi_ii, isi_ib, isi_tt, isi_itl, isi_btl, isi_ttl, isi_tl, isi_bb, u_bl, u_int, u_non, u_tup, g_name, g_tup, g_nil, g_cons, o_ret, o_nx, i_seq, List.set_cons_zero, List.set_cons_succ, decide_eq_true_eq, Bool.not_eq_true', decide_eq_false_iff_not, evP, Bool.false_eq_true, if_true, if_false, ite_true, ite_false, reduceIte, Bool.not_true, Bool.not_false, Option.some.injEq, q_pow10, Int.reduceToNat, Int.reducePow, Int.reduceAdd, Int.reduceSub, Int.reduceMul, Int.reduceNeg, Int.reduceLT, Int.reduceLE, Nat.reducePow, Nat.reduceLT, Nat.reduceLeDiff, Nat.reduceAdd, List.length_cons, List.length_nil, Int.neg_neg]
  refine (check_table_ok hc hl).use fun S2 l2 => ?_
  simp only [ex, ev, M_bind, M_map, M_some, M_ite, t_eq, a_tup, al_eq, List.getElem?_cons_zero, List.getElem?_cons_succ, Option.bind_some, Option.map_some, q_add, q_sub, q_lt, q_le, q_gt, q_ge, q_eqI, q_neI, q_eqB, q_neB, q_isN, q_notN, isNon, q_ixT, q_ixR, atI_0, atI_1, atI_2, atI_3, atI_4, atI_5, atI_6, atI_7, q_slT, q_slR, q_revT, q_seqT, q_int, q_intB, q_max, q_min, q_abs, q_tupT, n_tup, n_int, n_bl, n_non, n_str, isi_ii, isi_ib, isi_tt, isi_itl, isi_btl, isi_ttl, isi_tl, isi_bb, u_bl, u_int, u_non, u_tup, g_name, g_tup, g_nil, g_cons, o_ret, o_nx, i_seq, List.set_cons_zero, List.set_cons_succ, decide_eq_true_eq, Bool.not_eq_true', decide_eq_false_iff_not, evP, Bool.false_eq_true, if_true, if_false, ite_true, ite_false, reduceIte, Bool.not_true, Bool.not_false, Option.some.injEq, q_pow10, Int.reduceToNat, Int.reducePow, Int.reduceAdd, Int.reduceSub, Int.reduceMul, Int.reduceNeg, Int.reduceLT, Int.reduceLE, Nat.reducePow, Nat.reduceLT, Nat.reduceLeDiff, Nat.reduceAdd, List.length_cons, List.length_nil, Int.neg_neg]
  refine check_number_ok.use fun S3 l3 => ?_
  simp only [ex, ev, M_bind, M_map, M_some, M_ite, t_eq, a_tup, al_eq, List.getElem?_cons_zero, List.getElem?_cons_succ, Option.bind_some, Option.map_some, q_add, q_sub, q_lt, q_le, q_gt, q_ge, q_eqI, q_neI, q_eqB, q_neB, q_isN, q_notN, isNon, q_ixT, q_ixR, atI_0, atI_1, atI_2, atI_3, atI_4, atI_5, atI_6, atI_7, q_slT, q_slR, q_revT, q_seqT, q_int, q_intB, q_max, q_min, q_abs, q_tupT, n_tup, n_int, n_bl, n_non, n_str, isi_ii, isi_ib, isi_tt, isi_itl, isi_btl, isi_ttl, isi_tl, isi_bb, u_bl, u_int, u_non, u_tup, g_name, g_tup, g_nil, g_cons, o_ret, o_nx, i_seq, List.set_cons_zero, List.set_cons_succ, decide_eq_true_eq, Bool.not_eq_true', decide_eq_false_iff_not, evP, Bool.false_eq_true, if_true, if_false, ite_true, ite_false, reduceIte, Bool.not_true, Bool.not_false, Option.some.injEq, q_pow10, Int.reduceToNat, Int.reducePow, Int.reduceAdd, Int.reduceSub, Int.reduceMul, Int.reduceNeg, Int.reduceLT, Int.reduceLE, Nat.reducePow, Nat.reduceLT, Nat.reduceLeDiff, Nat.reduceAdd, List.length_cons, List.length_nil, Int.neg_neg]
  refine (held_offset_ok hc.far hz.pos).use fun S4 l4 => ?_
  simp only [ex, ev, M_bind, M_map, M_some, M_ite, t_eq, a_tup, al_eq, List.getElem?_cons_zero, List.getElem?_cons_succ, Option.bind_some, Option.map_some, q_add, q_sub, q_lt, q_le, q_gt, q_ge, q_eqI, q_neI, q_eqB, q_neB, q_isN, q_notN, isNon, q_ixT, q_ixR, atI_0, atI_1, atI_2, atI_3, atI_4, atI_5, atI_6, atI_7, q_slT, q_slR, q_revT, q_seqT, q_int, q_intB, q_max, q_min, q_abs, q_tupT, n_tup, n_int, n_bl, n_non, n_str, isi_ii, isi_ib, isi_tt, isi_itl, isi_btl, isi_ttl, isi_tl, isi_bb, u_bl, u_int, u_non, u_tup, g_name, g_tup, g_nil, g_cons, o_ret, o_nx, i_seq, List.set_cons_zero, List.set_cons_succ, decide_eq_true_eq, Bool.not_eq_true', decide_eq_false_iff_not, evP, Bool.false_eq_true, if_true, if_false, ite_true, ite_false, reduceIte, Bool.not_true, Bool.not_false, Option.some.injEq, q_pow10, Int.reduceToNat, Int.reducePow, Int.reduceAdd, Int.reduceSub, Int.reduceMul, Int.reduceNeg, Int.reduceLT, Int.reduceLE, Nat.reducePow, Nat.reduceLT, Nat.reduceLeDiff, Nat.reduceAdd, List.length_cons, List.length_nil, Int.neg_neg]
  exact ⟨trivial, l1.trans (l2.trans (l3.trans l4))⟩
theorem reading_at_ok {n : Nat} {S : Hd} {os : List Int} {sp off m : Int} {js : List (Int × Int)} (hz : Zone os sp) (hc : Chart os sp off js) (hl : js.length ≤ 900) : Pu (run T (n + 7) 16 [zoneD os sp, chartD off js, .int m] S) (.int (m + heldF off js m)) S := by
  refine Pu.run T_reading_at rfl ?_
  show M (ex (run T (n + 6)) b_reading_at [some (zoneD os sp), some (chartD off js), some (.int m)] S) _
  unfold b_reading_at
  simp only [ex, ev, M_bind, M_map, M_some, M_ite, t_eq, a_tup, al_eq, List.getElem?_cons_zero, List.getElem?_cons_succ, Option.bind_some, Option.map_some, q_add, q_sub, q_lt, q_le, q_gt, q_ge, q_eqI, q_neI, q_eqB, q_neB, q_isN, q_notN, isNon, q_ixT, q_ixR, atI_0, atI_1, atI_2, atI_3, atI_4, atI_5, atI_6, atI_7, q_slT, q_slR, q_revT, q_seqT, q_int, q_intB, q_max, q_min, q_abs, q_tupT, n_tup, n_int, n_bl, n_non, n_str, isi_ii, isi_ib, isi_tt, isi_itl, isi_btl, isi_ttl, isi_tl, isi_bb, u_bl, u_int, u_non, u_tup, g_name, g_tup, g_nil, g_cons, o_ret, o_nx, i_seq, List.set_cons_zero, List.set_cons_succ, decide_eq_true_eq, Bool.not_eq_true', decide_eq_false_iff_not, evP, Bool.false_eq_true, if_true, if_false, ite_true, ite_false, reduceIte, Bool.not_true, Bool.not_false, Option.some.injEq, q_pow10, Int.reduceToNat, Int.reducePow, Int.reduceAdd, Int.reduceSub, Int.reduceMul, Int.reduceNeg, Int.reduceLT, Int.reduceLE, Nat.reducePow, Nat.reduceLT, Nat.reduceLeDiff, Nat.reduceAdd, List.length_cons, List.length_nil, Int.neg_neg]
  refine (check_zone_ok hz).use fun S1 l1 => ?_
  simp only [ex, ev, M_bind, M_map, M_some, M_ite, t_eq, a_tup, al_eq, List.getElem?_cons_zero, List.getElem?_cons_succ, Option.bind_some, Option.map_some, q_add, q_sub, q_lt, q_le, q_gt, q_ge, q_eqI, q_neI, q_eqB, q_neB, q_isN, q_notN, isNon, q_ixT, q_ixR, atI_0, atI_1, atI_2, atI_3, atI_4, atI_5, atI_6, atI_7, q_slT, q_slR, q_revT, q_seqT, q_int, q_intB, q_max, q_min, q_abs, q_tupT, n_tup, n_int, n_bl, n_non, n_str, isi_ii, isi_ib, isi_tt, isi_itl, isi_btl, isi_ttl, isi_tl, isi_bb, u_bl, u_int, u_non, u_tup, g_name, g_tup, g_nil, g_cons, o_ret, o_nx, i_seq, List.set_cons_zero, List.set_cons_succ, decide_eq_true_eq, Bool.not_eq_true', decide_eq_false_iff_not, evP, Bool.false_eq_true, if_true, if_false, ite_true, ite_false, reduceIte, Bool.not_true, Bool.not_false, Option.some.injEq, q_pow10, Int.reduceToNat, Int.reducePow, Int.reduceAdd, Int.reduceSub, Int.reduceMul, Int.reduceNeg, Int.reduceLT, Int.reduceLE, Nat.reducePow, Nat.reduceLT, Nat.reduceLeDiff, Nat.reduceAdd, List.length_cons, List.length_nil, Int.neg_neg]
  refine (check_table_ok hc hl).use fun S2 l2 => ?_
  simp only [ex, ev, M_bind, M_map, M_some, M_ite, t_eq, a_tup, al_eq, List.getElem?_cons_zero, List.getElem?_cons_succ, Option.bind_some, Option.map_some, q_add, q_sub, q_lt, q_le, q_gt, q_ge, q_eqI, q_neI, q_eqB, q_neB, q_isN, q_notN, isNon, q_ixT, q_ixR, atI_0, atI_1, atI_2, atI_3, atI_4, atI_5, atI_6, atI_7, q_slT, q_slR, q_revT, q_seqT, q_int, q_intB, q_max, q_min, q_abs, q_tupT, n_tup, n_int, n_bl, n_non, n_str, isi_ii, isi_ib, isi_tt, isi_itl, isi_btl, isi_ttl, isi_tl, isi_bb, u_bl, u_int, u_non, u_tup, g_name, g_tup, g_nil, g_cons, o_ret, o_nx, i_seq, List.set_cons_zero, List.set_cons_succ, decide_eq_true_eq, Bool.not_eq_true', decide_eq_false_iff_not, evP, Bool.false_eq_true, if_true, if_false, ite_true, ite_false, reduceIte, Bool.not_true, Bool.not_false, Option.some.injEq, q_pow10, Int.reduceToNat, Int.reducePow, Int.reduceAdd, Int.reduceSub, Int.reduceMul, Int.reduceNeg, Int.reduceLT, Int.reduceLE, Nat.reducePow, Nat.reduceLT, Nat.reduceLeDiff, Nat.reduceAdd, List.length_cons, List.length_nil, Int.neg_neg]
  refine check_number_ok.use fun S3 l3 => ?_
  simp only [ex, ev, M_bind, M_map, M_some, M_ite, t_eq, a_tup, al_eq, List.getElem?_cons_zero, List.getElem?_cons_succ, Option.bind_some, Option.map_some, q_add, q_sub, q_lt, q_le, q_gt, q_ge, q_eqI, q_neI, q_eqB, q_neB, q_isN, q_notN, isNon, q_ixT, q_ixR, atI_0, atI_1, atI_2, atI_3, atI_4, atI_5, atI_6, atI_7, q_slT, q_slR, q_revT, q_seqT, q_int, q_intB, q_max, q_min, q_abs, q_tupT, n_tup, n_int, n_bl, n_non, n_str, isi_ii, isi_ib, isi_tt, isi_itl, isi_btl, isi_ttl, isi_tl, isi_bb, u_bl, u_int, u_non, u_tup, g_name, g_tup, g_nil, g_cons, o_ret, o_nx, i_seq, List.set_cons_zero, List.set_cons_succ, decide_eq_true_eq, Bool.not_eq_true', decide_eq_false_iff_not, evP, Bool.false_eq_true, if_true, if_false, ite_true, ite_false, reduceIte, Bool.not_true, Bool.not_false, Option.some.injEq, q_pow10, Int.reduceToNat, Int.reducePow, Int.reduceAdd, Int.reduceSub, Int.reduceMul, Int.reduceNeg, Int.reduceLT, Int.reduceLE, Nat.reducePow, Nat.reduceLT, Nat.reduceLeDiff, Nat.reduceAdd, List.length_cons, List.length_nil, Int.neg_neg]
  refine (held_offset_ok hc.far hz.pos).use fun S4 l4 => ?_
  simp only [ex, ev, M_bind, M_map, M_some, M_ite, t_eq, a_tup, al_eq, List.getElem?_cons_zero, List.getElem?_cons_succ, Option.bind_some, Option.map_some, q_add, q_sub, q_lt, q_le, q_gt, q_ge, q_eqI, q_neI, q_eqB, q_neB, q_isN, q_notN, isNon, q_ixT, q_ixR, atI_0, atI_1, atI_2, atI_3, atI_4, atI_5, atI_6, atI_7, q_slT, q_slR, q_revT, q_seqT, q_int, q_intB, q_max, q_min, q_abs, q_tupT, n_tup, n_int, n_bl, n_non, n_str, isi_ii, isi_ib, isi_tt, isi_itl, isi_btl, isi_ttl, isi_tl, isi_bb, u_bl, u_int, u_non, u_tup, g_name, g_tup, g_nil, g_cons, o_ret, o_nx, i_seq, List.set_cons_zero, List.set_cons_succ, decide_eq_true_eq, Bool.not_eq_true', decide_eq_false_iff_not, evP, Bool.false_eq_true, if_true, if_false, ite_true, ite_false, reduceIte, Bool.not_true, Bool.not_false, Option.some.injEq, q_pow10, Int.reduceToNat, Int.reducePow, Int.reduceAdd, Int.reduceSub, Int.reduceMul, Int.reduceNeg, Int.reduceLT, Int.reduceLE, Nat.reducePow, Nat.reduceLT, Nat.reduceLeDiff, Nat.reduceAdd, List.length_cons, List.length_nil, Int.neg_neg]
  exact ⟨trivial, l1.trans (l2.trans (l3.trans l4))⟩
theorem same_int {n : Nat} {S : Hd} {a b : Int} : Pu (run T (n + 2) 25 [.int a, .int b] S) (.bl (decide (a = b))) S := by
  refine Pu.run T_same rfl ?_
  show M (ex (run T (n + 1)) b_same [some (.int a), some (.int b), none] S) _
  unfold b_same
  simp only [ex, ev, M_bind, M_map, M_some, M_ite, t_eq, a_tup, al_eq, List.getElem?_cons_zero, List.getElem?_cons_succ, Option.bind_some, Option.map_some, q_add, q_sub, q_lt, q_le, q_gt, q_ge, q_eqI, q_neI, q_eqB, q_neB, q_isN, q_notN, isNon, q_ixT, q_ixR, atI_0, atI_1, atI_2, atI_3, atI_4, atI_5, atI_6, atI_7, q_slT, q_slR, q_revT, q_seqT, q_int, q_intB, q_max, q_min, q_abs, q_tupT, n_tup, n_int, n_bl, n_non, n_str, isi_ii, isi_ib, isi_tt, isi_itl, isi_btl, isi_ttl, isi_tl, isi_bb, u_bl, u_int, u_non, u_tup, g_name, g_tup, g_nil, g_cons, o_ret, o_nx, i_seq, List.set_cons_zero, List.set_cons_succ, decide_eq_true_eq, Bool.not_eq_true', decide_eq_false_iff_not, evP, Bool.false_eq_true, if_true, if_false, ite_true, ite_false, reduceIte, Bool.not_true, Bool.not_false, Option.some.injEq, q_pow10, Int.reduceToNat, Int.reducePow, Int.reduceAdd, Int.reduceSub, Int.reduceMul, Int.reduceNeg, Int.reduceLT, Int.reduceLE, Nat.reducePow, Nat.reduceLT, Nat.reduceLeDiff, Nat.reduceAdd, List.length_cons, List.length_nil, Int.neg_neg, show (2 : Nat) ≤ most by decide]
  refine whole_ok.use fun S1 l1 => ?_
  simp only [ex, ev, M_bind, M_map, M_some, M_ite, t_eq, a_tup, al_eq, List.getElem?_cons_zero, List.getElem?_cons_succ, Option.bind_some, Option.map_some, q_add, q_sub, q_lt, q_le, q_gt, q_ge, q_eqI, q_neI, q_eqB, q_neB, q_isN, q_notN, isNon, q_ixT, q_ixR, atI_0, atI_1, atI_2, atI_3, atI_4, atI_5, atI_6, atI_7, q_slT, q_slR, q_revT, q_seqT, q_int, q_intB, q_max, q_min, q_abs, q_tupT, n_tup, n_int, n_bl, n_non, n_str, isi_ii, isi_ib, isi_tt, isi_itl, isi_btl, isi_ttl, isi_tl, isi_bb, u_bl, u_int, u_non, u_tup, g_name, g_tup, g_nil, g_cons, o_ret, o_nx, i_seq, List.set_cons_zero, List.set_cons_succ, decide_eq_true_eq, Bool.not_eq_true', decide_eq_false_iff_not, evP, Bool.false_eq_true, if_true, if_false, ite_true, ite_false, reduceIte, Bool.not_true, Bool.not_false, Option.some.injEq, q_pow10, Int.reduceToNat, Int.reducePow, Int.reduceAdd, Int.reduceSub, Int.reduceMul, Int.reduceNeg, Int.reduceLT, Int.reduceLE, Nat.reducePow, Nat.reduceLT, Nat.reduceLeDiff, Nat.reduceAdd, List.length_cons, List.length_nil, Int.neg_neg]
  exact ⟨trivial, l1⟩
theorem near_ok {n p : Nat} {S : Hd} {os : List Int} {sp off : Int} {js : List (Int × Int)} (hS : Pot p S) (hz : Zone os sp) (hl : js.length ≤ 900) :
    M (run T (n + 3) 23 [.ref p, zoneD os sp, chartD off js] S) fun r => ∃ z S', r = (.int z, S') ∧ Pot p S' ∧ Le p S S' := by
  have o1 := hz.len1
  have o3 := hz.len3
  refine run_M T_near rfl ?_
  show M (ex (run T (n + 2)) b_near [some (.ref p), some (zoneD os sp), some (chartD off js), none, none, none, none] S) _
  unfold b_near chartD
  refine seq_M (fun env S1 => env = [some (.ref p), some (zoneD os sp), some (.tup [.int off, .tup (js.map jumpD)]), some (.tup (js.map jumpD)), none, none, none] ∧ S = S1) ?_ ?_
  · simp only [ex, ev, M_bind, M_map, M_some, M_ite, t_eq, a_tup, al_eq, List.getElem?_cons_zero, List.getElem?_cons_succ, Option.bind_some, Option.map_some, q_add, q_sub, q_lt, q_le, q_gt, q_ge, q_eqI, q_neI, q_eqB, q_neB, q_isN, q_notN, isNon, q_ixT, q_ixR, atI_0, atI_1, atI_2, atI_3, atI_4, atI_5, atI_6, atI_7, q_slT, q_slR, q_revT, q_seqT, q_int, q_intB, q_max, q_min, q_abs, q_tupT, n_tup, n_int, n_bl, n_non, n_str, isi_ii, isi_ib, isi_tt, isi_itl, isi_btl, isi_ttl, isi_tl, isi_bb, u_bl, u_int, u_non, u_tup, g_name, g_tup, g_nil, g_cons, o_ret, o_nx, i_seq, List.set_cons_zero, List.set_cons_succ, decide_eq_true_eq, Bool.not_eq_true', decide_eq_false_iff_not, evP, Bool.false_eq_true, if_true, if_false, ite_true, ite_false, reduceIte, Bool.not_true, Bool.not_false, Option.some.injEq, q_pow10, Int.reduceToNat, Int.reducePow, Int.reduceAdd, Int.reduceSub, Int.reduceMul, Int.reduceNeg, Int.reduceLT, Int.reduceLE, Nat.reducePow, Nat.reduceLT, Nat.reduceLeDiff, Nat.reduceAdd, List.length_cons, List.length_nil, Int.neg_neg]
    exact ⟨trivial, trivial, trivial⟩
  rintro _ _ ⟨rfl, rfl⟩
  refine seq_Mx (ite_M ?_)
  refine M.imp (P := fun r => ∃ b S1, r = (b, S1) ∧ Pot p S1 ∧ Le p S S1 ∧ (b = false → js ≠ [])) ?_ ?_
  · simp only [ex, ev, M_bind, M_map, M_some, M_ite, t_eq, a_tup, al_eq, List.getElem?_cons_zero, List.getElem?_cons_succ, Option.bind_some, Option.map_some, q_add, q_sub, q_lt, q_le, q_gt, q_ge, q_eqI, q_neI, q_eqB, q_neB, q_isN, q_notN, isNon, q_ixT, q_ixR, atI_0, atI_1, atI_2, atI_3, atI_4, atI_5, atI_6, atI_7, q_slT, q_slR, q_revT, q_seqT, q_int, q_intB, q_max, q_min, q_abs, q_tupT, n_tup, n_int, n_bl, n_non, n_str, isi_ii, isi_ib, isi_tt, isi_itl, isi_btl, isi_ttl, isi_tl, isi_bb, u_bl, u_int, u_non, u_tup, g_name, g_tup, g_nil, g_cons, o_ret, o_nx, i_seq, List.set_cons_zero, List.set_cons_succ, decide_eq_true_eq, Bool.not_eq_true', decide_eq_false_iff_not, evP, Bool.false_eq_true, if_true, if_false, ite_true, ite_false, reduceIte, Bool.not_true, Bool.not_false, Option.some.injEq, q_pow10, Int.reduceToNat, Int.reducePow, Int.reduceAdd, Int.reduceSub, Int.reduceMul, Int.reduceNeg, Int.reduceLT, Int.reduceLE, Nat.reducePow, Nat.reduceLT, Nat.reduceLeDiff, Nat.reduceAdd, List.length_cons, List.length_nil, Int.neg_neg, q_len q_seqT, List.length_map]
    by_cases h : (js.length : Int) = 0
    · simp only [h, decide_true, ex, ev, M_bind, M_map, M_some, M_ite, t_eq, a_tup, al_eq, List.getElem?_cons_zero, List.getElem?_cons_succ, Option.bind_some, Option.map_some, q_add, q_sub, q_lt, q_le, q_gt, q_ge, q_eqI, q_neI, q_eqB, q_neB, q_isN, q_notN, isNon, q_ixT, q_ixR, atI_0, atI_1, atI_2, atI_3, atI_4, atI_5, atI_6, atI_7, q_slT, q_slR, q_revT, q_seqT, q_int, q_intB, q_max, q_min, q_abs, q_tupT, n_tup, n_int, n_bl, n_non, n_str, isi_ii, isi_ib, isi_tt, isi_itl, isi_btl, isi_ttl, isi_tl, isi_bb, u_bl, u_int, u_non, u_tup, g_name, g_tup, g_nil, g_cons, o_ret, o_nx, i_seq, List.set_cons_zero, List.set_cons_succ, decide_eq_true_eq, Bool.not_eq_true', decide_eq_false_iff_not, evP, Bool.false_eq_true, if_true, if_false, ite_true, ite_false, reduceIte, Bool.not_true, Bool.not_false, Option.some.injEq, q_pow10, Int.reduceToNat, Int.reducePow, Int.reduceAdd, Int.reduceSub, Int.reduceMul, Int.reduceNeg, Int.reduceLT, Int.reduceLE, Nat.reducePow, Nat.reduceLT, Nat.reduceLeDiff, Nat.reduceAdd, List.length_cons, List.length_nil, Int.neg_neg]
      exact ⟨true, _, rfl, hS, Le.refl _ _, by simp⟩
    · simp only [h, decide_false, ex, ev, M_bind, M_map, M_some, M_ite, t_eq, a_tup, al_eq, List.getElem?_cons_zero, List.getElem?_cons_succ, Option.bind_some, Option.map_some, q_add, q_sub, q_lt, q_le, q_gt, q_ge, q_eqI, q_neI, q_eqB, q_neB, q_isN, q_notN, isNon, q_ixT, q_ixR, atI_0, atI_1, atI_2, atI_3, atI_4, atI_5, atI_6, atI_7, q_slT, q_slR, q_revT, q_seqT, q_int, q_intB, q_max, q_min, q_abs, q_tupT, n_tup, n_int, n_bl, n_non, n_str, isi_ii, isi_ib, isi_tt, isi_itl, isi_btl, isi_ttl, isi_tl, isi_bb, u_bl, u_int, u_non, u_tup, g_name, g_tup, g_nil, g_cons, o_ret, o_nx, i_seq, List.set_cons_zero, List.set_cons_succ, decide_eq_true_eq, Bool.not_eq_true', decide_eq_false_iff_not, evP, Bool.false_eq_true, if_true, if_false, ite_true, ite_false, reduceIte, Bool.not_true, Bool.not_false, Option.some.injEq, q_pow10, Int.reduceToNat, Int.reducePow, Int.reduceAdd, Int.reduceSub, Int.reduceMul, Int.reduceNeg, Int.reduceLT, Int.reduceLE, Nat.reducePow, Nat.reduceLT, Nat.reduceLeDiff, Nat.reduceAdd, List.length_cons, List.length_nil, Int.neg_neg]
      refine (draw_ok hS (by decide) (by decide)).imp ?_
      rintro _ ⟨z, S1, rfl, z0, z1, p1, l1⟩
      simp only [ex, ev, M_bind, M_map, M_some, M_ite, t_eq, a_tup, al_eq, List.getElem?_cons_zero, List.getElem?_cons_succ, Option.bind_some, Option.map_some, q_add, q_sub, q_lt, q_le, q_gt, q_ge, q_eqI, q_neI, q_eqB, q_neB, q_isN, q_notN, isNon, q_ixT, q_ixR, atI_0, atI_1, atI_2, atI_3, atI_4, atI_5, atI_6, atI_7, q_slT, q_slR, q_revT, q_seqT, q_int, q_intB, q_max, q_min, q_abs, q_tupT, n_tup, n_int, n_bl, n_non, n_str, isi_ii, isi_ib, isi_tt, isi_itl, isi_btl, isi_ttl, isi_tl, isi_bb, u_bl, u_int, u_non, u_tup, g_name, g_tup, g_nil, g_cons, o_ret, o_nx, i_seq, List.set_cons_zero, List.set_cons_succ, decide_eq_true_eq, Bool.not_eq_true', decide_eq_false_iff_not, evP, Bool.false_eq_true, if_true, if_false, ite_true, ite_false, reduceIte, Bool.not_true, Bool.not_false, Option.some.injEq, q_pow10, Int.reduceToNat, Int.reducePow, Int.reduceAdd, Int.reduceSub, Int.reduceMul, Int.reduceNeg, Int.reduceLT, Int.reduceLE, Nat.reducePow, Nat.reduceLT, Nat.reduceLeDiff, Nat.reduceAdd, List.length_cons, List.length_nil, Int.neg_neg]
      exact ⟨_, _, rfl, p1, l1, fun _ e => h (by rw [e]; rfl)⟩
  rintro _ ⟨b, S1, rfl, p1, l1, hb⟩
  cases b with
  | true =>
    simp only [ex, ev, M_bind, M_map, M_some, M_ite, t_eq, a_tup, al_eq, List.getElem?_cons_zero, List.getElem?_cons_succ, Option.bind_some, Option.map_some, q_add, q_sub, q_lt, q_le, q_gt, q_ge, q_eqI, q_neI, q_eqB, q_neB, q_isN, q_notN, isNon, q_ixT, q_ixR, atI_0, atI_1, atI_2, atI_3, atI_4, atI_5, atI_6, atI_7, q_slT, q_slR, q_revT, q_seqT, q_int, q_intB, q_max, q_min, q_abs, q_tupT, n_tup, n_int, n_bl, n_non, n_str, isi_ii, isi_ib, isi_tt, isi_itl, isi_btl, isi_ttl, isi_tl, isi_bb, u_bl, u_int, u_non, u_tup, g_name, g_tup, g_nil, g_cons, o_ret, o_nx, i_seq, List.set_cons_zero, List.set_cons_succ, decide_eq_true_eq, Bool.not_eq_true', decide_eq_false_iff_not, evP, Bool.false_eq_true, if_true, if_false, ite_true, ite_false, reduceIte, Bool.not_true, Bool.not_false, Option.some.injEq, q_pow10, Int.reduceToNat, Int.reducePow, Int.reduceAdd, Int.reduceSub, Int.reduceMul, Int.reduceNeg, Int.reduceLT, Int.reduceLE, Nat.reducePow, Nat.reduceLT, Nat.reduceLeDiff, Nat.reduceAdd, List.length_cons, List.length_nil, Int.neg_neg]
    refine (any_hour_ok p1).imp ?_
    rintro _ ⟨z, S2, rfl, p2, l2⟩
    simp only [ex, ev, M_bind, M_map, M_some, M_ite, t_eq, a_tup, al_eq, List.getElem?_cons_zero, List.getElem?_cons_succ, Option.bind_some, Option.map_some, q_add, q_sub, q_lt, q_le, q_gt, q_ge, q_eqI, q_neI, q_eqB, q_neB, q_isN, q_notN, isNon, q_ixT, q_ixR, atI_0, atI_1, atI_2, atI_3, atI_4, atI_5, atI_6, atI_7, q_slT, q_slR, q_revT, q_seqT, q_int, q_intB, q_max, q_min, q_abs, q_tupT, n_tup, n_int, n_bl, n_non, n_str, isi_ii, isi_ib, isi_tt, isi_itl, isi_btl, isi_ttl, isi_tl, isi_bb, u_bl, u_int, u_non, u_tup, g_name, g_tup, g_nil, g_cons, o_ret, o_nx, i_seq, List.set_cons_zero, List.set_cons_succ, decide_eq_true_eq, Bool.not_eq_true', decide_eq_false_iff_not, evP, Bool.false_eq_true, if_true, if_false, ite_true, ite_false, reduceIte, Bool.not_true, Bool.not_false, Option.some.injEq, q_pow10, Int.reduceToNat, Int.reducePow, Int.reduceAdd, Int.reduceSub, Int.reduceMul, Int.reduceNeg, Int.reduceLT, Int.reduceLE, Nat.reducePow, Nat.reduceLT, Nat.reduceLeDiff, Nat.reduceAdd, List.length_cons, List.length_nil, Int.neg_neg]
    exact ⟨_, _, rfl, p2, l1.trans l2⟩
  | false =>
    have hj := hb rfl
    have hjl : 0 < js.length := List.length_pos_iff.mpr hj
    simp only [Bool.false_eq_true, if_false]
    rw [show ex (run T (n + 2)) .skip [some (D.ref p), some (zoneD os sp), some (.tup [.int off, .tup (js.map jumpD)]), some (.tup (js.map jumpD)), none, none, none] S1 = some (.nx, [some (D.ref p), some (zoneD os sp), some (.tup [.int off, .tup (js.map jumpD)]), some (.tup (js.map jumpD)), none, none, none], S1) from rfl]
    simp only [M_some]
    refine seq_M (fun env S2 => ∃ h : Int, env = [some (.ref p), some (zoneD os sp), some (.tup [.int off, .tup (js.map jumpD)]), some (.tup (js.map jumpD)), some (.int h), none, none] ∧ Pot p S2 ∧ Le p S S2) ?_ ?_
    · simp only [ex, ev, M_bind, M_map, M_some, M_ite, t_eq, a_tup, al_eq, List.getElem?_cons_zero, List.getElem?_cons_succ, Option.bind_some, Option.map_some, q_add, q_sub, q_lt, q_le, q_gt, q_ge, q_eqI, q_neI, q_eqB, q_neB, q_isN, q_notN, isNon, q_ixT, q_ixR, atI_0, atI_1, atI_2, atI_3, atI_4, atI_5, atI_6, atI_7, q_slT, q_slR, q_revT, q_seqT, q_int, q_intB, q_max, q_min, q_abs, q_tupT, n_tup, n_int, n_bl, n_non, n_str, isi_ii, isi_ib, isi_tt, isi_itl, isi_btl, isi_ttl, isi_tl, isi_bb, u_bl, u_int, u_non, u_tup, g_name, g_tup, g_nil, g_cons, o_ret, o_nx, i_seq, List.set_cons_zero, List.set_cons_succ, decide_eq_true_eq, Bool.not_eq_true', decide_eq_false_iff_not, evP, Bool.false_eq_true, if_true, if_false, ite_true, ite_false, reduceIte, Bool.not_true, Bool.not_false, Option.some.injEq, q_pow10, Int.reduceToNat, Int.reducePow, Int.reduceAdd, Int.reduceSub, Int.reduceMul, Int.reduceNeg, Int.reduceLT, Int.reduceLE, Nat.reducePow, Nat.reduceLT, Nat.reduceLeDiff, Nat.reduceAdd, List.length_cons, List.length_nil, Int.neg_neg, q_len q_seqT, List.length_map]
      refine (draw_ok p1 (by omega) (by omega)).imp ?_
      rintro _ ⟨z, S2, rfl, z0, z1, p2, l2⟩
      have hz' : z.toNat < js.length := by omega
      have e : atI (js.map jumpD) z = some (jumpD js[z.toNat]) := by
        rw [atI_lt z0 (by simpa using z1), List.getElem?_map, List.getElem?_eq_getElem hz']
        rfl
      unfold jumpD at e ⊢
      simp only [ex, ev, M_bind, M_map, M_some, M_ite, t_eq, a_tup, al_eq, List.getElem?_cons_zero, List.getElem?_cons_succ, Option.bind_some, Option.map_some, q_add, q_sub, q_lt, q_le, q_gt, q_ge, q_eqI, q_neI, q_eqB, q_neB, q_isN, q_notN, isNon, q_ixT, q_ixR, atI_0, atI_1, atI_2, atI_3, atI_4, atI_5, atI_6, atI_7, q_slT, q_slR, q_revT, q_seqT, q_int, q_intB, q_max, q_min, q_abs, q_tupT, n_tup, n_int, n_bl, n_non, n_str, isi_ii, isi_ib, isi_tt, isi_itl, isi_btl, isi_ttl, isi_tl, isi_bb, u_bl, u_int, u_non, u_tup, g_name, g_tup, g_nil, g_cons, o_ret, o_nx, i_seq, List.set_cons_zero, List.set_cons_succ, decide_eq_true_eq, Bool.not_eq_true', decide_eq_false_iff_not, evP, Bool.false_eq_true, if_true, if_false, ite_true, ite_false, reduceIte, Bool.not_true, Bool.not_false, Option.some.injEq, q_pow10, Int.reduceToNat, Int.reducePow, Int.reduceAdd, Int.reduceSub, Int.reduceMul, Int.reduceNeg, Int.reduceLT, Int.reduceLE, Nat.reducePow, Nat.reduceLT, Nat.reduceLeDiff, Nat.reduceAdd, List.length_cons, List.length_nil, Int.neg_neg, e]
      exact ⟨trivial, _, rfl, p2, l1.trans l2⟩
    rintro _ S2 ⟨h, rfl, p2, l2⟩
    obtain ⟨a, b, ha, hb, e0, e1, hab⟩ := ends o1 o3 hz.asc
    have la := hz.lo a ha
    have ub := hz.hi b hb
    have hab' := hab a ha
    refine seq_M (fun env S3 => env = [some (.ref p), some (zoneD os sp), some (.tup [.int off, .tup (js.map jumpD)]), some (.tup (js.map jumpD)), some (.int h), some (.int (b - a)), none] ∧ S2 = S3) ?_ ?_
    · unfold zoneD
      simp only [ex, ev, M_bind, M_map, M_some, M_ite, t_eq, a_tup, al_eq, List.getElem?_cons_zero, List.getElem?_cons_succ, Option.bind_some, Option.map_some, q_add, q_sub, q_lt, q_le, q_gt, q_ge, q_eqI, q_neI, q_eqB, q_neB, q_isN, q_notN, isNon, q_ixT, q_ixR, atI_0, atI_1, atI_2, atI_3, atI_4, atI_5, atI_6, atI_7, q_slT, q_slR, q_revT, q_seqT, q_int, q_intB, q_max, q_min, q_abs, q_tupT, n_tup, n_int, n_bl, n_non, n_str, isi_ii, isi_ib, isi_tt, isi_itl, isi_btl, isi_ttl, isi_tl, isi_bb, u_bl, u_int, u_non, u_tup, g_name, g_tup, g_nil, g_cons, o_ret, o_nx, i_seq, List.set_cons_zero, List.set_cons_succ, decide_eq_true_eq, Bool.not_eq_true', decide_eq_false_iff_not, evP, Bool.false_eq_true, if_true, if_false, ite_true, ite_false, reduceIte, Bool.not_true, Bool.not_false, Option.some.injEq, q_pow10, Int.reduceToNat, Int.reducePow, Int.reduceAdd, Int.reduceSub, Int.reduceMul, Int.reduceNeg, Int.reduceLT, Int.reduceLE, Nat.reducePow, Nat.reduceLT, Nat.reduceLeDiff, Nat.reduceAdd, List.length_cons, List.length_nil, Int.neg_neg, e0, e1]
      exact ⟨trivial, trivial, trivial⟩
    rintro _ _ ⟨rfl, rfl⟩
    refine seq_M (fun env S3 => ∃ w : Int, env = [some (.ref p), some (zoneD os sp), some (.tup [.int off, .tup (js.map jumpD)]), some (.tup (js.map jumpD)), some (.int h), some (.int (b - a)), some (.int w)] ∧ Pot p S3 ∧ Le p S S3) ?_ ?_
    · simp only [ex, ev, M_bind, M_map, M_some, M_ite, t_eq, a_tup, al_eq, List.getElem?_cons_zero, List.getElem?_cons_succ, Option.bind_some, Option.map_some, q_add, q_sub, q_lt, q_le, q_gt, q_ge, q_eqI, q_neI, q_eqB, q_neB, q_isN, q_notN, isNon, q_ixT, q_ixR, atI_0, atI_1, atI_2, atI_3, atI_4, atI_5, atI_6, atI_7, q_slT, q_slR, q_revT, q_seqT, q_int, q_intB, q_max, q_min, q_abs, q_tupT, n_tup, n_int, n_bl, n_non, n_str, isi_ii, isi_ib, isi_tt, isi_itl, isi_btl, isi_ttl, isi_tl, isi_bb, u_bl, u_int, u_non, u_tup, g_name, g_tup, g_nil, g_cons, o_ret, o_nx, i_seq, List.set_cons_zero, List.set_cons_succ, decide_eq_true_eq, Bool.not_eq_true', decide_eq_false_iff_not, evP, Bool.false_eq_true, if_true, if_false, ite_true, ite_false, reduceIte, Bool.not_true, Bool.not_false, Option.some.injEq, q_pow10, Int.reduceToNat, Int.reducePow, Int.reduceAdd, Int.reduceSub, Int.reduceMul, Int.reduceNeg, Int.reduceLT, Int.reduceLE, Nat.reducePow, Nat.reduceLT, Nat.reduceLeDiff, Nat.reduceAdd, List.length_cons, List.length_nil, Int.neg_neg, q_mul (i := 2) (j := b - a) (by decide) (by decide) (by omega) (by omega)]
      refine (draw_ok p2 (by omega) (by omega)).imp ?_
      rintro _ ⟨z, S3, rfl, z0, z1, p3, l3⟩
      simp only [ex, ev, M_bind, M_map, M_some, M_ite, t_eq, a_tup, al_eq, List.getElem?_cons_zero, List.getElem?_cons_succ, Option.bind_some, Option.map_some, q_add, q_sub, q_lt, q_le, q_gt, q_ge, q_eqI, q_neI, q_eqB, q_neB, q_isN, q_notN, isNon, q_ixT, q_ixR, atI_0, atI_1, atI_2, atI_3, atI_4, atI_5, atI_6, atI_7, q_slT, q_slR, q_revT, q_seqT, q_int, q_intB, q_max, q_min, q_abs, q_tupT, n_tup, n_int, n_bl, n_non, n_str, isi_ii, isi_ib, isi_tt, isi_itl, isi_btl, isi_ttl, isi_tl, isi_bb, u_bl, u_int, u_non, u_tup, g_name, g_tup, g_nil, g_cons, o_ret, o_nx, i_seq, List.set_cons_zero, List.set_cons_succ, decide_eq_true_eq, Bool.not_eq_true', decide_eq_false_iff_not, evP, Bool.false_eq_true, if_true, if_false, ite_true, ite_false, reduceIte, Bool.not_true, Bool.not_false, Option.some.injEq, q_pow10, Int.reduceToNat, Int.reducePow, Int.reduceAdd, Int.reduceSub, Int.reduceMul, Int.reduceNeg, Int.reduceLT, Int.reduceLE, Nat.reducePow, Nat.reduceLT, Nat.reduceLeDiff, Nat.reduceAdd, List.length_cons, List.length_nil, Int.neg_neg]
      exact ⟨trivial, _, rfl, p3, l2.trans l3⟩
    rintro _ S3 ⟨w, rfl, p3, l3⟩
    simp only [ex, ev, M_bind, M_map, M_some, M_ite, t_eq, a_tup, al_eq, List.getElem?_cons_zero, List.getElem?_cons_succ, Option.bind_some, Option.map_some, q_add, q_sub, q_lt, q_le, q_gt, q_ge, q_eqI, q_neI, q_eqB, q_neB, q_isN, q_notN, isNon, q_ixT, q_ixR, atI_0, atI_1, atI_2, atI_3, atI_4, atI_5, atI_6, atI_7, q_slT, q_slR, q_revT, q_seqT, q_int, q_intB, q_max, q_min, q_abs, q_tupT, n_tup, n_int, n_bl, n_non, n_str, isi_ii, isi_ib, isi_tt, isi_itl, isi_btl, isi_ttl, isi_tl, isi_bb, u_bl, u_int, u_non, u_tup, g_name, g_tup, g_nil, g_cons, o_ret, o_nx, i_seq, List.set_cons_zero, List.set_cons_succ, decide_eq_true_eq, Bool.not_eq_true', decide_eq_false_iff_not, evP, Bool.false_eq_true, if_true, if_false, ite_true, ite_false, reduceIte, Bool.not_true, Bool.not_false, Option.some.injEq, q_pow10, Int.reduceToNat, Int.reducePow, Int.reduceAdd, Int.reduceSub, Int.reduceMul, Int.reduceNeg, Int.reduceLT, Int.reduceLE, Nat.reducePow, Nat.reduceLT, Nat.reduceLeDiff, Nat.reduceAdd, List.length_cons, List.length_nil, Int.neg_neg, show (8 : Nat) ≤ most by decide]
    refine (draw_ok (p3.app _) (by decide) (by decide)).imp ?_
    rintro _ ⟨z, S4, rfl, z0, z1, p4, l4⟩
    obtain ⟨v, _, _, hv⟩ := atI_ints (ns := [0, -1, 1, b - a, -(b - a), b - a - 1, 1 - (b - a), w]) z0 z1
    simp only [List.map] at hv
    simp only [ex, ev, M_bind, M_map, M_some, M_ite, t_eq, a_tup, al_eq, List.getElem?_cons_zero, List.getElem?_cons_succ, Option.bind_some, Option.map_some, q_add, q_sub, q_lt, q_le, q_gt, q_ge, q_eqI, q_neI, q_eqB, q_neB, q_isN, q_notN, isNon, q_ixT, q_ixR, atI_0, atI_1, atI_2, atI_3, atI_4, atI_5, atI_6, atI_7, q_slT, q_slR, q_revT, q_seqT, q_int, q_intB, q_max, q_min, q_abs, q_tupT, n_tup, n_int, n_bl, n_non, n_str, isi_ii, isi_ib, isi_tt, isi_itl, isi_btl, isi_ttl, isi_tl, isi_bb, u_bl, u_int, u_non, u_tup, g_name, g_tup, g_nil, g_cons, o_ret, o_nx, i_seq, List.set_cons_zero, List.set_cons_succ, decide_eq_true_eq, Bool.not_eq_true', decide_eq_false_iff_not, evP, Bool.false_eq_true, if_true, if_false, ite_true, ite_false, reduceIte, Bool.not_true, Bool.not_false, Option.some.injEq, q_pow10, Int.reduceToNat, Int.reducePow, Int.reduceAdd, Int.reduceSub, Int.reduceMul, Int.reduceNeg, Int.reduceLT, Int.reduceLE, Nat.reducePow, Nat.reduceLT, Nat.reduceLeDiff, Nat.reduceAdd, List.length_cons, List.length_nil, Int.neg_neg, q_ixL (l4.at p3.ne get_new), hv]
    exact ⟨_, _, rfl, p4, (l3.trans (Le.app _ _ _)).trans l4⟩
end Lw

namespace Lw
open PySem L2 Ix
/-! ### the moments of a reading -/
theorem heldF_mem {os : List Int} {m : Int} : ∀ {js : List (Int × Int)} {off : Int}, off ∈ os → (∀ j ∈ js, j.2 ∈ os) → heldF off js m ∈ os
  | [], off, h, _ => h
  | j :: js, off, h, k => by
    show heldF (if j.1 ≤ m then j.2 else off) js m ∈ os
    refine heldF_mem ?_ fun i hi => k i (List.mem_cons_of_mem _ hi)
    split
    · exact k j List.mem_cons_self
    · exact h
/-- the offset ahead of the k-th jump -/
def shK (off : Int) (js : List (Int × Int)) (k : Nat) : Int := (off :: js.map (·.2)).getD k 0
theorem shK_0 {off : Int} {js : List (Int × Int)} : shK off js 0 = off := rfl
theorem shK_succ {off : Int} {js : List (Int × Int)} {k : Nat} {j : Int × Int} (h : js[k]? = some j) : shK off js (k + 1) = j.2 := by
  unfold shK
  rw [List.getD_cons_succ, List.getD_eq_getElem?_getD, List.getElem?_map, h]
  rfl
def inK (js : List (Int × Int)) (k : Nat) (m : Int) : Bool := (k == 0 || match js[k - 1]? with | some j => decide (j.1 ≤ m) | none => true) && (match js[k]? with | some j => decide (m < j.1) | none => true)
def hourK (off : Int) (js : List (Int × Int)) (r : Int) (k : Nat) : Option Int := if inK js k (r - shK off js k) then some (r - shK off js k) else none
def hoursF (off : Int) (js : List (Int × Int)) (r : Int) : List Int := (List.range (js.length + 1)).filterMap (hourK off js r)
theorem inK_held {off m sp : Int} {js : List (Int × Int)} (hf : Adj (fun x y => x + sp ≤ y) (js.map (·.1))) (h0 : 0 < sp) {k : Nat} (hk : k ≤ js.length) (h : inK js k m = true) : heldF off js m = shK off js k := by
  unfold inK at h
  rw [Bool.and_eq_true, Bool.or_eq_true] at h
  have e1 : heldF off js m = heldF off (js.take k) m := by
    cases hj : js[k]? with
    | none => rw [List.take_of_length_le (by simpa using hj)]
    | some j =>
      rw [hj] at h
      exact heldF_stop hf h0 hj (by simpa using h.2)
  rw [e1]
  cases k with
  | zero => rw [shK_0]; rfl
  | succ k =>
    have hk' : js[k]? = some js[k] := List.getElem?_eq_getElem (by omega)
    rw [heldF_succ hk', shK_succ hk']
    have := h.1
    simp only [Nat.add_sub_cancel, hk'] at this
    rcases this with q | q
    · simp at q
    · rw [if_pos (by simpa using q)]
theorem inK_ex {m : Int} {js : List (Int × Int)} : ∃ k, k ≤ js.length ∧ inK js k m = true := by
  have key : ∀ n, n ≤ js.length → (∃ k, k ≤ js.length ∧ inK js k m = true) ∨ (n = 0 ∨ match js[n - 1]? with | some j => j.1 ≤ m | none => True) := by
    intro n
    induction n with
    | zero => intro _; exact .inr (.inl rfl)
    | succ n ih =>
      intro hn
      rcases ih (by omega) with q | q
      · exact .inl q
      · have hj : js[n]? = some js[n] := List.getElem?_eq_getElem (by omega)
        by_cases c : m < (js[n]).1
        · refine .inl ⟨n, by omega, ?_⟩
          unfold inK
          rw [Bool.and_eq_true, Bool.or_eq_true, hj]
          refine ⟨?_, by simpa using c⟩
          rcases q with q | q
          · exact .inl (by simpa using q)
          · right
            cases hx : js[n - 1]? with
            | none => rfl
            | some j => rw [hx] at q; simpa using q
        · right
          right
          simp only [Nat.add_sub_cancel, hj]
          omega
  rcases key js.length (Nat.le_refl _) with q | q
  · exact q
  · refine ⟨js.length, Nat.le_refl _, ?_⟩
    unfold inK
    rw [Bool.and_eq_true, Bool.or_eq_true, List.getElem?_eq_none (Nat.le_refl _)]
    refine ⟨?_, rfl⟩
    rcases q with q | q
    · exact .inl (by simpa using q)
    · right
      cases hx : js[js.length - 1]? with
      | none => rfl
      | some j => rw [hx] at q; simpa using q
theorem hours_mem {off r sp m : Int} {js : List (Int × Int)} (hf : Adj (fun x y => x + sp ≤ y) (js.map (·.1))) (h0 : 0 < sp) : m ∈ hoursF off js r ↔ m + heldF off js m = r := by
  unfold hoursF
  rw [List.mem_filterMap]
  constructor
  · rintro ⟨k, hk, e⟩
    rw [List.mem_range] at hk
    unfold hourK at e
    split at e
    · rename_i hi
      cases e
      rw [inK_held (off := off) hf h0 (by omega) hi]
      omega
    · cases e
  · intro e
    obtain ⟨k, hk, hi⟩ := inK_ex (js := js) (m := m)
    have := inK_held (off := off) hf h0 hk hi
    have em : r - shK off js k = m := by omega
    refine ⟨k, by rw [List.mem_range]; omega, ?_⟩
    unfold hourK
    rw [em, if_pos hi]
theorem hours_asc {off r sp : Int} {js : List (Int × Int)} (hf : Adj (fun x y => x + sp ≤ y) (js.map (·.1))) (h0 : 0 < sp) : (hoursF off js r).Pairwise (· < ·) := by
  unfold hoursF
  rw [List.pairwise_filterMap]
  rw [List.pairwise_iff_getElem]
  intro i j hi hj hij b hb b' hb'
  simp only [List.length_range] at hi hj
  simp only [List.getElem_range] at hb hb'
  unfold hourK at hb hb'
  split at hb
  · rename_i h1
    split at hb'
    · rename_i h2
      cases hb
      cases hb'
      unfold inK at h1 h2
      rw [Bool.and_eq_true, Bool.or_eq_true] at h1 h2
      have e1 : js[i]? = some js[i] := List.getElem?_eq_getElem (by omega)
      have e2 : js[j - 1]? = some js[j - 1] := List.getElem?_eq_getElem (by omega)
      have a := h1.2
      have b := h2.1
      rw [e1] at a
      rw [e2] at b
      have a : r - shK off js i < (js[i]).1 := by simpa using a
      have b : (js[j - 1]).1 ≤ r - shK off js j := by
        rcases b with q | q
        · have : j = 0 := by simpa using q
          omega
        · simpa using q
      have := far_asc hf h0 (j - 1 - i) i (js[i]).1 (js[j - 1]).1 (by rw [List.getElem?_map, e1]; rfl) (by rw [show i + (j - 1 - i) = j - 1 by omega, List.getElem?_map, e2]; rfl)
      have : 0 ≤ ((j - 1 - i : Nat) : Int) * sp := Int.mul_nonneg (by omega) (by omega)
      omega
    · cases hb'
  · cases hb
/-- the looks that decide what becomes of a reading -/
def looksF (os : List Int) (off : Int) (js : List (Int × Int)) (r : Int) : List (Int × Int) := (os.reverse.map fun o => r - o).map fun m => (m, heldF off js m)
def matchF (r : Int) (ls : List (Int × Int)) : List Int := (ls.filter fun l => decide (l.1 + l.2 = r)).map (·.1)
theorem match_hours {os : List Int} {off r sp : Int} {js : List (Int × Int)} (hz : Zone os sp) (hc : Chart os sp off js) : matchF r (looksF os off js r) = hoursF off js r := by
  have hA : ∀ m, m ∈ matchF r (looksF os off js r) ↔ m + heldF off js m = r := by
    intro m
    unfold matchF looksF
    constructor
    · intro h
      obtain ⟨x, hx, rfl⟩ := List.mem_map.mp h
      obtain ⟨hx, h2⟩ := List.mem_filter.mp hx
      obtain ⟨y, hy, rfl⟩ := List.mem_map.mp hx
      simpa using h2
    · intro e
      refine List.mem_map.mpr ⟨(m, heldF off js m), List.mem_filter.mpr ⟨List.mem_map.mpr ⟨m, List.mem_map.mpr ⟨heldF off js m, ?_, by omega⟩, rfl⟩, by simpa using e⟩, rfl⟩
      exact List.mem_reverse.mpr (heldF_mem hc.first hc.mem)
  refine asc_ext ?_ (hours_asc hc.far hz.pos) fun x => (hA x).trans (hours_mem hc.far hz.pos).symm
  unfold matchF looksF
  rw [List.pairwise_map]
  refine List.Pairwise.filter _ ?_
  rw [List.pairwise_map, List.pairwise_map, List.pairwise_reverse]
  exact hz.asc.imp fun h => by omega
/-! ### the functions that tell them -/
theorem moments_to_look_at_ok {n : Nat} {S : Hd} {os : List Int} {sp r : Int} (hz : Zone os sp) {Q : D × Hd → Prop} (hq : ∀ (j : Nat) (S2 : Hd), S.length ≤ j → S2[j]? = some (.lst ((os.reverse.map fun o => r - o).map .int)) → Lq S S2 → Q (.ref j, S2)) : M (run T (n + 1) 28 [zoneD os sp, .int r] S) Q := by
  have o3 := hz.len3
  refine run_M T_moments_to_look_at rfl ?_
  show M (ex (run T n) b_moments_to_look_at [some (zoneD os sp), some (.int r), none] S) _
  unfold b_moments_to_look_at zoneD
  simp only [ex, M_map]
  refine M_lcx os.reverse D.int (fun _ => true) (fun o => .int (r - o)) (by decide) ?_ (by have := most_big; simp; omega) (fun x S2 _ _ => ?_) fun j S2 hj hg l => ?_
  · simp only [ex, ev, M_bind, M_map, M_some, M_ite, t_eq, a_tup, al_eq, List.getElem?_cons_zero, List.getElem?_cons_succ, Option.bind_some, Option.map_some, q_add, q_sub, q_lt, q_le, q_gt, q_ge, q_eqI, q_neI, q_eqB, q_neB, q_isN, q_notN, isNon, q_ixT, q_ixR, atI_0, atI_1, atI_2, atI_3, atI_4, atI_5, atI_6, atI_7, q_slT, q_slR, q_revT, q_seqT, q_int, q_intB, q_max, q_min, q_abs, q_tupT, n_tup, n_int, n_bl, n_non, n_str, isi_ii, isi_ib, isi_tt, isi_itl, isi_btl, isi_ttl, isi_tl, isi_bb, u_bl, u_int, u_non, u_tup, g_name, g_tup, g_nil, g_cons, o_ret, o_nx, i_seq, List.set_cons_zero, List.set_cons_succ, decide_eq_true_eq, Bool.not_eq_true', decide_eq_false_iff_not, evP, Bool.false_eq_true, if_true, if_false, ite_true, ite_false, reduceIte, Bool.not_true, Bool.not_false, Option.some.injEq, q_pow10, Int.reduceToNat, Int.reducePow, Int.reduceAdd, Int.reduceSub, Int.reduceMul, Int.reduceNeg, Int.reduceLT, Int.reduceLE, Nat.reducePow, Nat.reduceLT, Nat.reduceLeDiff, Nat.reduceAdd, List.length_cons, List.length_nil, Int.neg_neg, ← List.map_reverse]
    exact ⟨_, _, rfl, Lq.refl _, fun _ _ => rfl⟩
  · refine ⟨_, rfl, ?_⟩
    simp only [wipeD, ex, ev, M_bind, M_map, M_some, M_ite, t_eq, a_tup, al_eq, List.getElem?_cons_zero, List.getElem?_cons_succ, Option.bind_some, Option.map_some, q_add, q_sub, q_lt, q_le, q_gt, q_ge, q_eqI, q_neI, q_eqB, q_neB, q_isN, q_notN, isNon, q_ixT, q_ixR, atI_0, atI_1, atI_2, atI_3, atI_4, atI_5, atI_6, atI_7, q_slT, q_slR, q_revT, q_seqT, q_int, q_intB, q_max, q_min, q_abs, q_tupT, n_tup, n_int, n_bl, n_non, n_str, isi_ii, isi_ib, isi_tt, isi_itl, isi_btl, isi_ttl, isi_tl, isi_bb, u_bl, u_int, u_non, u_tup, g_name, g_tup, g_nil, g_cons, o_ret, o_nx, i_seq, List.set_cons_zero, List.set_cons_succ, decide_eq_true_eq, Bool.not_eq_true', decide_eq_false_iff_not, evP, Bool.false_eq_true, if_true, if_false, ite_true, ite_false, reduceIte, Bool.not_true, Bool.not_false, Option.some.injEq, q_pow10, Int.reduceToNat, Int.reducePow, Int.reduceAdd, Int.reduceSub, Int.reduceMul, Int.reduceNeg, Int.reduceLT, Int.reduceLE, Nat.reducePow, Nat.reduceLT, Nat.reduceLeDiff, Nat.reduceAdd, List.length_cons, List.length_nil, Int.neg_neg]
    exact ⟨trivial, Lq.refl _, fun _ => ⟨trivial, Lq.refl _⟩⟩
  · simp only [ex, ev, M_bind, M_map, M_some, M_ite, t_eq, a_tup, al_eq, List.getElem?_cons_zero, List.getElem?_cons_succ, Option.bind_some, Option.map_some, q_add, q_sub, q_lt, q_le, q_gt, q_ge, q_eqI, q_neI, q_eqB, q_neB, q_isN, q_notN, isNon, q_ixT, q_ixR, atI_0, atI_1, atI_2, atI_3, atI_4, atI_5, atI_6, atI_7, q_slT, q_slR, q_revT, q_seqT, q_int, q_intB, q_max, q_min, q_abs, q_tupT, n_tup, n_int, n_bl, n_non, n_str, isi_ii, isi_ib, isi_tt, isi_itl, isi_btl, isi_ttl, isi_tl, isi_bb, u_bl, u_int, u_non, u_tup, g_name, g_tup, g_nil, g_cons, o_ret, o_nx, i_seq, List.set_cons_zero, List.set_cons_succ, decide_eq_true_eq, Bool.not_eq_true', decide_eq_false_iff_not, evP, Bool.false_eq_true, if_true, if_false, ite_true, ite_false, reduceIte, Bool.not_true, Bool.not_false, Option.some.injEq, q_pow10, Int.reduceToNat, Int.reducePow, Int.reduceAdd, Int.reduceSub, Int.reduceMul, Int.reduceNeg, Int.reduceLT, Int.reduceLE, Nat.reducePow, Nat.reduceLT, Nat.reduceLeDiff, Nat.reduceAdd, List.length_cons, List.length_nil, Int.neg_neg]
    refine hq j S2 hj ?_ l
    rw [hg, List.map_map, filt_true]
    rfl
theorem looks_to_find_ok {n : Nat} {S : Hd} {os : List Int} {sp off r : Int} {js : List (Int × Int)} (hz : Zone os sp) (hc : Chart os sp off js) {Q : D × Hd → Prop} (hq : ∀ (j : Nat) (S2 : Hd), S.length ≤ j → S2[j]? = some (.lst ((looksF os off js r).map jumpD)) → Lq S S2 → Q (.ref j, S2)) : M (run T (n + 2) 29 [zoneD os sp, chartD off js, .int r] S) Q := by
  have o3 := hz.len3
  refine run_M T_looks_to_find rfl ?_
  show M (ex (run T (n + 1)) b_looks_to_find [some (zoneD os sp), some (chartD off js), some (.int r), none] S) _
  unfold b_looks_to_find
  simp only [ex, M_map]
  refine M_lcx (os.reverse.map fun o => r - o) D.int (fun _ => true) (fun m => .tup [.int m, .int (heldF off js m)]) (by decide) ?_ (by have := most_big; simp; omega) (fun x S2 _ _ => ?_) fun j S2 hj hg l => ?_
  · simp only [ex, ev, M_bind, M_map, M_some, M_ite, t_eq, a_tup, al_eq, List.getElem?_cons_zero, List.getElem?_cons_succ, Option.bind_some, Option.map_some, q_add, q_sub, q_lt, q_le, q_gt, q_ge, q_eqI, q_neI, q_eqB, q_neB, q_isN, q_notN, isNon, q_ixT, q_ixR, atI_0, atI_1, atI_2, atI_3, atI_4, atI_5, atI_6, atI_7, q_slT, q_slR, q_revT, q_seqT, q_int, q_intB, q_max, q_min, q_abs, q_tupT, n_tup, n_int, n_bl, n_non, n_str, isi_ii, isi_ib, isi_tt, isi_itl, isi_btl, isi_ttl, isi_tl, isi_bb, u_bl, u_int, u_non, u_tup, g_name, g_tup, g_nil, g_cons, o_ret, o_nx, i_seq, List.set_cons_zero, List.set_cons_succ, decide_eq_true_eq, Bool.not_eq_true', decide_eq_false_iff_not, evP, Bool.false_eq_true, if_true, if_false, ite_true, ite_false, reduceIte, Bool.not_true, Bool.not_false, Option.some.injEq, q_pow10, Int.reduceToNat, Int.reducePow, Int.reduceAdd, Int.reduceSub, Int.reduceMul, Int.reduceNeg, Int.reduceLT, Int.reduceLE, Nat.reducePow, Nat.reduceLT, Nat.reduceLeDiff, Nat.reduceAdd, List.length_cons, List.length_nil, Int.neg_neg]
    refine moments_to_look_at_ok hz fun j S2 hj hg l => ?_
    simp only [ex, ev, M_bind, M_map, M_some, M_ite, t_eq, a_tup, al_eq, List.getElem?_cons_zero, List.getElem?_cons_succ, Option.bind_some, Option.map_some, q_add, q_sub, q_lt, q_le, q_gt, q_ge, q_eqI, q_neI, q_eqB, q_neB, q_isN, q_notN, isNon, q_ixT, q_ixR, atI_0, atI_1, atI_2, atI_3, atI_4, atI_5, atI_6, atI_7, q_slT, q_slR, q_revT, q_seqT, q_int, q_intB, q_max, q_min, q_abs, q_tupT, n_tup, n_int, n_bl, n_non, n_str, isi_ii, isi_ib, isi_tt, isi_itl, isi_btl, isi_ttl, isi_tl, isi_bb, u_bl, u_int, u_non, u_tup, g_name, g_tup, g_nil, g_cons, o_ret, o_nx, i_seq, List.set_cons_zero, List.set_cons_succ, decide_eq_true_eq, Bool.not_eq_true', decide_eq_false_iff_not, evP, Bool.false_eq_true, if_true, if_false, ite_true, ite_false, reduceIte, Bool.not_true, Bool.not_false, Option.some.injEq, q_pow10, Int.reduceToNat, Int.reducePow, Int.reduceAdd, Int.reduceSub, Int.reduceMul, Int.reduceNeg, Int.reduceLT, Int.reduceLE, Nat.reducePow, Nat.reduceLT, Nat.reduceLeDiff, Nat.reduceAdd, List.length_cons, List.length_nil, Int.neg_neg]
    exact ⟨_, _, rfl, l, fun S3 l3 => q_seqL (l3 _ _ hg)⟩
  · refine ⟨_, rfl, ?_⟩
    simp only [wipeD, ex, ev, M_bind, M_map, M_some, M_ite, t_eq, a_tup, al_eq, List.getElem?_cons_zero, List.getElem?_cons_succ, Option.bind_some, Option.map_some, q_add, q_sub, q_lt, q_le, q_gt, q_ge, q_eqI, q_neI, q_eqB, q_neB, q_isN, q_notN, isNon, q_ixT, q_ixR, atI_0, atI_1, atI_2, atI_3, atI_4, atI_5, atI_6, atI_7, q_slT, q_slR, q_revT, q_seqT, q_int, q_intB, q_max, q_min, q_abs, q_tupT, n_tup, n_int, n_bl, n_non, n_str, isi_ii, isi_ib, isi_tt, isi_itl, isi_btl, isi_ttl, isi_tl, isi_bb, u_bl, u_int, u_non, u_tup, g_name, g_tup, g_nil, g_cons, o_ret, o_nx, i_seq, List.set_cons_zero, List.set_cons_succ, decide_eq_true_eq, Bool.not_eq_true', decide_eq_false_iff_not, evP, Bool.false_eq_true, if_true, if_false, ite_true, ite_false, reduceIte, Bool.not_true, Bool.not_false, Option.some.injEq, q_pow10, Int.reduceToNat, Int.reducePow, Int.reduceAdd, Int.reduceSub, Int.reduceMul, Int.reduceNeg, Int.reduceLT, Int.reduceLE, Nat.reducePow, Nat.reduceLT, Nat.reduceLeDiff, Nat.reduceAdd, List.length_cons, List.length_nil, Int.neg_neg]
    refine ⟨trivial, Lq.refl _, fun _ => ?_⟩
    refine (held_offset_ok hc.far hz.pos).use fun S3 l3 => ?_
    simp only [ex, ev, M_bind, M_map, M_some, M_ite, t_eq, a_tup, al_eq, List.getElem?_cons_zero, List.getElem?_cons_succ, Option.bind_some, Option.map_some, q_add, q_sub, q_lt, q_le, q_gt, q_ge, q_eqI, q_neI, q_eqB, q_neB, q_isN, q_notN, isNon, q_ixT, q_ixR, atI_0, atI_1, atI_2, atI_3, atI_4, atI_5, atI_6, atI_7, q_slT, q_slR, q_revT, q_seqT, q_int, q_intB, q_max, q_min, q_abs, q_tupT, n_tup, n_int, n_bl, n_non, n_str, isi_ii, isi_ib, isi_tt, isi_itl, isi_btl, isi_ttl, isi_tl, isi_bb, u_bl, u_int, u_non, u_tup, g_name, g_tup, g_nil, g_cons, o_ret, o_nx, i_seq, List.set_cons_zero, List.set_cons_succ, decide_eq_true_eq, Bool.not_eq_true', decide_eq_false_iff_not, evP, Bool.false_eq_true, if_true, if_false, ite_true, ite_false, reduceIte, Bool.not_true, Bool.not_false, Option.some.injEq, q_pow10, Int.reduceToNat, Int.reducePow, Int.reduceAdd, Int.reduceSub, Int.reduceMul, Int.reduceNeg, Int.reduceLT, Int.reduceLE, Nat.reducePow, Nat.reduceLT, Nat.reduceLeDiff, Nat.reduceAdd, List.length_cons, List.length_nil, Int.neg_neg, show (2 : Nat) ≤ most by decide]
    exact ⟨trivial, l3⟩
  · simp only [ex, ev, M_bind, M_map, M_some, M_ite, t_eq, a_tup, al_eq, List.getElem?_cons_zero, List.getElem?_cons_succ, Option.bind_some, Option.map_some, q_add, q_sub, q_lt, q_le, q_gt, q_ge, q_eqI, q_neI, q_eqB, q_neB, q_isN, q_notN, isNon, q_ixT, q_ixR, atI_0, atI_1, atI_2, atI_3, atI_4, atI_5, atI_6, atI_7, q_slT, q_slR, q_revT, q_seqT, q_int, q_intB, q_max, q_min, q_abs, q_tupT, n_tup, n_int, n_bl, n_non, n_str, isi_ii, isi_ib, isi_tt, isi_itl, isi_btl, isi_ttl, isi_tl, isi_bb, u_bl, u_int, u_non, u_tup, g_name, g_tup, g_nil, g_cons, o_ret, o_nx, i_seq, List.set_cons_zero, List.set_cons_succ, decide_eq_true_eq, Bool.not_eq_true', decide_eq_false_iff_not, evP, Bool.false_eq_true, if_true, if_false, ite_true, ite_false, reduceIte, Bool.not_true, Bool.not_false, Option.some.injEq, q_pow10, Int.reduceToNat, Int.reducePow, Int.reduceAdd, Int.reduceSub, Int.reduceMul, Int.reduceNeg, Int.reduceLT, Int.reduceLE, Nat.reducePow, Nat.reduceLT, Nat.reduceLeDiff, Nat.reduceAdd, List.length_cons, List.length_nil, Int.neg_neg]
    refine hq j S2 hj ?_ l
    rw [hg, filt_true]
    unfold looksF
    rw [List.map_map, List.map_map, List.map_map]
    rfl
theorem matching_moments_ok {n k : Nat} {S : Hd} {r : Int} {ls : List (Int × Int)} (hk : S[k]? = some (.lst (ls.map jumpD))) (hz : ls.length ≤ 900) {Q : D × Hd → Prop} (hq : ∀ (j : Nat) (S2 : Hd), S.length ≤ j → S2[j]? = some (.lst ((matchF r ls).map .int)) → Lq S S2 → Q (.ref j, S2)) : M (run T (n + 1) 27 [.int r, .ref k] S) Q := by
  refine run_M T_matching_moments rfl ?_
  show M (ex (run T n) b_matching_moments [some (.int r), some (.ref k), none, none] S) _
  unfold b_matching_moments
  simp only [ex, M_map]
  refine M_lcx ls jumpD (fun l => decide (l.1 + l.2 = r)) (fun l => .int l.1) (by decide) ?_ (by have := most_big; omega) (fun x S2 _ _ => ?_) fun j S2 hj hg l => ?_
  · simp only [ex, ev, M_bind, M_map, M_some, M_ite, t_eq, a_tup, al_eq, List.getElem?_cons_zero, List.getElem?_cons_succ, Option.bind_some, Option.map_some, q_add, q_sub, q_lt, q_le, q_gt, q_ge, q_eqI, q_neI, q_eqB, q_neB, q_isN, q_notN, isNon, q_ixT, q_ixR, atI_0, atI_1, atI_2, atI_3, atI_4, atI_5, atI_6, atI_7, q_slT, q_slR, q_revT, q_seqT, q_int, q_intB, q_max, q_min, q_abs, q_tupT, n_tup, n_int, n_bl, n_non, n_str, isi_ii, isi_ib, isi_tt, isi_itl, isi_btl, isi_ttl, isi_tl, isi_bb, u_bl, u_int, u_non, u_tup, g_name, g_tup, g_nil, g_cons, o_ret, o_nx, i_seq, List.set_cons_zero, List.set_cons_succ, decide_eq_true_eq, Bool.not_eq_true', decide_eq_false_iff_not, evP, Bool.false_eq_true, if_true, if_false, ite_true, ite_false, reduceIte, Bool.not_true, Bool.not_false, Option.some.injEq, q_pow10, Int.reduceToNat, Int.reducePow, Int.reduceAdd, Int.reduceSub, Int.reduceMul, Int.reduceNeg, Int.reduceLT, Int.reduceLE, Nat.reducePow, Nat.reduceLT, Nat.reduceLeDiff, Nat.reduceAdd, List.length_cons, List.length_nil, Int.neg_neg]
    exact ⟨_, _, rfl, Lq.refl _, fun S3 l3 => q_seqL (l3 _ _ hk)⟩
  · refine ⟨_, rfl, ?_⟩
    simp only [wipeD, ex, ev, M_bind, M_map, M_some, M_ite, t_eq, a_tup, al_eq, List.getElem?_cons_zero, List.getElem?_cons_succ, Option.bind_some, Option.map_some, q_add, q_sub, q_lt, q_le, q_gt, q_ge, q_eqI, q_neI, q_eqB, q_neB, q_isN, q_notN, isNon, q_ixT, q_ixR, atI_0, atI_1, atI_2, atI_3, atI_4, atI_5, atI_6, atI_7, q_slT, q_slR, q_revT, q_seqT, q_int, q_intB, q_max, q_min, q_abs, q_tupT, n_tup, n_int, n_bl, n_non, n_str, isi_ii, isi_ib, isi_tt, isi_itl, isi_btl, isi_ttl, isi_tl, isi_bb, u_bl, u_int, u_non, u_tup, g_name, g_tup, g_nil, g_cons, o_ret, o_nx, i_seq, List.set_cons_zero, List.set_cons_succ, decide_eq_true_eq, Bool.not_eq_true', decide_eq_false_iff_not, evP, Bool.false_eq_true, if_true, if_false, ite_true, ite_false, reduceIte, Bool.not_true, Bool.not_false, Option.some.injEq, q_pow10, Int.reduceToNat, Int.reducePow, Int.reduceAdd, Int.reduceSub, Int.reduceMul, Int.reduceNeg, Int.reduceLT, Int.reduceLE, Nat.reducePow, Nat.reduceLT, Nat.reduceLeDiff, Nat.reduceAdd, List.length_cons, List.length_nil, Int.neg_neg]
    exact ⟨trivial, Lq.refl _, fun _ => ⟨trivial, Lq.refl _⟩⟩
  · simp only [ex, ev, M_bind, M_map, M_some, M_ite, t_eq, a_tup, al_eq, List.getElem?_cons_zero, List.getElem?_cons_succ, Option.bind_some, Option.map_some, q_add, q_sub, q_lt, q_le, q_gt, q_ge, q_eqI, q_neI, q_eqB, q_neB, q_isN, q_notN, isNon, q_ixT, q_ixR, atI_0, atI_1, atI_2, atI_3, atI_4, atI_5, atI_6, atI_7, q_slT, q_slR, q_revT, q_seqT, q_int, q_intB, q_max, q_min, q_abs, q_tupT, n_tup, n_int, n_bl, n_non, n_str, isi_ii, isi_ib, isi_tt, isi_itl, isi_btl, isi_ttl, isi_tl, isi_bb, u_bl, u_int, u_non, u_tup, g_name, g_tup, g_nil, g_cons, o_ret, o_nx, i_seq, List.set_cons_zero, List.set_cons_succ, decide_eq_true_eq, Bool.not_eq_true', decide_eq_false_iff_not, evP, Bool.false_eq_true, if_true, if_false, ite_true, ite_false, reduceIte, Bool.not_true, Bool.not_false, Option.some.injEq, q_pow10, Int.reduceToNat, Int.reducePow, Int.reduceAdd, Int.reduceSub, Int.reduceMul, Int.reduceNeg, Int.reduceLT, Int.reduceLE, Nat.reducePow, Nat.reduceLT, Nat.reduceLeDiff, Nat.reduceAdd, List.length_cons, List.length_nil, Int.neg_neg]
    refine hq j S2 hj ?_ l
    rw [hg]
    unfold matchF
    rw [List.map_map]
    rfl
theorem looksF_len {os : List Int} {off r : Int} {js : List (Int × Int)} : (looksF os off js r).length = os.length := by
  unfold looksF
  simp
theorem moments_of_ok {n : Nat} {S : Hd} {os : List Int} {sp off r : Int} {js : List (Int × Int)} (hz : Zone os sp) (hc : Chart os sp off js) (hl : js.length ≤ 900) {Q : D × Hd → Prop} (hq : ∀ (j : Nat) (S2 : Hd), S.length ≤ j → S2[j]? = some (.lst ((hoursF off js r).map .int)) → Lq S S2 → Q (.ref j, S2)) : M (run T (n + 7) 30 [zoneD os sp, chartD off js, .int r] S) Q := by
  have o3 := hz.len3
  refine run_M T_moments_of rfl ?_
  show M (ex (run T (n + 6)) b_moments_of [some (zoneD os sp), some (chartD off js), some (.int r)] S) _
  unfold b_moments_of
  simp only [ex, ev, M_bind, M_map, M_some, M_ite, t_eq, a_tup, al_eq, List.getElem?_cons_zero, List.getElem?_cons_succ, Option.bind_some, Option.map_some, q_add, q_sub, q_lt, q_le, q_gt, q_ge, q_eqI, q_neI, q_eqB, q_neB, q_isN, q_notN, isNon, q_ixT, q_ixR, atI_0, atI_1, atI_2, atI_3, atI_4, atI_5, atI_6, atI_7, q_slT, q_slR, q_revT, q_seqT, q_int, q_intB, q_max, q_min, q_abs, q_tupT, n_tup, n_int, n_bl, n_non, n_str, isi_ii, isi_ib, isi_tt, isi_itl, isi_btl, isi_ttl, isi_tl, isi_bb, u_bl, u_int, u_non, u_tup, g_name, g_tup, g_nil, g_cons, o_ret, o_nx, i_seq, List.set_cons_zero, List.set_cons_succ, decide_eq_true_eq, Bool.not_eq_true', decide_eq_false_iff_not, evP, Bool.false_eq_true, if_true, if_false, ite_true, ite_false, reduceIte, Bool.not_true, Bool.not_false, Option.some.injEq, q_pow10, Int.reduceToNat, Int.reducePow, Int.reduceAdd, Int.reduceSub, Int.reduceMul, Int.reduceNeg, Int.reduceLT, Int.reduceLE, Nat.reducePow, Nat.reduceLT, Nat.reduceLeDiff, Nat.reduceAdd, List.length_cons, List.length_nil, Int.neg_neg]
  refine (check_zone_ok hz).use fun S1 l1 => ?_
  simp only [ex, ev, M_bind, M_map, M_some, M_ite, t_eq, a_tup, al_eq, List.getElem?_cons_zero, List.getElem?_cons_succ, Option.bind_some, Option.map_some, q_add, q_sub, q_lt, q_le, q_gt, q_ge, q_eqI, q_neI, q_eqB, q_neB, q_isN, q_notN, isNon, q_ixT, q_ixR, atI_0, atI_1, atI_2, atI_3, atI_4, atI_5, atI_6, atI_7, q_slT, q_slR, q_revT, q_seqT, q_int, q_intB, q_max, q_min, q_abs, q_tupT, n_tup, n_int, n_bl, n_non, n_str, isi_ii, isi_ib, isi_tt, isi_itl, isi_btl, isi_ttl, isi_tl, isi_bb, u_bl, u_int, u_non, u_tup, g_name, g_tup, g_nil, g_cons, o_ret, o_nx, i_seq, List.set_cons_zero, List.set_cons_succ, decide_eq_true_eq, Bool.not_eq_true', decide_eq_false_iff_not, evP, Bool.false_eq_true, if_true, if_false, ite_true, ite_false, reduceIte, Bool.not_true, Bool.not_false, Option.some.injEq, q_pow10, Int.reduceToNat, Int.reducePow, Int.reduceAdd, Int.reduceSub, Int.reduceMul, Int.reduceNeg, Int.reduceLT, Int.reduceLE, Nat.reducePow, Nat.reduceLT, Nat.reduceLeDiff, Nat.reduceAdd, List.length_cons, List.length_nil, Int.neg_neg]
  refine (check_table_ok hc hl).use fun S2 l2 => ?_
  simp only [ex, ev, M_bind, M_map, M_some, M_ite, t_eq, a_tup, al_eq, List.getElem?_cons_zero, List.getElem?_cons_succ, Option.bind_some, Option.map_some, q_add, q_sub, q_lt, q_le, q_gt, q_ge, q_eqI, q_neI, q_eqB, q_neB, q_isN, q_notN, isNon, q_ixT, q_ixR, atI_0, atI_1, atI_2, atI_3, atI_4, atI_5, atI_6, atI_7, q_slT, q_slR, q_revT, q_seqT, q_int, q_intB, q_max, q_min, q_abs, q_tupT, n_tup, n_int, n_bl, n_non, n_str, isi_ii, isi_ib, isi_tt, isi_itl, isi_btl, isi_ttl, isi_tl, isi_bb, u_bl, u_int, u_non, u_tup, g_name, g_tup, g_nil, g_cons, o_ret, o_nx, i_seq, List.set_cons_zero, List.set_cons_succ, decide_eq_true_eq, Bool.not_eq_true', decide_eq_false_iff_not, evP, Bool.false_eq_true, if_true, if_false, ite_true, ite_false, reduceIte, Bool.not_true, Bool.not_false, Option.some.injEq, q_pow10, Int.reduceToNat, Int.reducePow, Int.reduceAdd, Int.reduceSub, Int.reduceMul, Int.reduceNeg, Int.reduceLT, Int.reduceLE, Nat.reducePow, Nat.reduceLT, Nat.reduceLeDiff, Nat.reduceAdd, List.length_cons, List.length_nil, Int.neg_neg]
  refine check_number_ok.use fun S3 l3 => ?_
  simp only [ex, ev, M_bind, M_map, M_some, M_ite, t_eq, a_tup, al_eq, List.getElem?_cons_zero, List.getElem?_cons_succ, Option.bind_some, Option.map_some, q_add, q_sub, q_lt, q_le, q_gt, q_ge, q_eqI, q_neI, q_eqB, q_neB, q_isN, q_notN, isNon, q_ixT, q_ixR, atI_0, atI_1, atI_2, atI_3, atI_4, atI_5, atI_6, atI_7, q_slT, q_slR, q_revT, q_seqT, q_int, q_intB, q_max, q_min, q_abs, q_tupT, n_tup, n_int, n_bl, n_non, n_str, isi_ii, isi_ib, isi_tt, isi_itl, isi_btl, isi_ttl, isi_tl, isi_bb, u_bl, u_int, u_non, u_tup, g_name, g_tup, g_nil, g_cons, o_ret, o_nx, i_seq, List.set_cons_zero, List.set_cons_succ, decide_eq_true_eq, Bool.not_eq_true', decide_eq_false_iff_not, evP, Bool.false_eq_true, if_true, if_false, ite_true, ite_false, reduceIte, Bool.not_true, Bool.not_false, Option.some.injEq, q_pow10, Int.reduceToNat, Int.reducePow, Int.reduceAdd, Int.reduceSub, Int.reduceMul, Int.reduceNeg, Int.reduceLT, Int.reduceLE, Nat.reducePow, Nat.reduceLT, Nat.reduceLeDiff, Nat.reduceAdd, List.length_cons, List.length_nil, Int.neg_neg]
  refine looks_to_find_ok hz hc fun j S4 hj hg l4 => ?_
  simp only [ex, ev, M_bind, M_map, M_some, M_ite, t_eq, a_tup, al_eq, List.getElem?_cons_zero, List.getElem?_cons_succ, Option.bind_some, Option.map_some, q_add, q_sub, q_lt, q_le, q_gt, q_ge, q_eqI, q_neI, q_eqB, q_neB, q_isN, q_notN, isNon, q_ixT, q_ixR, atI_0, atI_1, atI_2, atI_3, atI_4, atI_5, atI_6, atI_7, q_slT, q_slR, q_revT, q_seqT, q_int, q_intB, q_max, q_min, q_abs, q_tupT, n_tup, n_int, n_bl, n_non, n_str, isi_ii, isi_ib, isi_tt, isi_itl, isi_btl, isi_ttl, isi_tl, isi_bb, u_bl, u_int, u_non, u_tup, g_name, g_tup, g_nil, g_cons, o_ret, o_nx, i_seq, List.set_cons_zero, List.set_cons_succ, decide_eq_true_eq, Bool.not_eq_true', decide_eq_false_iff_not, evP, Bool.false_eq_true, if_true, if_false, ite_true, ite_false, reduceIte, Bool.not_true, Bool.not_false, Option.some.injEq, q_pow10, Int.reduceToNat, Int.reducePow, Int.reduceAdd, Int.reduceSub, Int.reduceMul, Int.reduceNeg, Int.reduceLT, Int.reduceLE, Nat.reducePow, Nat.reduceLT, Nat.reduceLeDiff, Nat.reduceAdd, List.length_cons, List.length_nil, Int.neg_neg]
  refine matching_moments_ok hg (by rw [looksF_len]; omega) fun j2 S5 hj2 hg2 l5 => ?_
  simp only [ex, ev, M_bind, M_map, M_some, M_ite, t_eq, a_tup, al_eq, List.getElem?_cons_zero, List.getElem?_cons_succ, Option.bind_some, Option.map_some, q_add, q_sub, q_lt, q_le, q_gt, q_ge, q_eqI, q_neI, q_eqB, q_neB, q_isN, q_notN, isNon, q_ixT, q_ixR, atI_0, atI_1, atI_2, atI_3, atI_4, atI_5, atI_6, atI_7, q_slT, q_slR, q_revT, q_seqT, q_int, q_intB, q_max, q_min, q_abs, q_tupT, n_tup, n_int, n_bl, n_non, n_str, isi_ii, isi_ib, isi_tt, isi_itl, isi_btl, isi_ttl, isi_tl, isi_bb, u_bl, u_int, u_non, u_tup, g_name, g_tup, g_nil, g_cons, o_ret, o_nx, i_seq, List.set_cons_zero, List.set_cons_succ, decide_eq_true_eq, Bool.not_eq_true', decide_eq_false_iff_not, evP, Bool.false_eq_true, if_true, if_false, ite_true, ite_false, reduceIte, Bool.not_true, Bool.not_false, Option.some.injEq, q_pow10, Int.reduceToNat, Int.reducePow, Int.reduceAdd, Int.reduceSub, Int.reduceMul, Int.reduceNeg, Int.reduceLT, Int.reduceLE, Nat.reducePow, Nat.reduceLT, Nat.reduceLeDiff, Nat.reduceAdd, List.length_cons, List.length_nil, Int.neg_neg]
  have l := l1.trans (l2.trans (l3.trans l4))
  rw [match_hours hz hc] at hg2
  exact hq j2 S5 (Nat.le_trans l.len hj2) hg2 (l.trans l5)
end Lw

namespace Lw
open PySem L2 Ix
/-! ### hours_of, and whether two values are the same -/
theorem hours_of_ok {n : Nat} {S : Hd} {off r : Int} {js : List (Int × Int)} (hl : js.length ≤ 900) {Q : D × Hd → Prop} (hq : ∀ (j : Nat) (S2 : Hd), S.length ≤ j → S2[j]? = some (.lst ((hoursF off js r).map .int)) → Lq S S2 → Q (.ref j, S2)) : M (run T (n + 1) 31 [chartD off js, .int r] S) Q := by
  have hm := most_big
  refine run_M T_hours_of rfl ?_
  show M (ex (run T n) b_hours_of [some (chartD off js), some (.int r), none, none, none, none, none] S) _
  unfold b_hours_of chartD
  refine seq_M (fun env S1 => S = S1 ∧ env = [some (.tup [.int off, .tup (js.map jumpD)]), some (.int r), some (.tup (js.map jumpD)), none, none, none, none]) ?_ ?_
  · simp only [ex, ev, M_bind, M_map, M_some, M_ite, t_eq, a_tup, al_eq, List.getElem?_cons_zero, List.getElem?_cons_succ, Option.bind_some, Option.map_some, q_add, q_sub, q_lt, q_le, q_gt, q_ge, q_eqI, q_neI, q_eqB, q_neB, q_isN, q_notN, isNon, q_ixT, q_ixR, atI_0, atI_1, atI_2, atI_3, atI_4, atI_5, atI_6, atI_7, q_slT, q_slR, q_revT, q_seqT, q_int, q_intB, q_max, q_min, q_abs, q_tupT, n_tup, n_int, n_bl, n_non, n_str, isi_ii, isi_ib, isi_tt, isi_itl, isi_btl, isi_ttl, isi_tl, isi_bb, u_bl, u_int, u_non, u_tup, g_name, g_tup, g_nil, g_cons, o_ret, o_nx, i_seq, List.set_cons_zero, List.set_cons_succ, decide_eq_true_eq, Bool.not_eq_true', decide_eq_false_iff_not, evP, Bool.false_eq_true, if_true, if_false, ite_true, ite_false, reduceIte, Bool.not_true, Bool.not_false, Option.some.injEq, q_pow10, Int.reduceToNat, Int.reducePow, Int.reduceAdd, Int.reduceSub, Int.reduceMul, Int.reduceNeg, Int.reduceLT, Int.reduceLE, Nat.reducePow, Nat.reduceLT, Nat.reduceLeDiff, Nat.reduceAdd, List.length_cons, List.length_nil, Int.neg_neg]
    exact ⟨trivial, trivial, trivial⟩
  rintro _ _ ⟨rfl, rfl⟩
  refine seq_M (fun env S1 => S1 = S ++ [.lst []] ∧ env = [some (.tup [.int off, .tup (js.map jumpD)]), some (.int r), some (.tup (js.map jumpD)), some (.ref S.length), none, none, none]) ?_ ?_
  · simp only [ex, ev, M_bind, M_map, M_some, M_ite, t_eq, a_tup, al_eq, List.getElem?_cons_zero, List.getElem?_cons_succ, Option.bind_some, Option.map_some, q_add, q_sub, q_lt, q_le, q_gt, q_ge, q_eqI, q_neI, q_eqB, q_neB, q_isN, q_notN, isNon, q_ixT, q_ixR, atI_0, atI_1, atI_2, atI_3, atI_4, atI_5, atI_6, atI_7, q_slT, q_slR, q_revT, q_seqT, q_int, q_intB, q_max, q_min, q_abs, q_tupT, n_tup, n_int, n_bl, n_non, n_str, isi_ii, isi_ib, isi_tt, isi_itl, isi_btl, isi_ttl, isi_tl, isi_bb, u_bl, u_int, u_non, u_tup, g_name, g_tup, g_nil, g_cons, o_ret, o_nx, i_seq, List.set_cons_zero, List.set_cons_succ, decide_eq_true_eq, Bool.not_eq_true', decide_eq_false_iff_not, evP, Bool.false_eq_true, if_true, if_false, ite_true, ite_false, reduceIte, Bool.not_true, Bool.not_false, Option.some.injEq, q_pow10, Int.reduceToNat, Int.reducePow, Int.reduceAdd, Int.reduceSub, Int.reduceMul, Int.reduceNeg, Int.reduceLT, Int.reduceLE, Nat.reducePow, Nat.reduceLT, Nat.reduceLeDiff, Nat.reduceAdd, List.length_cons, List.length_nil, Int.neg_neg, show (0 : Nat) ≤ most by decide]
    exact ⟨trivial, trivial, trivial⟩
  rintro _ _ ⟨rfl, rfl⟩
  refine seq_M (fun env S1 => S1 = S ++ [.lst []] ∧ env = [some (.tup [.int off, .tup (js.map jumpD)]), some (.int r), some (.tup (js.map jumpD)), some (.ref S.length), some (.int off), none, none]) ?_ ?_
  · simp only [ex, ev, M_bind, M_map, M_some, M_ite, t_eq, a_tup, al_eq, List.getElem?_cons_zero, List.getElem?_cons_succ, Option.bind_some, Option.map_some, q_add, q_sub, q_lt, q_le, q_gt, q_ge, q_eqI, q_neI, q_eqB, q_neB, q_isN, q_notN, isNon, q_ixT, q_ixR, atI_0, atI_1, atI_2, atI_3, atI_4, atI_5, atI_6, atI_7, q_slT, q_slR, q_revT, q_seqT, q_int, q_intB, q_max, q_min, q_abs, q_tupT, n_tup, n_int, n_bl, n_non, n_str, isi_ii, isi_ib, isi_tt, isi_itl, isi_btl, isi_ttl, isi_tl, isi_bb, u_bl, u_int, u_non, u_tup, g_name, g_tup, g_nil, g_cons, o_ret, o_nx, i_seq, List.set_cons_zero, List.set_cons_succ, decide_eq_true_eq, Bool.not_eq_true', decide_eq_false_iff_not, evP, Bool.false_eq_true, if_true, if_false, ite_true, ite_false, reduceIte, Bool.not_true, Bool.not_false, Option.some.injEq, q_pow10, Int.reduceToNat, Int.reducePow, Int.reduceAdd, Int.reduceSub, Int.reduceMul, Int.reduceNeg, Int.reduceLT, Int.reduceLE, Nat.reducePow, Nat.reduceLT, Nat.reduceLeDiff, Nat.reduceAdd, List.length_cons, List.length_nil, Int.neg_neg]
    exact ⟨trivial, trivial, trivial⟩
  rintro _ _ ⟨rfl, rfl⟩
  refine seq_M (fun env S1 => ∃ v4 v5 v6 : Option D, S1[S.length]? = some (.lst ((hoursF off js r).map .int)) ∧ Lq S S1 ∧ env = [some (.tup [.int off, .tup (js.map jumpD)]), some (.int r), some (.tup (js.map jumpD)), some (.ref S.length), v4, v5, v6]) ?_ ?_
  · refine for_M ?_
    simp only [ev, M_bind, M_map, M_some, M_ite, t_eq, a_tup, al_eq, List.getElem?_cons_zero, List.getElem?_cons_succ, Option.bind_some, Option.map_some, q_add, q_sub, q_lt, q_le, q_gt, q_ge, q_eqI, q_neI, q_eqB, q_neB, q_isN, q_notN, isNon, q_ixT, q_ixR, atI_0, atI_1, atI_2, atI_3, atI_4, atI_5, atI_6, atI_7, q_slT, q_slR, q_revT, q_seqT, q_int, q_intB, q_max, q_min, q_abs, q_tupT, n_tup, n_int, n_bl, n_non, n_str, isi_ii, isi_ib, isi_tt, isi_itl, isi_btl, isi_ttl, isi_tl, isi_bb, u_bl, u_int, u_non, u_tup, g_name, g_tup, g_nil, g_cons, o_ret, o_nx, i_seq, List.set_cons_zero, List.set_cons_succ, decide_eq_true_eq, Bool.not_eq_true', decide_eq_false_iff_not, evP, Bool.false_eq_true, if_true, if_false, ite_true, ite_false, reduceIte, Bool.not_true, Bool.not_false, Option.some.injEq, q_pow10, Int.reduceToNat, Int.reducePow, Int.reduceAdd, Int.reduceSub, Int.reduceMul, Int.reduceNeg, Int.reduceLT, Int.reduceLE, Nat.reducePow, Nat.reduceLT, Nat.reduceLeDiff, Nat.reduceAdd, List.length_cons, List.length_nil, Int.neg_neg, q_len q_seqT, List.length_map]
    refine ⟨_, _, rfl, i_rng (by omega) (by omega), ?_⟩
    refine M_loopS (m := 0) (fun i env S1 => ∃ v5 v6 : Option D, S1[S.length]? = some (.lst (((List.range i).filterMap (hourK off js r)).map .int)) ∧ Lq S S1 ∧ env = [some (.tup [.int off, .tup (js.map jumpD)]), some (.int r), some (.tup (js.map jumpD)), some (.ref S.length), some (.int (shK off js (if i ≤ js.length then i else js.length))), v5, v6]) ⟨none, none, get_new, Lq.app _ _, by rw [if_pos (Nat.zero_le _), shK_0]⟩ ?_ ?_
    · rintro i d env S1 hi ⟨v5, v6, g, l, rfl⟩
      obtain ⟨im, rfl⟩ := rng_get hi
      have im : i ≤ js.length := by omega
      simp only [Nat.zero_add, if_pos im] at g ⊢
      generalize hm : r - shK off js i = m
      simp only [asgG, Option.bind_some, List.set_cons_succ, List.set_cons_zero]
      refine seq_M (fun env S2 => S1 = S2 ∧ env = [some (.tup [.int off, .tup (js.map jumpD)]), some (.int r), some (.tup (js.map jumpD)), some (.ref S.length), some (.int (shK off js i)), some (.int (0 + (i : Int))), some (.int m)]) ?_ ?_
      · simp only [ex, ev, M_bind, M_map, M_some, M_ite, t_eq, a_tup, al_eq, List.getElem?_cons_zero, List.getElem?_cons_succ, Option.bind_some, Option.map_some, q_add, q_sub, q_lt, q_le, q_gt, q_ge, q_eqI, q_neI, q_eqB, q_neB, q_isN, q_notN, isNon, q_ixT, q_ixR, atI_0, atI_1, atI_2, atI_3, atI_4, atI_5, atI_6, atI_7, q_slT, q_slR, q_revT, q_seqT, q_int, q_intB, q_max, q_min, q_abs, q_tupT, n_tup, n_int, n_bl, n_non, n_str, isi_ii, isi_ib, isi_tt, isi_itl, isi_btl, isi_ttl, isi_tl, isi_bb, u_bl, u_int, u_non, u_tup, g_name, g_tup, g_nil, g_cons, o_ret, o_nx, i_seq, List.set_cons_zero, List.set_cons_succ, decide_eq_true_eq, Bool.not_eq_true', decide_eq_false_iff_not, evP, Bool.false_eq_true, if_true, if_false, ite_true, ite_false, reduceIte, Bool.not_true, Bool.not_false, Option.some.injEq, q_pow10, Int.reduceToNat, Int.reducePow, Int.reduceAdd, Int.reduceSub, Int.reduceMul, Int.reduceNeg, Int.reduceLT, Int.reduceLE, Nat.reducePow, Nat.reduceLT, Nat.reduceLeDiff, Nat.reduceAdd, List.length_cons, List.length_nil, Int.neg_neg, hm]
        exact ⟨trivial, trivial, trivial⟩
      rintro _ _ ⟨rfl, rfl⟩
      refine seq_M (fun env S2 => S2[S.length]? = some (.lst (((List.range (i + 1)).filterMap (hourK off js r)).map .int)) ∧ Lq S S2 ∧ env = [some (.tup [.int off, .tup (js.map jumpD)]), some (.int r), some (.tup (js.map jumpD)), some (.ref S.length), some (.int (shK off js i)), some (.int (0 + (i : Int))), some (.int m)]) ?_ ?_
      · refine ite_M ?_
        refine M.imp (P := fun x => x = (inK js i m, S1)) ?_ ?_
        · have hlen : ((0 : Int) + (i : Int) = (js.length : Int)) ↔ i = js.length := by omega
          by_cases c0 : i = 0
          · subst c0
            simp only [ex, ev, M_bind, M_map, M_some, M_ite, t_eq, a_tup, al_eq, List.getElem?_cons_zero, List.getElem?_cons_succ, Option.bind_some, Option.map_some, q_add, q_sub, q_lt, q_le, q_gt, q_ge, q_eqI, q_neI, q_eqB, q_neB, q_isN, q_notN, isNon, q_ixT, q_ixR, atI_0, atI_1, atI_2, atI_3, atI_4, atI_5, atI_6, atI_7, q_slT, q_slR, q_revT, q_seqT, q_int, q_intB, q_max, q_min, q_abs, q_tupT, n_tup, n_int, n_bl, n_non, n_str, isi_ii, isi_ib, isi_tt, isi_itl, isi_btl, isi_ttl, isi_tl, isi_bb, u_bl, u_int, u_non, u_tup, g_name, g_tup, g_nil, g_cons, o_ret, o_nx, i_seq, List.set_cons_zero, List.set_cons_succ, decide_eq_true_eq, Bool.not_eq_true', decide_eq_false_iff_not, evP, Bool.false_eq_true, if_true, if_false, ite_true, ite_false, reduceIte, Bool.not_true, Bool.not_false, Option.some.injEq, q_pow10, Int.reduceToNat, Int.reducePow, Int.reduceAdd, Int.reduceSub, Int.reduceMul, Int.reduceNeg, Int.reduceLT, Int.reduceLE, Nat.reducePow, Nat.reduceLT, Nat.reduceLeDiff, Nat.reduceAdd, List.length_cons, List.length_nil, Int.neg_neg, show ((0 : Nat) : Int) = 0 from rfl, Int.add_zero, decide_true, q_len q_seqT, List.length_map]
            by_cases c1 : (0 : Int) = (js.length : Int)
            · have : js = [] := List.eq_nil_of_length_eq_zero (by omega)
              subst this
              simp only [ex, ev, M_bind, M_map, M_some, M_ite, t_eq, a_tup, al_eq, List.getElem?_cons_zero, List.getElem?_cons_succ, Option.bind_some, Option.map_some, q_add, q_sub, q_lt, q_le, q_gt, q_ge, q_eqI, q_neI, q_eqB, q_neB, q_isN, q_notN, isNon, q_ixT, q_ixR, atI_0, atI_1, atI_2, atI_3, atI_4, atI_5, atI_6, atI_7, q_slT, q_slR, q_revT, q_seqT, q_int, q_intB, q_max, q_min, q_abs, q_tupT, n_tup, n_int, n_bl, n_non, n_str, isi_ii, isi_ib, isi_tt, isi_itl, isi_btl, isi_ttl, isi_tl, isi_bb, u_bl, u_int, u_non, u_tup, g_name, g_tup, g_nil, g_cons, o_ret, o_nx, i_seq, List.set_cons_zero, List.set_cons_succ, decide_eq_true_eq, Bool.not_eq_true', decide_eq_false_iff_not, evP, Bool.false_eq_true, if_true, if_false, ite_true, ite_false, reduceIte, Bool.not_true, Bool.not_false, Option.some.injEq, q_pow10, Int.reduceToNat, Int.reducePow, Int.reduceAdd, Int.reduceSub, Int.reduceMul, Int.reduceNeg, Int.reduceLT, Int.reduceLE, Nat.reducePow, Nat.reduceLT, Nat.reduceLeDiff, Nat.reduceAdd, List.length_cons, List.length_nil, Int.neg_neg, List.length_nil, show ((0 : Nat) : Int) = 0 from rfl, decide_true]
              rfl
            · obtain ⟨j, js', rfl⟩ : ∃ j js', js = j :: js' := by
                cases js with
                | nil => simp at c1
                | cons j js' => exact ⟨j, js', rfl⟩
              simp only [ex, ev, M_bind, M_map, M_some, M_ite, t_eq, a_tup, al_eq, List.getElem?_cons_zero, List.getElem?_cons_succ, Option.bind_some, Option.map_some, q_add, q_sub, q_lt, q_le, q_gt, q_ge, q_eqI, q_neI, q_eqB, q_neB, q_isN, q_notN, isNon, q_ixT, q_ixR, atI_0, atI_1, atI_2, atI_3, atI_4, atI_5, atI_6, atI_7, q_slT, q_slR, q_revT, q_seqT, q_int, q_intB, q_max, q_min, q_abs, q_tupT, n_tup, n_int, n_bl, n_non, n_str, isi_ii, isi_ib, isi_tt, isi_itl, isi_btl, isi_ttl, isi_tl, isi_bb, u_bl, u_int, u_non, u_tup, g_name, g_tup, g_nil, g_cons, o_ret, o_nx, i_seq, List.set_cons_zero, List.set_cons_succ, decide_eq_true_eq, Bool.not_eq_true', decide_eq_false_iff_not, evP, Bool.false_eq_true, if_true, if_false, ite_true, ite_false, reduceIte, Bool.not_true, Bool.not_false, Option.some.injEq, q_pow10, Int.reduceToNat, Int.reducePow, Int.reduceAdd, Int.reduceSub, Int.reduceMul, Int.reduceNeg, Int.reduceLT, Int.reduceLE, Nat.reducePow, Nat.reduceLT, Nat.reduceLeDiff, Nat.reduceAdd, List.length_cons, List.length_nil, Int.neg_neg, c1, decide_false, List.map_cons, atI_0]
              have c2 : (0 = ((js'.length + 1 : Nat) : Int)) = False := eq_false (by omega)
              rw [show jumpD j = .tup [.int j.1, .int j.2] from rfl]
              simp only [ex, ev, M_bind, M_map, M_some, M_ite, t_eq, a_tup, al_eq, List.getElem?_cons_zero, List.getElem?_cons_succ, Option.bind_some, Option.map_some, q_add, q_sub, q_lt, q_le, q_gt, q_ge, q_eqI, q_neI, q_eqB, q_neB, q_isN, q_notN, isNon, q_ixT, q_ixR, atI_0, atI_1, atI_2, atI_3, atI_4, atI_5, atI_6, atI_7, q_slT, q_slR, q_revT, q_seqT, q_int, q_intB, q_max, q_min, q_abs, q_tupT, n_tup, n_int, n_bl, n_non, n_str, isi_ii, isi_ib, isi_tt, isi_itl, isi_btl, isi_ttl, isi_tl, isi_bb, u_bl, u_int, u_non, u_tup, g_name, g_tup, g_nil, g_cons, o_ret, o_nx, i_seq, List.set_cons_zero, List.set_cons_succ, decide_eq_true_eq, Bool.not_eq_true', decide_eq_false_iff_not, evP, Bool.false_eq_true, if_true, if_false, ite_true, ite_false, reduceIte, Bool.not_true, Bool.not_false, Option.some.injEq, q_pow10, Int.reduceToNat, Int.reducePow, Int.reduceAdd, Int.reduceSub, Int.reduceMul, Int.reduceNeg, Int.reduceLT, Int.reduceLE, Nat.reducePow, Nat.reduceLT, Nat.reduceLeDiff, Nat.reduceAdd, List.length_cons, List.length_nil, Int.neg_neg, c2, decide_false]
              rfl
          · have e1 : ((0 : Int) + (i : Int) = 0) = False := eq_false (by omega)
            have hp : js[i - 1]? = some js[i - 1] := List.getElem?_eq_getElem (by omega)
            have a1 : atI (js.map jumpD) (0 + (i : Int) - 1) = some (jumpD js[i - 1]) := by
              rw [atI_lt (by omega) (by simp; omega), List.getElem?_map, show (0 + (i : Int) - 1).toNat = i - 1 by omega, hp]
              rfl
            have b0 : (i == 0) = false := by simpa using c0
            simp only [ex, ev, M_bind, M_map, M_some, M_ite, t_eq, a_tup, al_eq, List.getElem?_cons_zero, List.getElem?_cons_succ, Option.bind_some, Option.map_some, q_add, q_sub, q_lt, q_le, q_gt, q_ge, q_eqI, q_neI, q_eqB, q_neB, q_isN, q_notN, isNon, q_ixT, q_ixR, atI_0, atI_1, atI_2, atI_3, atI_4, atI_5, atI_6, atI_7, q_slT, q_slR, q_revT, q_seqT, q_int, q_intB, q_max, q_min, q_abs, q_tupT, n_tup, n_int, n_bl, n_non, n_str, isi_ii, isi_ib, isi_tt, isi_itl, isi_btl, isi_ttl, isi_tl, isi_bb, u_bl, u_int, u_non, u_tup, g_name, g_tup, g_nil, g_cons, o_ret, o_nx, i_seq, List.set_cons_zero, List.set_cons_succ, decide_eq_true_eq, Bool.not_eq_true', decide_eq_false_iff_not, evP, Bool.false_eq_true, if_true, if_false, ite_true, ite_false, reduceIte, Bool.not_true, Bool.not_false, Option.some.injEq, q_pow10, Int.reduceToNat, Int.reducePow, Int.reduceAdd, Int.reduceSub, Int.reduceMul, Int.reduceNeg, Int.reduceLT, Int.reduceLE, Nat.reducePow, Nat.reduceLT, Nat.reduceLeDiff, Nat.reduceAdd, List.length_cons, List.length_nil, Int.neg_neg, e1, decide_false, a1, q_len q_seqT, List.length_map]
            unfold jumpD
            simp only [ex, ev, M_bind, M_map, M_some, M_ite, t_eq, a_tup, al_eq, List.getElem?_cons_zero, List.getElem?_cons_succ, Option.bind_some, Option.map_some, q_add, q_sub, q_lt, q_le, q_gt, q_ge, q_eqI, q_neI, q_eqB, q_neB, q_isN, q_notN, isNon, q_ixT, q_ixR, atI_0, atI_1, atI_2, atI_3, atI_4, atI_5, atI_6, atI_7, q_slT, q_slR, q_revT, q_seqT, q_int, q_intB, q_max, q_min, q_abs, q_tupT, n_tup, n_int, n_bl, n_non, n_str, isi_ii, isi_ib, isi_tt, isi_itl, isi_btl, isi_ttl, isi_tl, isi_bb, u_bl, u_int, u_non, u_tup, g_name, g_tup, g_nil, g_cons, o_ret, o_nx, i_seq, List.set_cons_zero, List.set_cons_succ, decide_eq_true_eq, Bool.not_eq_true', decide_eq_false_iff_not, evP, Bool.false_eq_true, if_true, if_false, ite_true, ite_false, reduceIte, Bool.not_true, Bool.not_false, Option.some.injEq, q_pow10, Int.reduceToNat, Int.reducePow, Int.reduceAdd, Int.reduceSub, Int.reduceMul, Int.reduceNeg, Int.reduceLT, Int.reduceLE, Nat.reducePow, Nat.reduceLT, Nat.reduceLeDiff, Nat.reduceAdd, List.length_cons, List.length_nil, Int.neg_neg]
            unfold inK
            rw [hp, b0]
            simp only [Bool.false_or]
            by_cases c2 : (js[i - 1]).1 ≤ m
            · simp only [c2, decide_true, ex, ev, M_bind, M_map, M_some, M_ite, t_eq, a_tup, al_eq, List.getElem?_cons_zero, List.getElem?_cons_succ, Option.bind_some, Option.map_some, q_add, q_sub, q_lt, q_le, q_gt, q_ge, q_eqI, q_neI, q_eqB, q_neB, q_isN, q_notN, isNon, q_ixT, q_ixR, atI_0, atI_1, atI_2, atI_3, atI_4, atI_5, atI_6, atI_7, q_slT, q_slR, q_revT, q_seqT, q_int, q_intB, q_max, q_min, q_abs, q_tupT, n_tup, n_int, n_bl, n_non, n_str, isi_ii, isi_ib, isi_tt, isi_itl, isi_btl, isi_ttl, isi_tl, isi_bb, u_bl, u_int, u_non, u_tup, g_name, g_tup, g_nil, g_cons, o_ret, o_nx, i_seq, List.set_cons_zero, List.set_cons_succ, decide_eq_true_eq, Bool.not_eq_true', decide_eq_false_iff_not, evP, Bool.false_eq_true, if_true, if_false, ite_true, ite_false, reduceIte, Bool.not_true, Bool.not_false, Option.some.injEq, q_pow10, Int.reduceToNat, Int.reducePow, Int.reduceAdd, Int.reduceSub, Int.reduceMul, Int.reduceNeg, Int.reduceLT, Int.reduceLE, Nat.reducePow, Nat.reduceLT, Nat.reduceLeDiff, Nat.reduceAdd, List.length_cons, List.length_nil, Int.neg_neg, Bool.true_and]
              by_cases c1 : i = js.length
              · have e2 : ((0 : Int) + (i : Int) = (js.length : Int)) = True := eq_true (by omega)
                simp only [e2, decide_true, ex, ev, M_bind, M_map, M_some, M_ite, t_eq, a_tup, al_eq, List.getElem?_cons_zero, List.getElem?_cons_succ, Option.bind_some, Option.map_some, q_add, q_sub, q_lt, q_le, q_gt, q_ge, q_eqI, q_neI, q_eqB, q_neB, q_isN, q_notN, isNon, q_ixT, q_ixR, atI_0, atI_1, atI_2, atI_3, atI_4, atI_5, atI_6, atI_7, q_slT, q_slR, q_revT, q_seqT, q_int, q_intB, q_max, q_min, q_abs, q_tupT, n_tup, n_int, n_bl, n_non, n_str, isi_ii, isi_ib, isi_tt, isi_itl, isi_btl, isi_ttl, isi_tl, isi_bb, u_bl, u_int, u_non, u_tup, g_name, g_tup, g_nil, g_cons, o_ret, o_nx, i_seq, List.set_cons_zero, List.set_cons_succ, decide_eq_true_eq, Bool.not_eq_true', decide_eq_false_iff_not, evP, Bool.false_eq_true, if_true, if_false, ite_true, ite_false, reduceIte, Bool.not_true, Bool.not_false, Option.some.injEq, q_pow10, Int.reduceToNat, Int.reducePow, Int.reduceAdd, Int.reduceSub, Int.reduceMul, Int.reduceNeg, Int.reduceLT, Int.reduceLE, Nat.reducePow, Nat.reduceLT, Nat.reduceLeDiff, Nat.reduceAdd, List.length_cons, List.length_nil, Int.neg_neg]
                rw [List.getElem?_eq_none (by omega)]
              · have e2 : ((0 : Int) + (i : Int) = (js.length : Int)) = False := eq_false (by omega)
                have hp2 : js[i]? = some js[i] := List.getElem?_eq_getElem (by omega)
                have a2 : atI (js.map fun j : Int × Int => D.tup [.int j.1, .int j.2]) (0 + (i : Int)) = some (.tup [.int (js[i]).1, .int (js[i]).2]) := by
                  rw [atI_lt (by omega) (by simp; omega), List.getElem?_map, show (0 + (i : Int)).toNat = i by omega, hp2]
                  rfl
                simp only [e2, decide_false, ex, ev, M_bind, M_map, M_some, M_ite, t_eq, a_tup, al_eq, List.getElem?_cons_zero, List.getElem?_cons_succ, Option.bind_some, Option.map_some, q_add, q_sub, q_lt, q_le, q_gt, q_ge, q_eqI, q_neI, q_eqB, q_neB, q_isN, q_notN, isNon, q_ixT, q_ixR, atI_0, atI_1, atI_2, atI_3, atI_4, atI_5, atI_6, atI_7, q_slT, q_slR, q_revT, q_seqT, q_int, q_intB, q_max, q_min, q_abs, q_tupT, n_tup, n_int, n_bl, n_non, n_str, isi_ii, isi_ib, isi_tt, isi_itl, isi_btl, isi_ttl, isi_tl, isi_bb, u_bl, u_int, u_non, u_tup, g_name, g_tup, g_nil, g_cons, o_ret, o_nx, i_seq, List.set_cons_zero, List.set_cons_succ, decide_eq_true_eq, Bool.not_eq_true', decide_eq_false_iff_not, evP, Bool.false_eq_true, if_true, if_false, ite_true, ite_false, reduceIte, Bool.not_true, Bool.not_false, Option.some.injEq, q_pow10, Int.reduceToNat, Int.reducePow, Int.reduceAdd, Int.reduceSub, Int.reduceMul, Int.reduceNeg, Int.reduceLT, Int.reduceLE, Nat.reducePow, Nat.reduceLT, Nat.reduceLeDiff, Nat.reduceAdd, List.length_cons, List.length_nil, Int.neg_neg, a2]
                rw [hp2]
            · simp only [c2, decide_false, ex, ev, M_bind, M_map, M_some, M_ite, t_eq, a_tup, al_eq, List.getElem?_cons_zero, List.getElem?_cons_succ, Option.bind_some, Option.map_some, q_add, q_sub, q_lt, q_le, q_gt, q_ge, q_eqI, q_neI, q_eqB, q_neB, q_isN, q_notN, isNon, q_ixT, q_ixR, atI_0, atI_1, atI_2, atI_3, atI_4, atI_5, atI_6, atI_7, q_slT, q_slR, q_revT, q_seqT, q_int, q_intB, q_max, q_min, q_abs, q_tupT, n_tup, n_int, n_bl, n_non, n_str, isi_ii, isi_ib, isi_tt, isi_itl, isi_btl, isi_ttl, isi_tl, isi_bb, u_bl, u_int, u_non, u_tup, g_name, g_tup, g_nil, g_cons, o_ret, o_nx, i_seq, List.set_cons_zero, List.set_cons_succ, decide_eq_true_eq, Bool.not_eq_true', decide_eq_false_iff_not, evP, Bool.false_eq_true, if_true, if_false, ite_true, ite_false, reduceIte, Bool.not_true, Bool.not_false, Option.some.injEq, q_pow10, Int.reduceToNat, Int.reducePow, Int.reduceAdd, Int.reduceSub, Int.reduceMul, Int.reduceNeg, Int.reduceLT, Int.reduceLE, Nat.reducePow, Nat.reduceLT, Nat.reduceLeDiff, Nat.reduceAdd, List.length_cons, List.length_nil, Int.neg_neg, Bool.false_and]
        rintro _ rfl
        rw [List.range_succ, List.filterMap_append]
        have hk : (List.filterMap (hourK off js r) [i]) = if inK js i m = true then [m] else [] := by
          simp only [List.filterMap_cons, List.filterMap_nil, hourK, hm]
          cases inK js i m <;> simp
        rw [hk]
        cases inK js i m with
        | false =>
          simp only [Bool.false_eq_true, if_false, List.append_nil, ex, ev, M_bind, M_map, M_some, M_ite, t_eq, a_tup, al_eq, List.getElem?_cons_zero, List.getElem?_cons_succ, Option.bind_some, Option.map_some, q_add, q_sub, q_lt, q_le, q_gt, q_ge, q_eqI, q_neI, q_eqB, q_neB, q_isN, q_notN, isNon, q_ixT, q_ixR, atI_0, atI_1, atI_2, atI_3, atI_4, atI_5, atI_6, atI_7, q_slT, q_slR, q_revT, q_seqT, q_int, q_intB, q_max, q_min, q_abs, q_tupT, n_tup, n_int, n_bl, n_non, n_str, isi_ii, isi_ib, isi_tt, isi_itl, isi_btl, isi_ttl, isi_tl, isi_bb, u_bl, u_int, u_non, u_tup, g_name, g_tup, g_nil, g_cons, o_ret, o_nx, i_seq, List.set_cons_zero, List.set_cons_succ, decide_eq_true_eq, Bool.not_eq_true', decide_eq_false_iff_not, evP, Bool.false_eq_true, if_true, if_false, ite_true, ite_false, reduceIte, Bool.not_true, Bool.not_false, Option.some.injEq, q_pow10, Int.reduceToNat, Int.reducePow, Int.reduceAdd, Int.reduceSub, Int.reduceMul, Int.reduceNeg, Int.reduceLT, Int.reduceLE, Nat.reducePow, Nat.reduceLT, Nat.reduceLeDiff, Nat.reduceAdd, List.length_cons, List.length_nil, Int.neg_neg]
          exact ⟨trivial, g, l, trivial⟩
        | true =>
          simp only [if_true, ex, ev, M_bind, M_map, M_some, M_ite, t_eq, a_tup, al_eq, List.getElem?_cons_zero, List.getElem?_cons_succ, Option.bind_some, Option.map_some, q_add, q_sub, q_lt, q_le, q_gt, q_ge, q_eqI, q_neI, q_eqB, q_neB, q_isN, q_notN, isNon, q_ixT, q_ixR, atI_0, atI_1, atI_2, atI_3, atI_4, atI_5, atI_6, atI_7, q_slT, q_slR, q_revT, q_seqT, q_int, q_intB, q_max, q_min, q_abs, q_tupT, n_tup, n_int, n_bl, n_non, n_str, isi_ii, isi_ib, isi_tt, isi_itl, isi_btl, isi_ttl, isi_tl, isi_bb, u_bl, u_int, u_non, u_tup, g_name, g_tup, g_nil, g_cons, o_ret, o_nx, i_seq, List.set_cons_zero, List.set_cons_succ, decide_eq_true_eq, Bool.not_eq_true', decide_eq_false_iff_not, evP, Bool.false_eq_true, if_true, if_false, ite_true, ite_false, reduceIte, Bool.not_true, Bool.not_false, Option.some.injEq, q_pow10, Int.reduceToNat, Int.reducePow, Int.reduceAdd, Int.reduceSub, Int.reduceMul, Int.reduceNeg, Int.reduceLT, Int.reduceLE, Nat.reducePow, Nat.reduceLT, Nat.reduceLeDiff, Nat.reduceAdd, List.length_cons, List.length_nil, Int.neg_neg, q_isL g]
          have hz : ((List.range i).filterMap (hourK off js r)).length ≤ i := Nat.le_trans (List.length_filterMap_le _ _) (by simp)
          rw [q_app g (by rw [List.length_map]; omega)]
          simp only [M_some]
          refine ⟨trivial, ?_, Lq.set l (Nat.le_refl _), trivial⟩
          rw [List.getElem?_set_self (lt_of_get g), List.map_append]
          rfl
      rintro _ S2 ⟨g2, l2, rfl⟩
      refine ite_M ?_
      simp only [ex, ev, M_bind, M_map, M_some, M_ite, t_eq, a_tup, al_eq, List.getElem?_cons_zero, List.getElem?_cons_succ, Option.bind_some, Option.map_some, q_add, q_sub, q_lt, q_le, q_gt, q_ge, q_eqI, q_neI, q_eqB, q_neB, q_isN, q_notN, isNon, q_ixT, q_ixR, atI_0, atI_1, atI_2, atI_3, atI_4, atI_5, atI_6, atI_7, q_slT, q_slR, q_revT, q_seqT, q_int, q_intB, q_max, q_min, q_abs, q_tupT, n_tup, n_int, n_bl, n_non, n_str, isi_ii, isi_ib, isi_tt, isi_itl, isi_btl, isi_ttl, isi_tl, isi_bb, u_bl, u_int, u_non, u_tup, g_name, g_tup, g_nil, g_cons, o_ret, o_nx, i_seq, List.set_cons_zero, List.set_cons_succ, decide_eq_true_eq, Bool.not_eq_true', decide_eq_false_iff_not, evP, Bool.false_eq_true, if_true, if_false, ite_true, ite_false, reduceIte, Bool.not_true, Bool.not_false, Option.some.injEq, q_pow10, Int.reduceToNat, Int.reducePow, Int.reduceAdd, Int.reduceSub, Int.reduceMul, Int.reduceNeg, Int.reduceLT, Int.reduceLE, Nat.reducePow, Nat.reduceLT, Nat.reduceLeDiff, Nat.reduceAdd, List.length_cons, List.length_nil, Int.neg_neg, q_len q_seqT, List.length_map]
      have still : items .range1 [D.int ((js.length : Int) + 1)] S2 = some ((List.range ((js.length : Int) + 1).toNat).map fun (q : Nat) => .int (0 + (q : Int))) := i_rng (by omega) (by omega)
      by_cases c : (0 : Int) + (i : Int) < (js.length : Int)
      · have hp2 : js[i]? = some js[i] := List.getElem?_eq_getElem (by omega)
        have a2 : atI (js.map jumpD) (0 + (i : Int)) = some (jumpD js[i]) := by
          rw [atI_lt (by omega) (by simp; omega), List.getElem?_map, show (0 + (i : Int)).toNat = i by omega, hp2]
          rfl
        simp only [c, decide_true, if_true, ex, ev, M_bind, M_map, M_some, M_ite, t_eq, a_tup, al_eq, List.getElem?_cons_zero, List.getElem?_cons_succ, Option.bind_some, Option.map_some, q_add, q_sub, q_lt, q_le, q_gt, q_ge, q_eqI, q_neI, q_eqB, q_neB, q_isN, q_notN, isNon, q_ixT, q_ixR, atI_0, atI_1, atI_2, atI_3, atI_4, atI_5, atI_6, atI_7, q_slT, q_slR, q_revT, q_seqT, q_int, q_intB, q_max, q_min, q_abs, q_tupT, n_tup, n_int, n_bl, n_non, n_str, isi_ii, isi_ib, isi_tt, isi_itl, isi_btl, isi_ttl, isi_tl, isi_bb, u_bl, u_int, u_non, u_tup, g_name, g_tup, g_nil, g_cons, o_ret, o_nx, i_seq, List.set_cons_zero, List.set_cons_succ, decide_eq_true_eq, Bool.not_eq_true', decide_eq_false_iff_not, evP, Bool.false_eq_true, if_true, if_false, ite_true, ite_false, reduceIte, Bool.not_true, Bool.not_false, Option.some.injEq, q_pow10, Int.reduceToNat, Int.reducePow, Int.reduceAdd, Int.reduceSub, Int.reduceMul, Int.reduceNeg, Int.reduceLT, Int.reduceLE, Nat.reducePow, Nat.reduceLT, Nat.reduceLeDiff, Nat.reduceAdd, List.length_cons, List.length_nil, Int.neg_neg, a2]
        rw [show jumpD js[i] = .tup [.int (js[i]).1, .int (js[i]).2] from rfl]
        simp only [ex, ev, M_bind, M_map, M_some, M_ite, t_eq, a_tup, al_eq, List.getElem?_cons_zero, List.getElem?_cons_succ, Option.bind_some, Option.map_some, q_add, q_sub, q_lt, q_le, q_gt, q_ge, q_eqI, q_neI, q_eqB, q_neB, q_isN, q_notN, isNon, q_ixT, q_ixR, atI_0, atI_1, atI_2, atI_3, atI_4, atI_5, atI_6, atI_7, q_slT, q_slR, q_revT, q_seqT, q_int, q_intB, q_max, q_min, q_abs, q_tupT, n_tup, n_int, n_bl, n_non, n_str, isi_ii, isi_ib, isi_tt, isi_itl, isi_btl, isi_ttl, isi_tl, isi_bb, u_bl, u_int, u_non, u_tup, g_name, g_tup, g_nil, g_cons, o_ret, o_nx, i_seq, List.set_cons_zero, List.set_cons_succ, decide_eq_true_eq, Bool.not_eq_true', decide_eq_false_iff_not, evP, Bool.false_eq_true, if_true, if_false, ite_true, ite_false, reduceIte, Bool.not_true, Bool.not_false, Option.some.injEq, q_pow10, Int.reduceToNat, Int.reducePow, Int.reduceAdd, Int.reduceSub, Int.reduceMul, Int.reduceNeg, Int.reduceLT, Int.reduceLE, Nat.reducePow, Nat.reduceLT, Nat.reduceLeDiff, Nat.reduceAdd, List.length_cons, List.length_nil, Int.neg_neg]
        refine ⟨still, some (.int (0 + (i : Int))), some (.int m), g2, l2, ?_⟩
        rw [if_pos (by omega), shK_succ hp2]
      · simp only [c, decide_false, Bool.false_eq_true, if_false, ex, ev, M_bind, M_map, M_some, M_ite, t_eq, a_tup, al_eq, List.getElem?_cons_zero, List.getElem?_cons_succ, Option.bind_some, Option.map_some, q_add, q_sub, q_lt, q_le, q_gt, q_ge, q_eqI, q_neI, q_eqB, q_neB, q_isN, q_notN, isNon, q_ixT, q_ixR, atI_0, atI_1, atI_2, atI_3, atI_4, atI_5, atI_6, atI_7, q_slT, q_slR, q_revT, q_seqT, q_int, q_intB, q_max, q_min, q_abs, q_tupT, n_tup, n_int, n_bl, n_non, n_str, isi_ii, isi_ib, isi_tt, isi_itl, isi_btl, isi_ttl, isi_tl, isi_bb, u_bl, u_int, u_non, u_tup, g_name, g_tup, g_nil, g_cons, o_ret, o_nx, i_seq, List.set_cons_zero, List.set_cons_succ, decide_eq_true_eq, Bool.not_eq_true', decide_eq_false_iff_not, evP, Bool.false_eq_true, if_true, if_false, ite_true, ite_false, reduceIte, Bool.not_true, Bool.not_false, Option.some.injEq, q_pow10, Int.reduceToNat, Int.reducePow, Int.reduceAdd, Int.reduceSub, Int.reduceMul, Int.reduceNeg, Int.reduceLT, Int.reduceLE, Nat.reducePow, Nat.reduceLT, Nat.reduceLeDiff, Nat.reduceAdd, List.length_cons, List.length_nil, Int.neg_neg]
        refine ⟨still, some (.int (0 + (i : Int))), some (.int m), g2, l2, ?_⟩
        have e : i = js.length := by omega
        rw [if_neg (by omega), e]
    · rintro env S1 ⟨v5, v6, g, l, rfl⟩
      refine ⟨rfl, _, _, _, ?_, l, rfl⟩
      rw [g]
      unfold hoursF
      simp
  rintro _ S1 ⟨v4, v5, v6, g, l, rfl⟩
  simp only [ex, ev, M_bind, M_map, M_some, M_ite, t_eq, a_tup, al_eq, List.getElem?_cons_zero, List.getElem?_cons_succ, Option.bind_some, Option.map_some, q_add, q_sub, q_lt, q_le, q_gt, q_ge, q_eqI, q_neI, q_eqB, q_neB, q_isN, q_notN, isNon, q_ixT, q_ixR, atI_0, atI_1, atI_2, atI_3, atI_4, atI_5, atI_6, atI_7, q_slT, q_slR, q_revT, q_seqT, q_int, q_intB, q_max, q_min, q_abs, q_tupT, n_tup, n_int, n_bl, n_non, n_str, isi_ii, isi_ib, isi_tt, isi_itl, isi_btl, isi_ttl, isi_tl, isi_bb, u_bl, u_int, u_non, u_tup, g_name, g_tup, g_nil, g_cons, o_ret, o_nx, i_seq, List.set_cons_zero, List.set_cons_succ, decide_eq_true_eq, Bool.not_eq_true', decide_eq_false_iff_not, evP, Bool.false_eq_true, if_true, if_false, ite_true, ite_false, reduceIte, Bool.not_true, Bool.not_false, Option.some.injEq, q_pow10, Int.reduceToNat, Int.reducePow, Int.reduceAdd, Int.reduceSub, Int.reduceMul, Int.reduceNeg, Int.reduceLT, Int.reduceLE, Nat.reducePow, Nat.reduceLT, Nat.reduceLeDiff, Nat.reduceAdd, List.length_cons, List.length_nil, Int.neg_neg]
  exact hq _ _ (Nat.le_refl _) g l
/-- two values are the same to a depth -/
def Sa : Nat → Hd → D → D → Prop
  | 0, _, _, _ => False
  | n + 1, S, .tup xs, .tup ys => xs.length = ys.length ∧ xs.length ≤ 1000 ∧ ∀ (i : Nat) (x y : D), xs[i]? = some x → ys[i]? = some y → Sa n S x y
  | n + 1, S, .ref a, .ref b => ∃ xs ys, S[a]? = some (.lst xs) ∧ S[b]? = some (.lst ys) ∧ xs.length = ys.length ∧ xs.length ≤ 1000 ∧ ∀ (i : Nat) (x y : D), xs[i]? = some x → ys[i]? = some y → Sa n S x y
  | _ + 1, _, .int i, .int j => i = j
  | _ + 1, _, .bl i, .bl j => i = j
  | _ + 1, _, .str i, .str j => i = j
  | _ + 1, _, .non, .non => True
  | _ + 1, _, _, _ => False
theorem Sa.mono {S S' : Hd} (l : Lq S S') : ∀ {n : Nat} {x y : D}, Sa n S x y → Sa n S' x y
  | 0, _, _, h => h.elim
  | n + 1, x, y, h => by
    cases x <;> cases y <;> simp only [Sa] at h ⊢ <;> try exact h
    · obtain ⟨xs, ys, a, b, c, d, e⟩ := h
      exact ⟨xs, ys, l _ _ a, l _ _ b, c, d, fun i x y a b => Sa.mono l (e i x y a b)⟩
    · exact ⟨h.1, h.2.1, fun i x y a b => Sa.mono l (h.2.2 i x y a b)⟩
theorem isi_sb {i : Str} {S : Hd} : bltD .isi [.str i, .ty "bool"] S = some (.bl false, S) := by
  rw [q_isi (c := "bool") (n := "str") (by decide) rfl]
  rfl
theorem isi_si {i : Str} {S : Hd} : bltD .isi [.str i, .ty "int"] S = some (.bl false, S) := by
  rw [q_isi (c := "int") (n := "str") (by decide) rfl]
  rfl
theorem isi_ss {i : Str} {S : Hd} : bltD .isi [.str i, .ty "str"] S = some (.bl true, S) := by
  rw [q_isi (c := "str") (n := "str") (by decide) rfl]
  rfl
theorem isi_stl {i : Str} {S : Hd} : bltD .isi [.str i, .tup [.ty "tuple", .ty "list"]] S = some (.bl false, S) := by
  rw [q_isiT (cs := [.ty "tuple", .ty "list"]) (ts := ["tuple", "list"]) (n := "str") (by simp only [tysOf, show plainTy "tuple" = true by decide, show plainTy "list" = true by decide, if_true, Option.map_some]) rfl]
  rfl
theorem isi_ntl {S : Hd} : bltD .isi [.non, .tup [.ty "tuple", .ty "list"]] S = some (.bl false, S) := by
  rw [q_isiT (cs := [.ty "tuple", .ty "list"]) (ts := ["tuple", "list"]) (n := "NoneType") (by simp only [tysOf, show plainTy "tuple" = true by decide, show plainTy "list" = true by decide, if_true, Option.map_some]) rfl]
  rfl
theorem same_ok : ∀ {n m : Nat} {S : Hd} {a b : D}, Sa n S a b → n ≤ m → Pu (run T (m + 1) 25 [a, b] S) (.bl true) S
  | 0, _, _, _, _, h, _ => h.elim
  | n + 1, 0, _, _, _, _, hm => absurd hm (by omega)
  | n + 1, m + 1, S, a, b, h, hm => by
    have hm2 := most_big
    refine Pu.run T_same rfl ?_
    show M (ex (run T (m + 1)) b_same [some a, some b, none] S) _
    unfold b_same
    have elts : ∀ (v w : D) (xs ys : List D), (∀ S2, Lq S S2 → seqOf S2 v = some xs) → (∀ S2, Lq S S2 → seqOf S2 w = some ys) → xs.length = ys.length → xs.length ≤ 1000 → (∀ (i : Nat) (x y : D), xs[i]? = some x → ys[i]? = some y → Sa n S x y) →
        M (ex (run T (m + 1)) (.ret (.and_ (.cmp .eq (.blt .len (.cons (.var 0) (.nil))) (.blt .len (.cons (.var 1) (.nil)))) (.blt .all_ (.cons (.lc .range1 (.cons (.blt .len (.cons (.var 1) (.nil))) (.nil)) (.name 2) (.c (.bl true)) (.call 25 (.cons (.ix (.var 0) (.var 2)) (.cons (.ix (.var 1) (.var 2)) (.nil)))) [2]) (.nil))))) [some v, some w, none] S) fun r => ∃ S', r = (.ret (.bl true), [some v, some w, none], S') ∧ Lq S S' := by
      intro v w xs ys h1 h2 h3 h4 h5
      simp only [ex, M_map]
      have hl : ((xs.length : Int) = (ys.length : Int)) = True := eq_true (by omega)
      refine M_and (M.imp (P := fun x => x = (.bl true, S)) (by simp only [ex, ev, M_bind, M_map, M_some, M_ite, t_eq, a_tup, al_eq, List.getElem?_cons_zero, List.getElem?_cons_succ, Option.bind_some, Option.map_some, q_add, q_sub, q_lt, q_le, q_gt, q_ge, q_eqI, q_neI, q_eqB, q_neB, q_isN, q_notN, isNon, q_ixT, q_ixR, atI_0, atI_1, atI_2, atI_3, atI_4, atI_5, atI_6, atI_7, q_slT, q_slR, q_revT, q_seqT, q_int, q_intB, q_max, q_min, q_abs, q_tupT, n_tup, n_int, n_bl, n_non, n_str, isi_ii, isi_ib, isi_tt, isi_itl, isi_btl, isi_ttl, isi_tl, isi_bb, u_bl, u_int, u_non, u_tup, g_name, g_tup, g_nil, g_cons, o_ret, o_nx, i_seq, List.set_cons_zero, List.set_cons_succ, decide_eq_true_eq, Bool.not_eq_true', decide_eq_false_iff_not, evP, Bool.false_eq_true, if_true, if_false, ite_true, ite_false, reduceIte, Bool.not_true, Bool.not_false, Option.some.injEq, q_pow10, Int.reduceToNat, Int.reducePow, Int.reduceAdd, Int.reduceSub, Int.reduceMul, Int.reduceNeg, Int.reduceLT, Int.reduceLE, Nat.reducePow, Nat.reduceLT, Nat.reduceLeDiff, Nat.reduceAdd, List.length_cons, List.length_nil, Int.neg_neg, q_len (h1 S (Lq.refl _)), q_len (h2 S (Lq.refl _)), hl, decide_true]) ?_)
      rintro _ rfl
      refine ⟨rfl, ?_⟩
      refine M_blt1 ?_
      refine M_lcx (List.range ys.length) (fun (i : Nat) => .int (0 + (i : Int))) (fun _ => true) (fun _ => .bl true) (by decide) ?_ (by simp; omega) (fun x S2 hx l => ?_) fun j S2 hj hg l => ?_
      · simp only [ex, ev, M_bind, M_map, M_some, M_ite, t_eq, a_tup, al_eq, List.getElem?_cons_zero, List.getElem?_cons_succ, Option.bind_some, Option.map_some, q_add, q_sub, q_lt, q_le, q_gt, q_ge, q_eqI, q_neI, q_eqB, q_neB, q_isN, q_notN, isNon, q_ixT, q_ixR, atI_0, atI_1, atI_2, atI_3, atI_4, atI_5, atI_6, atI_7, q_slT, q_slR, q_revT, q_seqT, q_int, q_intB, q_max, q_min, q_abs, q_tupT, n_tup, n_int, n_bl, n_non, n_str, isi_ii, isi_ib, isi_tt, isi_itl, isi_btl, isi_ttl, isi_tl, isi_bb, u_bl, u_int, u_non, u_tup, g_name, g_tup, g_nil, g_cons, o_ret, o_nx, i_seq, List.set_cons_zero, List.set_cons_succ, decide_eq_true_eq, Bool.not_eq_true', decide_eq_false_iff_not, evP, Bool.false_eq_true, if_true, if_false, ite_true, ite_false, reduceIte, Bool.not_true, Bool.not_false, Option.some.injEq, q_pow10, Int.reduceToNat, Int.reducePow, Int.reduceAdd, Int.reduceSub, Int.reduceMul, Int.reduceNeg, Int.reduceLT, Int.reduceLE, Nat.reducePow, Nat.reduceLT, Nat.reduceLeDiff, Nat.reduceAdd, List.length_cons, List.length_nil, Int.neg_neg, q_len (h2 S (Lq.refl _))]
        exact ⟨_, _, rfl, Lq.refl _, fun S3 _ => i_rng (by omega) (by omega)⟩
      · refine ⟨_, rfl, ?_⟩
        have hx : x < ys.length := by simpa using hx
        have ex : xs[x]? = some xs[x] := List.getElem?_eq_getElem (by omega)
        have ey : ys[x]? = some ys[x] := List.getElem?_eq_getElem hx
        have ixv : ∀ (u : D) (zs : List D), seqOf S2 u = some zs → ixD u (.int (0 + (x : Int))) S2 = (atI zs (0 + (x : Int))).map fun d => (d, S2) := fun u zs e => by
          simp only [ixD, e, Option.bind_some]
        have ax : atI xs (0 + (x : Int)) = some xs[x] := by
          rw [atI_lt (by omega) (by omega), show (0 + (x : Int)).toNat = x by omega, ex]
        have ay : atI ys (0 + (x : Int)) = some ys[x] := by
          rw [atI_lt (by omega) (by omega), show (0 + (x : Int)).toNat = x by omega, ey]
        simp only [wipeD, ex, ev, M_bind, M_map, M_some, M_ite, t_eq, a_tup, al_eq, List.getElem?_cons_zero, List.getElem?_cons_succ, Option.bind_some, Option.map_some, q_add, q_sub, q_lt, q_le, q_gt, q_ge, q_eqI, q_neI, q_eqB, q_neB, q_isN, q_notN, isNon, q_ixT, q_ixR, atI_0, atI_1, atI_2, atI_3, atI_4, atI_5, atI_6, atI_7, q_slT, q_slR, q_revT, q_seqT, q_int, q_intB, q_max, q_min, q_abs, q_tupT, n_tup, n_int, n_bl, n_non, n_str, isi_ii, isi_ib, isi_tt, isi_itl, isi_btl, isi_ttl, isi_tl, isi_bb, u_bl, u_int, u_non, u_tup, g_name, g_tup, g_nil, g_cons, o_ret, o_nx, i_seq, List.set_cons_zero, List.set_cons_succ, decide_eq_true_eq, Bool.not_eq_true', decide_eq_false_iff_not, evP, Bool.false_eq_true, if_true, if_false, ite_true, ite_false, reduceIte, Bool.not_true, Bool.not_false, Option.some.injEq, q_pow10, Int.reduceToNat, Int.reducePow, Int.reduceAdd, Int.reduceSub, Int.reduceMul, Int.reduceNeg, Int.reduceLT, Int.reduceLE, Nat.reducePow, Nat.reduceLT, Nat.reduceLeDiff, Nat.reduceAdd, List.length_cons, List.length_nil, Int.neg_neg, ixv v xs (h1 S2 l), ixv w ys (h2 S2 l), ax, ay]
        exact ⟨trivial, Lq.refl _, fun _ => same_ok ((h5 x _ _ ex ey).mono l) (by omega)⟩
      · have hg : S2[j]? = some (.lst ((List.replicate ys.length true).map .bl)) := by
          rw [hg, filt_true]
          congr 2
          rw [List.map_replicate]
          apply List.ext_getElem?
          intro i
          simp only [List.getElem?_map, List.getElem?_replicate]
          by_cases h : i < ys.length
          · rw [List.getElem?_range h, if_pos h]
            rfl
          · rw [List.getElem?_eq_none (by simpa using h), if_neg h]
            rfl
        simp only [q_all hg, ex, ev, M_bind, M_map, M_some, M_ite, t_eq, a_tup, al_eq, List.getElem?_cons_zero, List.getElem?_cons_succ, Option.bind_some, Option.map_some, q_add, q_sub, q_lt, q_le, q_gt, q_ge, q_eqI, q_neI, q_eqB, q_neB, q_isN, q_notN, isNon, q_ixT, q_ixR, atI_0, atI_1, atI_2, atI_3, atI_4, atI_5, atI_6, atI_7, q_slT, q_slR, q_revT, q_seqT, q_int, q_intB, q_max, q_min, q_abs, q_tupT, n_tup, n_int, n_bl, n_non, n_str, isi_ii, isi_ib, isi_tt, isi_itl, isi_btl, isi_ttl, isi_tl, isi_bb, u_bl, u_int, u_non, u_tup, g_name, g_tup, g_nil, g_cons, o_ret, o_nx, i_seq, List.set_cons_zero, List.set_cons_succ, decide_eq_true_eq, Bool.not_eq_true', decide_eq_false_iff_not, evP, Bool.false_eq_true, if_true, if_false, ite_true, ite_false, reduceIte, Bool.not_true, Bool.not_false, Option.some.injEq, q_pow10, Int.reduceToNat, Int.reducePow, Int.reduceAdd, Int.reduceSub, Int.reduceMul, Int.reduceNeg, Int.reduceLT, Int.reduceLE, Nat.reducePow, Nat.reduceLT, Nat.reduceLeDiff, Nat.reduceAdd, List.length_cons, List.length_nil, Int.neg_neg]
        exact ⟨S2, by simp, l⟩
    cases a <;> cases b <;> simp only [Sa] at h
    case int.int i j =>
      subst h
      simp only [ex, ev, M_bind, M_map, M_some, M_ite, t_eq, a_tup, al_eq, List.getElem?_cons_zero, List.getElem?_cons_succ, Option.bind_some, Option.map_some, q_add, q_sub, q_lt, q_le, q_gt, q_ge, q_eqI, q_neI, q_eqB, q_neB, q_isN, q_notN, isNon, q_ixT, q_ixR, atI_0, atI_1, atI_2, atI_3, atI_4, atI_5, atI_6, atI_7, q_slT, q_slR, q_revT, q_seqT, q_int, q_intB, q_max, q_min, q_abs, q_tupT, n_tup, n_int, n_bl, n_non, n_str, isi_ii, isi_ib, isi_tt, isi_itl, isi_btl, isi_ttl, isi_tl, isi_bb, u_bl, u_int, u_non, u_tup, g_name, g_tup, g_nil, g_cons, o_ret, o_nx, i_seq, List.set_cons_zero, List.set_cons_succ, decide_eq_true_eq, Bool.not_eq_true', decide_eq_false_iff_not, evP, Bool.false_eq_true, if_true, if_false, ite_true, ite_false, reduceIte, Bool.not_true, Bool.not_false, Option.some.injEq, q_pow10, Int.reduceToNat, Int.reducePow, Int.reduceAdd, Int.reduceSub, Int.reduceMul, Int.reduceNeg, Int.reduceLT, Int.reduceLE, Nat.reducePow, Nat.reduceLT, Nat.reduceLeDiff, Nat.reduceAdd, List.length_cons, List.length_nil, Int.neg_neg, show (2 : Nat) ≤ most by decide]
      refine whole_ok.use fun S1 l1 => ?_
      simp only [ex, ev, M_bind, M_map, M_some, M_ite, t_eq, a_tup, al_eq, List.getElem?_cons_zero, List.getElem?_cons_succ, Option.bind_some, Option.map_some, q_add, q_sub, q_lt, q_le, q_gt, q_ge, q_eqI, q_neI, q_eqB, q_neB, q_isN, q_notN, isNon, q_ixT, q_ixR, atI_0, atI_1, atI_2, atI_3, atI_4, atI_5, atI_6, atI_7, q_slT, q_slR, q_revT, q_seqT, q_int, q_intB, q_max, q_min, q_abs, q_tupT, n_tup, n_int, n_bl, n_non, n_str, isi_ii, isi_ib, isi_tt, isi_itl, isi_btl, isi_ttl, isi_tl, isi_bb, u_bl, u_int, u_non, u_tup, g_name, g_tup, g_nil, g_cons, o_ret, o_nx, i_seq, List.set_cons_zero, List.set_cons_succ, decide_eq_true_eq, Bool.not_eq_true', decide_eq_false_iff_not, evP, Bool.false_eq_true, if_true, if_false, ite_true, ite_false, reduceIte, Bool.not_true, Bool.not_false, Option.some.injEq, q_pow10, Int.reduceToNat, Int.reducePow, Int.reduceAdd, Int.reduceSub, Int.reduceMul, Int.reduceNeg, Int.reduceLT, Int.reduceLE, Nat.reducePow, Nat.reduceLT, Nat.reduceLeDiff, Nat.reduceAdd, List.length_cons, List.length_nil, Int.neg_neg]
      exact ⟨by simp, l1⟩
    case bl.bl i j =>
      subst h
      simp only [ex, ev, M_bind, M_map, M_some, M_ite, t_eq, a_tup, al_eq, List.getElem?_cons_zero, List.getElem?_cons_succ, Option.bind_some, Option.map_some, q_add, q_sub, q_lt, q_le, q_gt, q_ge, q_eqI, q_neI, q_eqB, q_neB, q_isN, q_notN, isNon, q_ixT, q_ixR, atI_0, atI_1, atI_2, atI_3, atI_4, atI_5, atI_6, atI_7, q_slT, q_slR, q_revT, q_seqT, q_int, q_intB, q_max, q_min, q_abs, q_tupT, n_tup, n_int, n_bl, n_non, n_str, isi_ii, isi_ib, isi_tt, isi_itl, isi_btl, isi_ttl, isi_tl, isi_bb, u_bl, u_int, u_non, u_tup, g_name, g_tup, g_nil, g_cons, o_ret, o_nx, i_seq, List.set_cons_zero, List.set_cons_succ, decide_eq_true_eq, Bool.not_eq_true', decide_eq_false_iff_not, evP, Bool.false_eq_true, if_true, if_false, ite_true, ite_false, reduceIte, Bool.not_true, Bool.not_false, Option.some.injEq, q_pow10, Int.reduceToNat, Int.reducePow, Int.reduceAdd, Int.reduceSub, Int.reduceMul, Int.reduceNeg, Int.reduceLT, Int.reduceLE, Nat.reducePow, Nat.reduceLT, Nat.reduceLeDiff, Nat.reduceAdd, List.length_cons, List.length_nil, Int.neg_neg, show (2 : Nat) ≤ most by decide]
      exact ⟨by simp, Lq.refl _⟩
    case str.str i j =>
      subst h
      simp only [ex, ev, M_bind, M_map, M_some, M_ite, t_eq, a_tup, al_eq, List.getElem?_cons_zero, List.getElem?_cons_succ, Option.bind_some, Option.map_some, q_add, q_sub, q_lt, q_le, q_gt, q_ge, q_eqI, q_neI, q_eqB, q_neB, q_isN, q_notN, isNon, q_ixT, q_ixR, atI_0, atI_1, atI_2, atI_3, atI_4, atI_5, atI_6, atI_7, q_slT, q_slR, q_revT, q_seqT, q_int, q_intB, q_max, q_min, q_abs, q_tupT, n_tup, n_int, n_bl, n_non, n_str, isi_ii, isi_ib, isi_tt, isi_itl, isi_btl, isi_ttl, isi_tl, isi_bb, u_bl, u_int, u_non, u_tup, g_name, g_tup, g_nil, g_cons, o_ret, o_nx, i_seq, List.set_cons_zero, List.set_cons_succ, decide_eq_true_eq, Bool.not_eq_true', decide_eq_false_iff_not, evP, Bool.false_eq_true, if_true, if_false, ite_true, ite_false, reduceIte, Bool.not_true, Bool.not_false, Option.some.injEq, q_pow10, Int.reduceToNat, Int.reducePow, Int.reduceAdd, Int.reduceSub, Int.reduceMul, Int.reduceNeg, Int.reduceLT, Int.reduceLE, Nat.reducePow, Nat.reduceLT, Nat.reduceLeDiff, Nat.reduceAdd, List.length_cons, List.length_nil, Int.neg_neg, isi_stl, isi_sb, isi_si, isi_ss, q_eqS, show (2 : Nat) ≤ most by decide]
      exact ⟨by simp, Lq.refl _⟩
    case non.non =>
      simp only [ex, ev, M_bind, M_map, M_some, M_ite, t_eq, a_tup, al_eq, List.getElem?_cons_zero, List.getElem?_cons_succ, Option.bind_some, Option.map_some, q_add, q_sub, q_lt, q_le, q_gt, q_ge, q_eqI, q_neI, q_eqB, q_neB, q_isN, q_notN, isNon, q_ixT, q_ixR, atI_0, atI_1, atI_2, atI_3, atI_4, atI_5, atI_6, atI_7, q_slT, q_slR, q_revT, q_seqT, q_int, q_intB, q_max, q_min, q_abs, q_tupT, n_tup, n_int, n_bl, n_non, n_str, isi_ii, isi_ib, isi_tt, isi_itl, isi_btl, isi_ttl, isi_tl, isi_bb, u_bl, u_int, u_non, u_tup, g_name, g_tup, g_nil, g_cons, o_ret, o_nx, i_seq, List.set_cons_zero, List.set_cons_succ, decide_eq_true_eq, Bool.not_eq_true', decide_eq_false_iff_not, evP, Bool.false_eq_true, if_true, if_false, ite_true, ite_false, reduceIte, Bool.not_true, Bool.not_false, Option.some.injEq, q_pow10, Int.reduceToNat, Int.reducePow, Int.reduceAdd, Int.reduceSub, Int.reduceMul, Int.reduceNeg, Int.reduceLT, Int.reduceLE, Nat.reducePow, Nat.reduceLT, Nat.reduceLeDiff, Nat.reduceAdd, List.length_cons, List.length_nil, Int.neg_neg, isi_ntl, show (2 : Nat) ≤ most by decide]
      exact ⟨by simp, Lq.refl _⟩
    case tup.tup xs ys =>
      refine seq_Mx (ite_M ?_)
      simp only [ev, M_bind, M_map, M_some, M_ite, t_eq, a_tup, al_eq, List.getElem?_cons_zero, List.getElem?_cons_succ, Option.bind_some, Option.map_some, q_add, q_sub, q_lt, q_le, q_gt, q_ge, q_eqI, q_neI, q_eqB, q_neB, q_isN, q_notN, isNon, q_ixT, q_ixR, atI_0, atI_1, atI_2, atI_3, atI_4, atI_5, atI_6, atI_7, q_slT, q_slR, q_revT, q_seqT, q_int, q_intB, q_max, q_min, q_abs, q_tupT, n_tup, n_int, n_bl, n_non, n_str, isi_ii, isi_ib, isi_tt, isi_itl, isi_btl, isi_ttl, isi_tl, isi_bb, u_bl, u_int, u_non, u_tup, g_name, g_tup, g_nil, g_cons, o_ret, o_nx, i_seq, List.set_cons_zero, List.set_cons_succ, decide_eq_true_eq, Bool.not_eq_true', decide_eq_false_iff_not, evP, Bool.false_eq_true, if_true, if_false, ite_true, ite_false, reduceIte, Bool.not_true, Bool.not_false, Option.some.injEq, q_pow10, Int.reduceToNat, Int.reducePow, Int.reduceAdd, Int.reduceSub, Int.reduceMul, Int.reduceNeg, Int.reduceLT, Int.reduceLE, Nat.reducePow, Nat.reduceLT, Nat.reduceLeDiff, Nat.reduceAdd, List.length_cons, List.length_nil, Int.neg_neg, show (2 : Nat) ≤ most by decide]
      refine seq_Mx (ite_M ?_)
      simp only [ev, M_bind, M_map, M_some, M_ite, t_eq, a_tup, al_eq, List.getElem?_cons_zero, List.getElem?_cons_succ, Option.bind_some, Option.map_some, q_add, q_sub, q_lt, q_le, q_gt, q_ge, q_eqI, q_neI, q_eqB, q_neB, q_isN, q_notN, isNon, q_ixT, q_ixR, atI_0, atI_1, atI_2, atI_3, atI_4, atI_5, atI_6, atI_7, q_slT, q_slR, q_revT, q_seqT, q_int, q_intB, q_max, q_min, q_abs, q_tupT, n_tup, n_int, n_bl, n_non, n_str, isi_ii, isi_ib, isi_tt, isi_itl, isi_btl, isi_ttl, isi_tl, isi_bb, u_bl, u_int, u_non, u_tup, g_name, g_tup, g_nil, g_cons, o_ret, o_nx, i_seq, List.set_cons_zero, List.set_cons_succ, decide_eq_true_eq, Bool.not_eq_true', decide_eq_false_iff_not, evP, Bool.false_eq_true, if_true, if_false, ite_true, ite_false, reduceIte, Bool.not_true, Bool.not_false, Option.some.injEq, q_pow10, Int.reduceToNat, Int.reducePow, Int.reduceAdd, Int.reduceSub, Int.reduceMul, Int.reduceNeg, Int.reduceLT, Int.reduceLE, Nat.reducePow, Nat.reduceLT, Nat.reduceLeDiff, Nat.reduceAdd, List.length_cons, List.length_nil, Int.neg_neg, show (2 : Nat) ≤ most by decide]
      rw [show ∀ env, ex (run T (m + 1)) .skip env S = some (.nx, env, S) from fun _ => rfl]
      simp only [M_some]
      refine (elts (.tup xs) (.tup ys) xs ys (fun _ _ => rfl) (fun _ _ => rfl) h.1 h.2.1 h.2.2).imp ?_
      rintro _ ⟨S', rfl, l⟩
      simp only [ex, ev, M_bind, M_map, M_some, M_ite, t_eq, a_tup, al_eq, List.getElem?_cons_zero, List.getElem?_cons_succ, Option.bind_some, Option.map_some, q_add, q_sub, q_lt, q_le, q_gt, q_ge, q_eqI, q_neI, q_eqB, q_neB, q_isN, q_notN, isNon, q_ixT, q_ixR, atI_0, atI_1, atI_2, atI_3, atI_4, atI_5, atI_6, atI_7, q_slT, q_slR, q_revT, q_seqT, q_int, q_intB, q_max, q_min, q_abs, q_tupT, n_tup, n_int, n_bl, n_non, n_str, isi_ii, isi_ib, isi_tt, isi_itl, isi_btl, isi_ttl, isi_tl, isi_bb, u_bl, u_int, u_non, u_tup, g_name, g_tup, g_nil, g_cons, o_ret, o_nx, i_seq, List.set_cons_zero, List.set_cons_succ, decide_eq_true_eq, Bool.not_eq_true', decide_eq_false_iff_not, evP, Bool.false_eq_true, if_true, if_false, ite_true, ite_false, reduceIte, Bool.not_true, Bool.not_false, Option.some.injEq, q_pow10, Int.reduceToNat, Int.reducePow, Int.reduceAdd, Int.reduceSub, Int.reduceMul, Int.reduceNeg, Int.reduceLT, Int.reduceLE, Nat.reducePow, Nat.reduceLT, Nat.reduceLeDiff, Nat.reduceAdd, List.length_cons, List.length_nil, Int.neg_neg]
      exact ⟨trivial, l⟩
    case ref.ref p q =>
      obtain ⟨xs, ys, g1, g2, h1, h2, h3⟩ := h
      refine seq_Mx (ite_M ?_)
      simp only [ev, M_bind, M_map, M_some, M_ite, t_eq, a_tup, al_eq, List.getElem?_cons_zero, List.getElem?_cons_succ, Option.bind_some, Option.map_some, q_add, q_sub, q_lt, q_le, q_gt, q_ge, q_eqI, q_neI, q_eqB, q_neB, q_isN, q_notN, isNon, q_ixT, q_ixR, atI_0, atI_1, atI_2, atI_3, atI_4, atI_5, atI_6, atI_7, q_slT, q_slR, q_revT, q_seqT, q_int, q_intB, q_max, q_min, q_abs, q_tupT, n_tup, n_int, n_bl, n_non, n_str, isi_ii, isi_ib, isi_tt, isi_itl, isi_btl, isi_ttl, isi_tl, isi_bb, u_bl, u_int, u_non, u_tup, g_name, g_tup, g_nil, g_cons, o_ret, o_nx, i_seq, List.set_cons_zero, List.set_cons_succ, decide_eq_true_eq, Bool.not_eq_true', decide_eq_false_iff_not, evP, Bool.false_eq_true, if_true, if_false, ite_true, ite_false, reduceIte, Bool.not_true, Bool.not_false, Option.some.injEq, q_pow10, Int.reduceToNat, Int.reducePow, Int.reduceAdd, Int.reduceSub, Int.reduceMul, Int.reduceNeg, Int.reduceLT, Int.reduceLE, Nat.reducePow, Nat.reduceLT, Nat.reduceLeDiff, Nat.reduceAdd, List.length_cons, List.length_nil, Int.neg_neg, isi_ltl g1, isi_ltl g2, isi_ll g1, isi_ll g2, show (2 : Nat) ≤ most by decide]
      refine seq_Mx (ite_M ?_)
      simp only [ev, M_bind, M_map, M_some, M_ite, t_eq, a_tup, al_eq, List.getElem?_cons_zero, List.getElem?_cons_succ, Option.bind_some, Option.map_some, q_add, q_sub, q_lt, q_le, q_gt, q_ge, q_eqI, q_neI, q_eqB, q_neB, q_isN, q_notN, isNon, q_ixT, q_ixR, atI_0, atI_1, atI_2, atI_3, atI_4, atI_5, atI_6, atI_7, q_slT, q_slR, q_revT, q_seqT, q_int, q_intB, q_max, q_min, q_abs, q_tupT, n_tup, n_int, n_bl, n_non, n_str, isi_ii, isi_ib, isi_tt, isi_itl, isi_btl, isi_ttl, isi_tl, isi_bb, u_bl, u_int, u_non, u_tup, g_name, g_tup, g_nil, g_cons, o_ret, o_nx, i_seq, List.set_cons_zero, List.set_cons_succ, decide_eq_true_eq, Bool.not_eq_true', decide_eq_false_iff_not, evP, Bool.false_eq_true, if_true, if_false, ite_true, ite_false, reduceIte, Bool.not_true, Bool.not_false, Option.some.injEq, q_pow10, Int.reduceToNat, Int.reducePow, Int.reduceAdd, Int.reduceSub, Int.reduceMul, Int.reduceNeg, Int.reduceLT, Int.reduceLE, Nat.reducePow, Nat.reduceLT, Nat.reduceLeDiff, Nat.reduceAdd, List.length_cons, List.length_nil, Int.neg_neg, isi_ltl g1, isi_ltl g2, isi_ll g1, isi_ll g2, show (2 : Nat) ≤ most by decide]
      rw [show ∀ env, ex (run T (m + 1)) .skip env S = some (.nx, env, S) from fun _ => rfl]
      simp only [M_some]
      refine (elts (.ref p) (.ref q) xs ys (fun S2 l => q_seqL (l _ _ g1)) (fun S2 l => q_seqL (l _ _ g2)) h1 h2 h3).imp ?_
      rintro _ ⟨S', rfl, l⟩
      simp only [ex, ev, M_bind, M_map, M_some, M_ite, t_eq, a_tup, al_eq, List.getElem?_cons_zero, List.getElem?_cons_succ, Option.bind_some, Option.map_some, q_add, q_sub, q_lt, q_le, q_gt, q_ge, q_eqI, q_neI, q_eqB, q_neB, q_isN, q_notN, isNon, q_ixT, q_ixR, atI_0, atI_1, atI_2, atI_3, atI_4, atI_5, atI_6, atI_7, q_slT, q_slR, q_revT, q_seqT, q_int, q_intB, q_max, q_min, q_abs, q_tupT, n_tup, n_int, n_bl, n_non, n_str, isi_ii, isi_ib, isi_tt, isi_itl, isi_btl, isi_ttl, isi_tl, isi_bb, u_bl, u_int, u_non, u_tup, g_name, g_tup, g_nil, g_cons, o_ret, o_nx, i_seq, List.set_cons_zero, List.set_cons_succ, decide_eq_true_eq, Bool.not_eq_true', decide_eq_false_iff_not, evP, Bool.false_eq_true, if_true, if_false, ite_true, ite_false, reduceIte, Bool.not_true, Bool.not_false, Option.some.injEq, q_pow10, Int.reduceToNat, Int.reducePow, Int.reduceAdd, Int.reduceSub, Int.reduceMul, Int.reduceNeg, Int.reduceLT, Int.reduceLE, Nat.reducePow, Nat.reduceLT, Nat.reduceLeDiff, Nat.reduceAdd, List.length_cons, List.length_nil, Int.neg_neg]
      exact ⟨trivial, l⟩
theorem hours_len {off r : Int} {js : List (Int × Int)} : (hoursF off js r).length ≤ js.length + 1 := Nat.le_trans (List.length_filterMap_le _ _) (by simp)
theorem sa_ints {n a b : Nat} {S : Hd} {xs : List Int} (h1 : S[a]? = some (.lst (xs.map .int))) (h2 : S[b]? = some (.lst (xs.map .int))) (hz : xs.length ≤ 1000) : Sa (n + 1 + 1) S (.ref a) (.ref b) := by
  refine ⟨_, _, h1, h2, rfl, by simpa using hz, fun i x y e1 e2 => ?_⟩
  rw [e1] at e2
  cases e2
  obtain ⟨z, _, _, rfl⟩ := map_get e1
  rfl
end Lw

namespace Lw
open PySem L2 Ix
/-! ### several pots -/
def PotS (P : Nat → Prop) (S : Hd) : Prop := ∀ k, P k → Pot k S
def LeP (P : Nat → Prop) (S S' : Hd) : Prop := ∀ (k : Nat) (o : O), ¬ P k → S[k]? = some o → S'[k]? = some o
section
variable {P : Nat → Prop} {S S1 S2 : Hd}
theorem LeP.refl : LeP P S S := fun _ _ _ h => h
theorem LeP.trans (a : LeP P S S1) (b : LeP P S1 S2) : LeP P S S2 := fun k o n h => b k o n (a k o n h)
theorem Lq.leP (a : Lq S S1) : LeP P S S1 := fun k o _ h => a k o h
theorem Le.leP {p : Nat} (hp : P p) (a : Le p S S1) : LeP P S S1 := fun k o n h => a k o (fun e => n (e ▸ hp)) h
theorem LeP.app (T : Hd) : LeP P S (S ++ T) := Lq.leP (Lq.app S T)
theorem LeP.at (a : LeP P S S1) {k : Nat} {o : O} (n : ¬ P k) (h : S[k]? = some o) : S1[k]? = some o := a k o n h
theorem PotS.app (h : PotS P S) (T : Hd) : PotS P (S ++ T) := fun k hk => (h k hk).app T
theorem PotS.lq (h : PotS P S) (l : Lq S S1) : PotS P S1 := fun k hk => (h k hk).lq l
theorem PotS.le {p : Nat} (h : PotS P S) (hp : Pot p S1) (l : Le p S S1) : PotS P S1 := fun k hk => by
  by_cases e : k = p
  · rw [e]; exact hp
  · obtain ⟨q, g⟩ := h k hk
    exact ⟨q, l k _ e g⟩
theorem PotS.new (h : PotS P S) {k : Nat} (hk : S.length ≤ k) : ¬ P k := fun p => by
  have := (h k p).lt
  omega
theorem PotS.set (h : PotS P S) {k : Nat} (hk : ¬ P k) (o : O) : PotS P (S.set k o) := fun j hj => by
  obtain ⟨q, g⟩ := h j hj
  exact ⟨q, by rw [List.getElem?_set_ne (fun e => hk (by rw [e]; exact hj))]; exact g⟩
theorem LeP.len (h : PotS P S) (hs : PotS P S1) (a : LeP P S S1) : S.length ≤ S1.length := by
  rcases Nat.lt_or_ge S1.length S.length with l | l
  · by_cases hp : P S1.length
    · have := (hs _ hp).lt
      omega
    · have e := a S1.length _ hp (List.getElem?_eq_getElem l)
      have := lt_of_get e
      omega
  · exact l
theorem drawP {n p : Nat} {u : Int} (hS : PotS P S) (hp : P p) (hu : 0 < u) (hb : u < 2 ^ 64) :
    M (run T (n + 1) 18 [.ref p, .int u] S) fun r => ∃ z S', r = (.int z, S') ∧ 0 ≤ z ∧ z < u ∧ PotS P S' ∧ LeP P S S' := by
  refine (draw_ok (hS p hp) hu hb).imp ?_
  rintro _ ⟨z, S', rfl, h0, h1, p1, l1⟩
  exact ⟨z, S', rfl, h0, h1, hS.le p1 l1, Le.leP hp l1⟩
theorem any_hourP {n p : Nat} (hS : PotS P S) (hp : P p) :
    M (run T (n + 2) 19 [.ref p] S) fun r => ∃ z S', r = (.int z, S') ∧ PotS P S' ∧ LeP P S S' := by
  refine (any_hour_ok (hS p hp)).imp ?_
  rintro _ ⟨z, S', rfl, p1, l1⟩
  exact ⟨z, S', rfl, hS.le p1 l1, Le.leP hp l1⟩
end
/-! ### looks -/
structure Looks (os : List Int) (ls : List (Int × Int)) : Prop where
  mem : ∀ l ∈ ls, l.2 ∈ os
  asc : Adj (fun x y => x < y) (ls.map (·.1))
def lookD (ls : List (Int × Int)) : D := .tup (ls.map jumpD)
theorem make_sights_ok {n p c : Nat} {P : Nat → Prop} {S : Hd} {os : List Int} {sp : Int} {qs : List Nat} (hS : PotS P S) (hp : P p) (hz : Zone os sp) (hc : ¬ P c) (gc : S[c]? = some (.lst (qs.map D.ref))) (hq : ∀ q ∈ qs, P q) (hl : qs.length ≤ 900) :
    M (run T (n + 3) 39 [.ref p, zoneD os sp, .ref c] S) fun r => ∃ ls S', r = (lookD ls, S') ∧ Looks os ls ∧ ls.length = qs.length ∧ PotS P S' ∧ LeP P S S' := by
  have o1 := hz.len1
  have o3 := hz.len3
  have hm := most_big
  have sp0 := hz.pos
  have spt := hz.top
  refine run_M T_make_sights rfl ?_
  show M (ex (run T (n + 2)) b_make_sights [some (.ref p), some (zoneD os sp), some (.ref c), none, none, none, none, none, none, none, none, none, none, none, none, none, none] S) _
  unfold b_make_sights
  refine seq_M (fun env S1 => S = S1 ∧ env = [some (.ref p), some (zoneD os sp), some (.ref c), some (.tup (os.map .int)), some (.int sp), none, none, none, none, none, none, none, none, none, none, none, none]) ?_ ?_
  · unfold zoneD
    simp only [ex, ev, M_bind, M_map, M_some, M_ite, t_eq, a_tup, al_eq, List.getElem?_cons_zero, List.getElem?_cons_succ, Option.bind_some, Option.map_some, q_add, q_sub, q_lt, q_le, q_gt, q_ge, q_eqI, q_neI, q_eqB, q_neB, q_isN, q_notN, isNon, q_ixT, q_ixR, atI_0, atI_1, atI_2, atI_3, atI_4, atI_5, atI_6, atI_7, q_slT, q_slR, q_revT, q_seqT, q_int, q_intB, q_max, q_min, q_abs, q_tupT, n_tup, n_int, n_bl, n_non, n_str, isi_ii, isi_ib, isi_tt, isi_itl, isi_btl, isi_ttl, isi_tl, isi_bb, u_bl, u_int, u_non, u_tup, g_name, g_tup, g_nil, g_cons, o_ret, o_nx, i_seq, List.set_cons_zero, List.set_cons_succ, decide_eq_true_eq, Bool.not_eq_true', decide_eq_false_iff_not, evP, Bool.false_eq_true, if_true, if_false, ite_true, ite_false, reduceIte, Bool.not_true, Bool.not_false, Option.some.injEq, q_pow10, Int.reduceToNat, Int.reducePow, Int.reduceAdd, Int.reduceSub, Int.reduceMul, Int.reduceNeg, Int.reduceLT, Int.reduceLE, Nat.reducePow, Nat.reduceLT, Nat.reduceLeDiff, Nat.reduceAdd, List.length_cons, List.length_nil, Int.neg_neg]
    exact ⟨trivial, trivial, trivial⟩
  rintro _ _ ⟨rfl, rfl⟩
  refine seq_M (fun env S1 => ∃ h : Int, env = [some (.ref p), some (zoneD os sp), some (.ref c), some (.tup (os.map .int)), some (.int sp), some (.int h), none, none, none, none, none, none, none, none, none, none, none] ∧ PotS P S1 ∧ LeP P S S1) ?_ ?_
  · simp only [ex, ev, M_bind, M_map, M_some, M_ite, t_eq, a_tup, al_eq, List.getElem?_cons_zero, List.getElem?_cons_succ, Option.bind_some, Option.map_some, q_add, q_sub, q_lt, q_le, q_gt, q_ge, q_eqI, q_neI, q_eqB, q_neB, q_isN, q_notN, isNon, q_ixT, q_ixR, atI_0, atI_1, atI_2, atI_3, atI_4, atI_5, atI_6, atI_7, q_slT, q_slR, q_revT, q_seqT, q_int, q_intB, q_max, q_min, q_abs, q_tupT, n_tup, n_int, n_bl, n_non, n_str, isi_ii, isi_ib, isi_tt, isi_itl, isi_btl, isi_ttl, isi_tl, isi_bb, u_bl, u_int, u_non, u_tup, g_name, g_tup, g_nil, g_cons, o_ret, o_nx, i_seq, List.set_cons_zero, List.set_cons_succ, decide_eq_true_eq, Bool.not_eq_true', decide_eq_false_iff_not, evP, Bool.false_eq_true, if_true, if_false, ite_true, ite_false, reduceIte, Bool.not_true, Bool.not_false, Option.some.injEq, q_pow10, Int.reduceToNat, Int.reducePow, Int.reduceAdd, Int.reduceSub, Int.reduceMul, Int.reduceNeg, Int.reduceLT, Int.reduceLE, Nat.reducePow, Nat.reduceLT, Nat.reduceLeDiff, Nat.reduceAdd, List.length_cons, List.length_nil, Int.neg_neg]
    refine (any_hourP hS hp).imp ?_
    rintro _ ⟨z, S1, rfl, p1, l1⟩
    exact ⟨trivial, z, rfl, p1, l1⟩
  rintro _ S1 ⟨h, rfl, p1, l1⟩
  refine seq_M (fun env S2 => S1 = S2 ∧ env = [some (.ref p), some (zoneD os sp), some (.ref c), some (.tup (os.map .int)), some (.int sp), some (.int h), some (.int (h - sp)), none, none, none, none, none, none, none, none, none, none]) ?_ ?_
  · simp only [ex, ev, M_bind, M_map, M_some, M_ite, t_eq, a_tup, al_eq, List.getElem?_cons_zero, List.getElem?_cons_succ, Option.bind_some, Option.map_some, q_add, q_sub, q_lt, q_le, q_gt, q_ge, q_eqI, q_neI, q_eqB, q_neB, q_isN, q_notN, isNon, q_ixT, q_ixR, atI_0, atI_1, atI_2, atI_3, atI_4, atI_5, atI_6, atI_7, q_slT, q_slR, q_revT, q_seqT, q_int, q_intB, q_max, q_min, q_abs, q_tupT, n_tup, n_int, n_bl, n_non, n_str, isi_ii, isi_ib, isi_tt, isi_itl, isi_btl, isi_ttl, isi_tl, isi_bb, u_bl, u_int, u_non, u_tup, g_name, g_tup, g_nil, g_cons, o_ret, o_nx, i_seq, List.set_cons_zero, List.set_cons_succ, decide_eq_true_eq, Bool.not_eq_true', decide_eq_false_iff_not, evP, Bool.false_eq_true, if_true, if_false, ite_true, ite_false, reduceIte, Bool.not_true, Bool.not_false, Option.some.injEq, q_pow10, Int.reduceToNat, Int.reducePow, Int.reduceAdd, Int.reduceSub, Int.reduceMul, Int.reduceNeg, Int.reduceLT, Int.reduceLE, Nat.reducePow, Nat.reduceLT, Nat.reduceLeDiff, Nat.reduceAdd, List.length_cons, List.length_nil, Int.neg_neg]
    exact ⟨trivial, trivial, trivial⟩
  rintro _ _ ⟨rfl, rfl⟩
  refine seq_M (fun env S2 => ∃ a : Int, env = [some (.ref p), some (zoneD os sp), some (.ref c), some (.tup (os.map .int)), some (.int sp), some (.int h), some (.int (h - sp)), some (.int a), none, none, none, none, none, none, none, none, none] ∧ 0 ≤ a ∧ a < os.length ∧ PotS P S2 ∧ LeP P S S2) ?_ ?_
  · simp only [ex, ev, M_bind, M_map, M_some, M_ite, t_eq, a_tup, al_eq, List.getElem?_cons_zero, List.getElem?_cons_succ, Option.bind_some, Option.map_some, q_add, q_sub, q_lt, q_le, q_gt, q_ge, q_eqI, q_neI, q_eqB, q_neB, q_isN, q_notN, isNon, q_ixT, q_ixR, atI_0, atI_1, atI_2, atI_3, atI_4, atI_5, atI_6, atI_7, q_slT, q_slR, q_revT, q_seqT, q_int, q_intB, q_max, q_min, q_abs, q_tupT, n_tup, n_int, n_bl, n_non, n_str, isi_ii, isi_ib, isi_tt, isi_itl, isi_btl, isi_ttl, isi_tl, isi_bb, u_bl, u_int, u_non, u_tup, g_name, g_tup, g_nil, g_cons, o_ret, o_nx, i_seq, List.set_cons_zero, List.set_cons_succ, decide_eq_true_eq, Bool.not_eq_true', decide_eq_false_iff_not, evP, Bool.false_eq_true, if_true, if_false, ite_true, ite_false, reduceIte, Bool.not_true, Bool.not_false, Option.some.injEq, q_pow10, Int.reduceToNat, Int.reducePow, Int.reduceAdd, Int.reduceSub, Int.reduceMul, Int.reduceNeg, Int.reduceLT, Int.reduceLE, Nat.reducePow, Nat.reduceLT, Nat.reduceLeDiff, Nat.reduceAdd, List.length_cons, List.length_nil, Int.neg_neg, q_len q_seqT, List.length_map]
    refine (drawP p1 hp (by omega) (by omega)).imp ?_
    rintro _ ⟨z, S2, rfl, h0, h1, p2, l2⟩
    exact ⟨trivial, z, rfl, h0, h1, p2, l1.trans l2⟩
  rintro _ S2 ⟨a, rfl, a0, a1, p2, l2⟩
  refine seq_M (fun env S3 => S3 = S2 ++ [.lst []] ∧ env = [some (.ref p), some (zoneD os sp), some (.ref c), some (.tup (os.map .int)), some (.int sp), some (.int h), some (.int (h - sp)), some (.int a), some (.ref S2.length), none, none, none, none, none, none, none, none]) ?_ ?_
  · simp only [ex, ev, M_bind, M_map, M_some, M_ite, t_eq, a_tup, al_eq, List.getElem?_cons_zero, List.getElem?_cons_succ, Option.bind_some, Option.map_some, q_add, q_sub, q_lt, q_le, q_gt, q_ge, q_eqI, q_neI, q_eqB, q_neB, q_isN, q_notN, isNon, q_ixT, q_ixR, atI_0, atI_1, atI_2, atI_3, atI_4, atI_5, atI_6, atI_7, q_slT, q_slR, q_revT, q_seqT, q_int, q_intB, q_max, q_min, q_abs, q_tupT, n_tup, n_int, n_bl, n_non, n_str, isi_ii, isi_ib, isi_tt, isi_itl, isi_btl, isi_ttl, isi_tl, isi_bb, u_bl, u_int, u_non, u_tup, g_name, g_tup, g_nil, g_cons, o_ret, o_nx, i_seq, List.set_cons_zero, List.set_cons_succ, decide_eq_true_eq, Bool.not_eq_true', decide_eq_false_iff_not, evP, Bool.false_eq_true, if_true, if_false, ite_true, ite_false, reduceIte, Bool.not_true, Bool.not_false, Option.some.injEq, q_pow10, Int.reduceToNat, Int.reducePow, Int.reduceAdd, Int.reduceSub, Int.reduceMul, Int.reduceNeg, Int.reduceLT, Int.reduceLE, Nat.reducePow, Nat.reduceLT, Nat.reduceLeDiff, Nat.reduceAdd, List.length_cons, List.length_nil, Int.neg_neg, show (0 : Nat) ≤ most by decide]
    exact ⟨trivial, trivial, trivial⟩
  rintro _ _ ⟨rfl, rfl⟩
  have len2 := l2.len hS p2
  have hr0 := p2.new (Nat.le_refl S2.length)
  have hrc : S2.length ≠ c := by
    have := lt_of_get gc
    omega
  have g3 : (S2 ++ [O.lst []])[S2.length]? = some (.lst []) := get_new
  have p3 := p2.app [O.lst []]
  have l3 : LeP P S (S2 ++ [O.lst []]) := l2.trans (LeP.app _)
  generalize hrr : S2.length = rr at hr0 hrc g3 len2 ⊢
  generalize hS3 : S2 ++ [O.lst []] = S3 at g3 p3 l3 ⊢
  have c3 := l3.at hc gc
  refine seq_M (fun env S4 => S3 = S4 ∧ env = [some (.ref p), some (zoneD os sp), some (.ref c), some (.tup (os.map .int)), some (.int sp), some (.int h), some (.int (h - sp)), some (.int a), some (.ref rr), some (.int (qs.length : Int)), none, none, none, none, none, none, none]) ?_ ?_
  · simp only [ex, ev, M_bind, M_map, M_some, M_ite, t_eq, a_tup, al_eq, List.getElem?_cons_zero, List.getElem?_cons_succ, Option.bind_some, Option.map_some, q_add, q_sub, q_lt, q_le, q_gt, q_ge, q_eqI, q_neI, q_eqB, q_neB, q_isN, q_notN, isNon, q_ixT, q_ixR, atI_0, atI_1, atI_2, atI_3, atI_4, atI_5, atI_6, atI_7, q_slT, q_slR, q_revT, q_seqT, q_int, q_intB, q_max, q_min, q_abs, q_tupT, n_tup, n_int, n_bl, n_non, n_str, isi_ii, isi_ib, isi_tt, isi_itl, isi_btl, isi_ttl, isi_tl, isi_bb, u_bl, u_int, u_non, u_tup, g_name, g_tup, g_nil, g_cons, o_ret, o_nx, i_seq, List.set_cons_zero, List.set_cons_succ, decide_eq_true_eq, Bool.not_eq_true', decide_eq_false_iff_not, evP, Bool.false_eq_true, if_true, if_false, ite_true, ite_false, reduceIte, Bool.not_true, Bool.not_false, Option.some.injEq, q_pow10, Int.reduceToNat, Int.reducePow, Int.reduceAdd, Int.reduceSub, Int.reduceMul, Int.reduceNeg, Int.reduceLT, Int.reduceLE, Nat.reducePow, Nat.reduceLT, Nat.reduceLeDiff, Nat.reduceAdd, List.length_cons, List.length_nil, Int.neg_neg, q_len (q_seqL c3), List.length_map]
    exact ⟨trivial, trivial, trivial⟩
  rintro _ _ ⟨rfl, rfl⟩
  refine seq_M (fun env S4 => ∃ k : Int, env = [some (.ref p), some (zoneD os sp), some (.ref c), some (.tup (os.map .int)), some (.int sp), some (.int h), some (.int (h - sp)), some (.int a), some (.ref rr), some (.int (qs.length : Int)), some (.int k), none, none, none, none, none, none] ∧ S4[rr]? = some (.lst []) ∧ PotS P S4 ∧ LeP P S S4) ?_ ?_
  · simp only [ex, ev, M_bind, M_map, M_some, M_ite, t_eq, a_tup, al_eq, List.getElem?_cons_zero, List.getElem?_cons_succ, Option.bind_some, Option.map_some, q_add, q_sub, q_lt, q_le, q_gt, q_ge, q_eqI, q_neI, q_eqB, q_neB, q_isN, q_notN, isNon, q_ixT, q_ixR, atI_0, atI_1, atI_2, atI_3, atI_4, atI_5, atI_6, atI_7, q_slT, q_slR, q_revT, q_seqT, q_int, q_intB, q_max, q_min, q_abs, q_tupT, n_tup, n_int, n_bl, n_non, n_str, isi_ii, isi_ib, isi_tt, isi_itl, isi_btl, isi_ttl, isi_tl, isi_bb, u_bl, u_int, u_non, u_tup, g_name, g_tup, g_nil, g_cons, o_ret, o_nx, i_seq, List.set_cons_zero, List.set_cons_succ, decide_eq_true_eq, Bool.not_eq_true', decide_eq_false_iff_not, evP, Bool.false_eq_true, if_true, if_false, ite_true, ite_false, reduceIte, Bool.not_true, Bool.not_false, Option.some.injEq, q_pow10, Int.reduceToNat, Int.reducePow, Int.reduceAdd, Int.reduceSub, Int.reduceMul, Int.reduceNeg, Int.reduceLT, Int.reduceLE, Nat.reducePow, Nat.reduceLT, Nat.reduceLeDiff, Nat.reduceAdd, List.length_cons, List.length_nil, Int.neg_neg]
    refine (drawP p3 hp (by omega) (by omega)).imp ?_
    rintro _ ⟨z, S4, rfl, _, _, p4, l4⟩
    simp only [ex, ev, M_bind, M_map, M_some, M_ite, t_eq, a_tup, al_eq, List.getElem?_cons_zero, List.getElem?_cons_succ, Option.bind_some, Option.map_some, q_add, q_sub, q_lt, q_le, q_gt, q_ge, q_eqI, q_neI, q_eqB, q_neB, q_isN, q_notN, isNon, q_ixT, q_ixR, atI_0, atI_1, atI_2, atI_3, atI_4, atI_5, atI_6, atI_7, q_slT, q_slR, q_revT, q_seqT, q_int, q_intB, q_max, q_min, q_abs, q_tupT, n_tup, n_int, n_bl, n_non, n_str, isi_ii, isi_ib, isi_tt, isi_itl, isi_btl, isi_ttl, isi_tl, isi_bb, u_bl, u_int, u_non, u_tup, g_name, g_tup, g_nil, g_cons, o_ret, o_nx, i_seq, List.set_cons_zero, List.set_cons_succ, decide_eq_true_eq, Bool.not_eq_true', decide_eq_false_iff_not, evP, Bool.false_eq_true, if_true, if_false, ite_true, ite_false, reduceIte, Bool.not_true, Bool.not_false, Option.some.injEq, q_pow10, Int.reduceToNat, Int.reducePow, Int.reduceAdd, Int.reduceSub, Int.reduceMul, Int.reduceNeg, Int.reduceLT, Int.reduceLE, Nat.reducePow, Nat.reduceLT, Nat.reduceLeDiff, Nat.reduceAdd, List.length_cons, List.length_nil, Int.neg_neg, show (3 : Nat) ≤ most by decide]
    refine (drawP (p4.app _) hp (by decide) (by decide)).imp ?_
    rintro _ ⟨y, S5, rfl, y0, y1, p5, l5⟩
    obtain ⟨u, _, _, hv⟩ := atI_ints (ns := [(qs.length : Int), 0, z]) y0 y1
    simp only [List.map] at hv
    simp only [ex, ev, M_bind, M_map, M_some, M_ite, t_eq, a_tup, al_eq, List.getElem?_cons_zero, List.getElem?_cons_succ, Option.bind_some, Option.map_some, q_add, q_sub, q_lt, q_le, q_gt, q_ge, q_eqI, q_neI, q_eqB, q_neB, q_isN, q_notN, isNon, q_ixT, q_ixR, atI_0, atI_1, atI_2, atI_3, atI_4, atI_5, atI_6, atI_7, q_slT, q_slR, q_revT, q_seqT, q_int, q_intB, q_max, q_min, q_abs, q_tupT, n_tup, n_int, n_bl, n_non, n_str, isi_ii, isi_ib, isi_tt, isi_itl, isi_btl, isi_ttl, isi_tl, isi_bb, u_bl, u_int, u_non, u_tup, g_name, g_tup, g_nil, g_cons, o_ret, o_nx, i_seq, List.set_cons_zero, List.set_cons_succ, decide_eq_true_eq, Bool.not_eq_true', decide_eq_false_iff_not, evP, Bool.false_eq_true, if_true, if_false, ite_true, ite_false, reduceIte, Bool.not_true, Bool.not_false, Option.some.injEq, q_pow10, Int.reduceToNat, Int.reducePow, Int.reduceAdd, Int.reduceSub, Int.reduceMul, Int.reduceNeg, Int.reduceLT, Int.reduceLE, Nat.reducePow, Nat.reduceLT, Nat.reduceLeDiff, Nat.reduceAdd, List.length_cons, List.length_nil, Int.neg_neg, q_ixL (l5.at (p4.new (Nat.le_refl _)) get_new), hv]
    exact ⟨trivial, _, rfl, l5.at hr0 (LeP.app (P := P) _ _ _ hr0 (l4.at hr0 g3)), p5, (((l3.trans l4).trans (LeP.app _)).trans l5)⟩
  rintro _ S4 ⟨calm, rfl, g4, p4, l4⟩
  have zl : LeP P S S4 := l4
  refine seq_M (fun env S5 => ∃ (v5 v6 v7 v11 v12 v13 v14 v15 v16 : Option D) (ls : List (Int × Int)), env = [some (.ref p), some (zoneD os sp), some (.ref c), some (.tup (os.map .int)), some (.int sp), v5, v6, v7, some (.ref rr), some (.int (qs.length : Int)), some (.int calm), v11, v12, v13, v14, v15, v16] ∧ S5[rr]? = some (.lst (ls.map jumpD)) ∧ Looks os ls ∧ ls.length = qs.length ∧ PotS P S5 ∧ LeP P S S5) ?_ ?_
  · refine for_M ?_
    simp only [ev, M_bind, M_map, M_some, M_ite, t_eq, a_tup, al_eq, List.getElem?_cons_zero, List.getElem?_cons_succ, Option.bind_some, Option.map_some, q_add, q_sub, q_lt, q_le, q_gt, q_ge, q_eqI, q_neI, q_eqB, q_neB, q_isN, q_notN, isNon, q_ixT, q_ixR, atI_0, atI_1, atI_2, atI_3, atI_4, atI_5, atI_6, atI_7, q_slT, q_slR, q_revT, q_seqT, q_int, q_intB, q_max, q_min, q_abs, q_tupT, n_tup, n_int, n_bl, n_non, n_str, isi_ii, isi_ib, isi_tt, isi_itl, isi_btl, isi_ttl, isi_tl, isi_bb, u_bl, u_int, u_non, u_tup, g_name, g_tup, g_nil, g_cons, o_ret, o_nx, i_seq, List.set_cons_zero, List.set_cons_succ, decide_eq_true_eq, Bool.not_eq_true', decide_eq_false_iff_not, evP, Bool.false_eq_true, if_true, if_false, ite_true, ite_false, reduceIte, Bool.not_true, Bool.not_false, Option.some.injEq, q_pow10, Int.reduceToNat, Int.reducePow, Int.reduceAdd, Int.reduceSub, Int.reduceMul, Int.reduceNeg, Int.reduceLT, Int.reduceLE, Nat.reducePow, Nat.reduceLT, Nat.reduceLeDiff, Nat.reduceAdd, List.length_cons, List.length_nil, Int.neg_neg]
    refine ⟨_, _, rfl, i_rng (by omega) (by omega), ?_⟩
    refine M_loopS (m := 0) (fun i env S5 => ∃ (h b a : Int) (v11 v12 v13 v14 v15 v16 : Option D) (ls : List (Int × Int)), env = [some (.ref p), some (zoneD os sp), some (.ref c), some (.tup (os.map .int)), some (.int sp), some (.int h), some (.int b), some (.int a), some (.ref rr), some (.int (qs.length : Int)), some (.int calm), v11, v12, v13, v14, v15, v16] ∧ S5[rr]? = some (.lst (ls.map jumpD)) ∧ Looks os ls ∧ ls.length = i ∧ 0 ≤ a ∧ a < os.length ∧ (∀ x, (ls.map (·.1)).getLast? = some x → x < h) ∧ PotS P S5 ∧ LeP P S S5) ⟨h, h - sp, a, none, none, none, none, none, none, [], rfl, g4, ⟨by simp, Adj.nil⟩, rfl, a0, a1, by simp, p4, l4⟩ ?_ ?_
    · rintro i d env S5 hi ⟨h, b, a, v11, v12, v13, v14, v15, v16, ls, rfl, g5, hk, kl, a0, a1, kh, p5, l5⟩
      obtain ⟨im, rfl⟩ := rng_get hi
      have im : i < qs.length := by omega
      have kl : ls.length = i := by omega
      simp only [asgG, Option.bind_some, List.set_cons_succ, List.set_cons_zero]
      have eq : atI (qs.map D.ref) (0 + (i : Int)) = some (.ref qs[i]) := by
        rw [atI_lt (by omega) (by simp; omega), List.getElem?_map, show (0 + (i : Int)).toNat = i by omega, List.getElem?_eq_getElem im]
        rfl
      have hq' : P qs[i] := hq _ (List.getElem_mem im)
      generalize qs[i] = q at eq hq'
      obtain ⟨o, _, hom, hoi⟩ := atI_os a0 a1
      have c5 := l5.at hc gc
      refine seq_M (fun env S6 => S5 = S6 ∧ env = [some (.ref p), some (zoneD os sp), some (.ref c), some (.tup (os.map .int)), some (.int sp), some (.int h), some (.int b), some (.int a), some (.ref rr), some (.int (qs.length : Int)), some (.int calm), some (.int (0 + (i : Int))), some (.ref q), v13, v14, v15, v16]) ?_ ?_
      · simp only [ex, ev, M_bind, M_map, M_some, M_ite, t_eq, a_tup, al_eq, List.getElem?_cons_zero, List.getElem?_cons_succ, Option.bind_some, Option.map_some, q_add, q_sub, q_lt, q_le, q_gt, q_ge, q_eqI, q_neI, q_eqB, q_neB, q_isN, q_notN, isNon, q_ixT, q_ixR, atI_0, atI_1, atI_2, atI_3, atI_4, atI_5, atI_6, atI_7, q_slT, q_slR, q_revT, q_seqT, q_int, q_intB, q_max, q_min, q_abs, q_tupT, n_tup, n_int, n_bl, n_non, n_str, isi_ii, isi_ib, isi_tt, isi_itl, isi_btl, isi_ttl, isi_tl, isi_bb, u_bl, u_int, u_non, u_tup, g_name, g_tup, g_nil, g_cons, o_ret, o_nx, i_seq, List.set_cons_zero, List.set_cons_succ, decide_eq_true_eq, Bool.not_eq_true', decide_eq_false_iff_not, evP, Bool.false_eq_true, if_true, if_false, ite_true, ite_false, reduceIte, Bool.not_true, Bool.not_false, Option.some.injEq, q_pow10, Int.reduceToNat, Int.reducePow, Int.reduceAdd, Int.reduceSub, Int.reduceMul, Int.reduceNeg, Int.reduceLT, Int.reduceLE, Nat.reducePow, Nat.reduceLT, Nat.reduceLeDiff, Nat.reduceAdd, List.length_cons, List.length_nil, Int.neg_neg, q_ixL c5, eq]
        exact ⟨trivial, trivial, trivial⟩
      rintro _ _ ⟨rfl, rfl⟩
      refine seq_M (fun env S6 => S6 = S5.set rr (.lst ((ls ++ [(h, o)]).map jumpD)) ∧ env = [some (.ref p), some (zoneD os sp), some (.ref c), some (.tup (os.map .int)), some (.int sp), some (.int h), some (.int b), some (.int a), some (.ref rr), some (.int (qs.length : Int)), some (.int calm), some (.int (0 + (i : Int))), some (.ref q), v13, v14, v15, v16]) ?_ ?_
      · simp only [ex, ev, M_bind, M_map, M_some, M_ite, t_eq, a_tup, al_eq, List.getElem?_cons_zero, List.getElem?_cons_succ, Option.bind_some, Option.map_some, q_add, q_sub, q_lt, q_le, q_gt, q_ge, q_eqI, q_neI, q_eqB, q_neB, q_isN, q_notN, isNon, q_ixT, q_ixR, atI_0, atI_1, atI_2, atI_3, atI_4, atI_5, atI_6, atI_7, q_slT, q_slR, q_revT, q_seqT, q_int, q_intB, q_max, q_min, q_abs, q_tupT, n_tup, n_int, n_bl, n_non, n_str, isi_ii, isi_ib, isi_tt, isi_itl, isi_btl, isi_ttl, isi_tl, isi_bb, u_bl, u_int, u_non, u_tup, g_name, g_tup, g_nil, g_cons, o_ret, o_nx, i_seq, List.set_cons_zero, List.set_cons_succ, decide_eq_true_eq, Bool.not_eq_true', decide_eq_false_iff_not, evP, Bool.false_eq_true, if_true, if_false, ite_true, ite_false, reduceIte, Bool.not_true, Bool.not_false, Option.some.injEq, q_pow10, Int.reduceToNat, Int.reducePow, Int.reduceAdd, Int.reduceSub, Int.reduceMul, Int.reduceNeg, Int.reduceLT, Int.reduceLE, Nat.reducePow, Nat.reduceLT, Nat.reduceLeDiff, Nat.reduceAdd, List.length_cons, List.length_nil, Int.neg_neg, q_isL g5, hoi, show (2 : Nat) ≤ most by decide]
        rw [q_app g5 (by rw [List.length_map]; omega)]
        simp only [M_some, List.map_append, List.map_cons, List.map_nil]
        exact ⟨trivial, rfl, trivial⟩
      rintro _ _ ⟨rfl, rfl⟩
      have g6 : (S5.set rr (.lst ((ls ++ [(h, o)]).map jumpD)))[rr]? = some (.lst ((ls ++ [(h, o)]).map jumpD)) := List.getElem?_set_self (lt_of_get g5)
      have p6 := p5.set hr0 (.lst ((ls ++ [(h, o)]).map jumpD))
      have l6 : LeP P S (S5.set rr (.lst ((ls ++ [(h, o)]).map jumpD))) := fun k u nk e => by
        rw [List.getElem?_set_ne (by have := lt_of_get e; omega)]
        exact l5 k u nk e
      have hk6 : Looks os (ls ++ [(h, o)]) := by
        refine ⟨fun l hl => ?_, ?_⟩
        · rcases List.mem_append.mp hl with z | z
          · exact hk.mem l z
          · rw [List.mem_singleton.mp z]; exact hom
        · rw [List.map_append]
          exact hk.asc.snoc kh
      have kl6 : (ls ++ [(h, o)]).length = i + 1 := by simp [kl]
      have kh6 : ∀ x, ((ls ++ [(h, o)]).map (·.1)).getLast? = some x → x = h := fun x e => by
        rw [List.map_append] at e
        simpa using e.symm
      generalize ls ++ [(h, o)] = ls at g6 hk6 kl6 kh6 p6 l6 ⊢
      generalize S5.set rr (.lst (ls.map jumpD)) = S6 at g6 p6 l6 ⊢
      generalize hlst : (if b + sp > h + 1 then b + sp else h + 1) = lst
      refine seq_M (fun env S7 => S6 = S7 ∧ env = [some (.ref p), some (zoneD os sp), some (.ref c), some (.tup (os.map .int)), some (.int sp), some (.int h), some (.int b), some (.int a), some (.ref rr), some (.int (qs.length : Int)), some (.int calm), some (.int (0 + (i : Int))), some (.ref q), some (.int lst), v14, v15, v16]) ?_ ?_
      · simp only [ex, ev, M_bind, M_map, M_some, M_ite, t_eq, a_tup, al_eq, List.getElem?_cons_zero, List.getElem?_cons_succ, Option.bind_some, Option.map_some, q_add, q_sub, q_lt, q_le, q_gt, q_ge, q_eqI, q_neI, q_eqB, q_neB, q_isN, q_notN, isNon, q_ixT, q_ixR, atI_0, atI_1, atI_2, atI_3, atI_4, atI_5, atI_6, atI_7, q_slT, q_slR, q_revT, q_seqT, q_int, q_intB, q_max, q_min, q_abs, q_tupT, n_tup, n_int, n_bl, n_non, n_str, isi_ii, isi_ib, isi_tt, isi_itl, isi_btl, isi_ttl, isi_tl, isi_bb, u_bl, u_int, u_non, u_tup, g_name, g_tup, g_nil, g_cons, o_ret, o_nx, i_seq, List.set_cons_zero, List.set_cons_succ, decide_eq_true_eq, Bool.not_eq_true', decide_eq_false_iff_not, evP, Bool.false_eq_true, if_true, if_false, ite_true, ite_false, reduceIte, Bool.not_true, Bool.not_false, Option.some.injEq, q_pow10, Int.reduceToNat, Int.reducePow, Int.reduceAdd, Int.reduceSub, Int.reduceMul, Int.reduceNeg, Int.reduceLT, Int.reduceLE, Nat.reducePow, Nat.reduceLT, Nat.reduceLeDiff, Nat.reduceAdd, List.length_cons, List.length_nil, Int.neg_neg, hlst]
        exact ⟨trivial, trivial, trivial⟩
      rintro _ _ ⟨rfl, rfl⟩
      refine seq_M (fun env S7 => ∃ w : Int, 0 ≤ w ∧ w < 9 ∧ env = [some (.ref p), some (zoneD os sp), some (.ref c), some (.tup (os.map .int)), some (.int sp), some (.int h), some (.int b), some (.int a), some (.ref rr), some (.int (qs.length : Int)), some (.int calm), some (.int (0 + (i : Int))), some (.ref q), some (.int lst), some (.int w), v15, v16] ∧ PotS P S7 ∧ LeP P S6 S7) ?_ ?_
      · simp only [ex, ev, M_bind, M_map, M_some, M_ite, t_eq, a_tup, al_eq, List.getElem?_cons_zero, List.getElem?_cons_succ, Option.bind_some, Option.map_some, q_add, q_sub, q_lt, q_le, q_gt, q_ge, q_eqI, q_neI, q_eqB, q_neB, q_isN, q_notN, isNon, q_ixT, q_ixR, atI_0, atI_1, atI_2, atI_3, atI_4, atI_5, atI_6, atI_7, q_slT, q_slR, q_revT, q_seqT, q_int, q_intB, q_max, q_min, q_abs, q_tupT, n_tup, n_int, n_bl, n_non, n_str, isi_ii, isi_ib, isi_tt, isi_itl, isi_btl, isi_ttl, isi_tl, isi_bb, u_bl, u_int, u_non, u_tup, g_name, g_tup, g_nil, g_cons, o_ret, o_nx, i_seq, List.set_cons_zero, List.set_cons_succ, decide_eq_true_eq, Bool.not_eq_true', decide_eq_false_iff_not, evP, Bool.false_eq_true, if_true, if_false, ite_true, ite_false, reduceIte, Bool.not_true, Bool.not_false, Option.some.injEq, q_pow10, Int.reduceToNat, Int.reducePow, Int.reduceAdd, Int.reduceSub, Int.reduceMul, Int.reduceNeg, Int.reduceLT, Int.reduceLE, Nat.reducePow, Nat.reduceLT, Nat.reduceLeDiff, Nat.reduceAdd, List.length_cons, List.length_nil, Int.neg_neg]
        refine (drawP p6 hq' (by decide) (by decide)).imp ?_
        rintro _ ⟨z, S7, rfl, z0, z1, p7, l7⟩
        exact ⟨trivial, z, z0, z1, rfl, p7, l7⟩
      rintro _ S7 ⟨w, w0, w1, rfl, p7, l7⟩
      refine seq_M (fun env S8 => ∃ (y : Nat) (e1 e2 e3 e4 e5 e6 : Int), ¬ P y ∧ S6.length ≤ y ∧ S8[y]? = some (.lst ([e1, e2, e3, e4, e5, e6].map .int)) ∧ env = [some (.ref p), some (zoneD os sp), some (.ref c), some (.tup (os.map .int)), some (.int sp), some (.int h), some (.int b), some (.int a), some (.ref rr), some (.int (qs.length : Int)), some (.int calm), some (.int (0 + (i : Int))), some (.ref q), some (.int lst), some (.int w), some (.ref y), v16] ∧ PotS P S8 ∧ LeP P S6 S8) ?_ ?_
      · simp only [ex, ev, M_bind, M_map, M_some, M_ite, t_eq, a_tup, al_eq, List.getElem?_cons_zero, List.getElem?_cons_succ, Option.bind_some, Option.map_some, q_add, q_sub, q_lt, q_le, q_gt, q_ge, q_eqI, q_neI, q_eqB, q_neB, q_isN, q_notN, isNon, q_ixT, q_ixR, atI_0, atI_1, atI_2, atI_3, atI_4, atI_5, atI_6, atI_7, q_slT, q_slR, q_revT, q_seqT, q_int, q_intB, q_max, q_min, q_abs, q_tupT, n_tup, n_int, n_bl, n_non, n_str, isi_ii, isi_ib, isi_tt, isi_itl, isi_btl, isi_ttl, isi_tl, isi_bb, u_bl, u_int, u_non, u_tup, g_name, g_tup, g_nil, g_cons, o_ret, o_nx, i_seq, List.set_cons_zero, List.set_cons_succ, decide_eq_true_eq, Bool.not_eq_true', decide_eq_false_iff_not, evP, Bool.false_eq_true, if_true, if_false, ite_true, ite_false, reduceIte, Bool.not_true, Bool.not_false, Option.some.injEq, q_pow10, Int.reduceToNat, Int.reducePow, Int.reduceAdd, Int.reduceSub, Int.reduceMul, Int.reduceNeg, Int.reduceLT, Int.reduceLE, Nat.reducePow, Nat.reduceLT, Nat.reduceLeDiff, Nat.reduceAdd, List.length_cons, List.length_nil, Int.neg_neg]
        refine (drawP p7 hq' (by decide) (by decide)).imp ?_
        rintro _ ⟨z, S8, rfl, z0, z1, p8, l8⟩
        simp only [ex, ev, M_bind, M_map, M_some, M_ite, t_eq, a_tup, al_eq, List.getElem?_cons_zero, List.getElem?_cons_succ, Option.bind_some, Option.map_some, q_add, q_sub, q_lt, q_le, q_gt, q_ge, q_eqI, q_neI, q_eqB, q_neB, q_isN, q_notN, isNon, q_ixT, q_ixR, atI_0, atI_1, atI_2, atI_3, atI_4, atI_5, atI_6, atI_7, q_slT, q_slR, q_revT, q_seqT, q_int, q_intB, q_max, q_min, q_abs, q_tupT, n_tup, n_int, n_bl, n_non, n_str, isi_ii, isi_ib, isi_tt, isi_itl, isi_btl, isi_ttl, isi_tl, isi_bb, u_bl, u_int, u_non, u_tup, g_name, g_tup, g_nil, g_cons, o_ret, o_nx, i_seq, List.set_cons_zero, List.set_cons_succ, decide_eq_true_eq, Bool.not_eq_true', decide_eq_false_iff_not, evP, Bool.false_eq_true, if_true, if_false, ite_true, ite_false, reduceIte, Bool.not_true, Bool.not_false, Option.some.injEq, q_pow10, Int.reduceToNat, Int.reducePow, Int.reduceAdd, Int.reduceSub, Int.reduceMul, Int.reduceNeg, Int.reduceLT, Int.reduceLE, Nat.reducePow, Nat.reduceLT, Nat.reduceLeDiff, Nat.reduceAdd, List.length_cons, List.length_nil, Int.neg_neg]
        refine (drawP p8 hq' (by decide) (by decide)).imp ?_
        rintro _ ⟨z', S9, rfl, z0', z1', p9, l9⟩
        simp only [ex, ev, M_bind, M_map, M_some, M_ite, t_eq, a_tup, al_eq, List.getElem?_cons_zero, List.getElem?_cons_succ, Option.bind_some, Option.map_some, q_add, q_sub, q_lt, q_le, q_gt, q_ge, q_eqI, q_neI, q_eqB, q_neB, q_isN, q_notN, isNon, q_ixT, q_ixR, atI_0, atI_1, atI_2, atI_3, atI_4, atI_5, atI_6, atI_7, q_slT, q_slR, q_revT, q_seqT, q_int, q_intB, q_max, q_min, q_abs, q_tupT, n_tup, n_int, n_bl, n_non, n_str, isi_ii, isi_ib, isi_tt, isi_itl, isi_btl, isi_ttl, isi_tl, isi_bb, u_bl, u_int, u_non, u_tup, g_name, g_tup, g_nil, g_cons, o_ret, o_nx, i_seq, List.set_cons_zero, List.set_cons_succ, decide_eq_true_eq, Bool.not_eq_true', decide_eq_false_iff_not, evP, Bool.false_eq_true, if_true, if_false, ite_true, ite_false, reduceIte, Bool.not_true, Bool.not_false, Option.some.injEq, q_pow10, Int.reduceToNat, Int.reducePow, Int.reduceAdd, Int.reduceSub, Int.reduceMul, Int.reduceNeg, Int.reduceLT, Int.reduceLE, Nat.reducePow, Nat.reduceLT, Nat.reduceLeDiff, Nat.reduceAdd, List.length_cons, List.length_nil, Int.neg_neg, show (6 : Nat) ≤ most by decide, Nat.zero_add]
        have ll : LeP P S6 S9 := (l7.trans l8).trans l9
        exact ⟨trivial, _, _, _, _, _, _, _, p9.new (Nat.le_refl _), ll.len p6 p9, get_new, rfl, p9.app _, ll.trans (LeP.app _)⟩
      rintro _ S8 ⟨y, e1, e2, e3, e4, e5, e6, ny, yl, gy, rfl, p8, l8⟩
      refine seq_M (fun env S9 => ∃ (y : Nat) (es : List Int), es.length = 8 ∧ ¬ P y ∧ S6.length ≤ y ∧ S9[y]? = some (.lst (es.map .int)) ∧ env = [some (.ref p), some (zoneD os sp), some (.ref c), some (.tup (os.map .int)), some (.int sp), some (.int h), some (.int b), some (.int a), some (.ref rr), some (.int (qs.length : Int)), some (.int calm), some (.int (0 + (i : Int))), some (.ref q), some (.int lst), some (.int w), some (.ref y), v16] ∧ PotS P S9 ∧ LeP P S6 S9) ?_ ?_
      · simp only [ex, ev, M_bind, M_map, M_some, M_ite, t_eq, a_tup, al_eq, List.getElem?_cons_zero, List.getElem?_cons_succ, Option.bind_some, Option.map_some, q_add, q_sub, q_lt, q_le, q_gt, q_ge, q_eqI, q_neI, q_eqB, q_neB, q_isN, q_notN, isNon, q_ixT, q_ixR, atI_0, atI_1, atI_2, atI_3, atI_4, atI_5, atI_6, atI_7, q_slT, q_slR, q_revT, q_seqT, q_int, q_intB, q_max, q_min, q_abs, q_tupT, n_tup, n_int, n_bl, n_non, n_str, isi_ii, isi_ib, isi_tt, isi_itl, isi_btl, isi_ttl, isi_tl, isi_bb, u_bl, u_int, u_non, u_tup, g_name, g_tup, g_nil, g_cons, o_ret, o_nx, i_seq, List.set_cons_zero, List.set_cons_succ, decide_eq_true_eq, Bool.not_eq_true', decide_eq_false_iff_not, evP, Bool.false_eq_true, if_true, if_false, ite_true, ite_false, reduceIte, Bool.not_true, Bool.not_false, Option.some.injEq, q_pow10, Int.reduceToNat, Int.reducePow, Int.reduceAdd, Int.reduceSub, Int.reduceMul, Int.reduceNeg, Int.reduceLT, Int.reduceLE, Nat.reducePow, Nat.reduceLT, Nat.reduceLeDiff, Nat.reduceAdd, List.length_cons, List.length_nil, Int.neg_neg, q_mul (i := 2) (j := sp) (by decide) (by decide) (by omega) (by omega)]
        refine (drawP p8 hq' (by omega) (by omega)).imp ?_
        rintro _ ⟨z, S9, rfl, z0, z1, p9, l9⟩
        simp only [ex, ev, M_bind, M_map, M_some, M_ite, t_eq, a_tup, al_eq, List.getElem?_cons_zero, List.getElem?_cons_succ, Option.bind_some, Option.map_some, q_add, q_sub, q_lt, q_le, q_gt, q_ge, q_eqI, q_neI, q_eqB, q_neB, q_isN, q_notN, isNon, q_ixT, q_ixR, atI_0, atI_1, atI_2, atI_3, atI_4, atI_5, atI_6, atI_7, q_slT, q_slR, q_revT, q_seqT, q_int, q_intB, q_max, q_min, q_abs, q_tupT, n_tup, n_int, n_bl, n_non, n_str, isi_ii, isi_ib, isi_tt, isi_itl, isi_btl, isi_ttl, isi_tl, isi_bb, u_bl, u_int, u_non, u_tup, g_name, g_tup, g_nil, g_cons, o_ret, o_nx, i_seq, List.set_cons_zero, List.set_cons_succ, decide_eq_true_eq, Bool.not_eq_true', decide_eq_false_iff_not, evP, Bool.false_eq_true, if_true, if_false, ite_true, ite_false, reduceIte, Bool.not_true, Bool.not_false, Option.some.injEq, q_pow10, Int.reduceToNat, Int.reducePow, Int.reduceAdd, Int.reduceSub, Int.reduceMul, Int.reduceNeg, Int.reduceLT, Int.reduceLE, Nat.reducePow, Nat.reduceLT, Nat.reduceLeDiff, Nat.reduceAdd, List.length_cons, List.length_nil, Int.neg_neg]
        refine (drawP p9 hq' (by omega) (by omega)).imp ?_
        rintro _ ⟨z', S10, rfl, z0', z1', p10, l10⟩
        simp only [ex, ev, M_bind, M_map, M_some, M_ite, t_eq, a_tup, al_eq, List.getElem?_cons_zero, List.getElem?_cons_succ, Option.bind_some, Option.map_some, q_add, q_sub, q_lt, q_le, q_gt, q_ge, q_eqI, q_neI, q_eqB, q_neB, q_isN, q_notN, isNon, q_ixT, q_ixR, atI_0, atI_1, atI_2, atI_3, atI_4, atI_5, atI_6, atI_7, q_slT, q_slR, q_revT, q_seqT, q_int, q_intB, q_max, q_min, q_abs, q_tupT, n_tup, n_int, n_bl, n_non, n_str, isi_ii, isi_ib, isi_tt, isi_itl, isi_btl, isi_ttl, isi_tl, isi_bb, u_bl, u_int, u_non, u_tup, g_name, g_tup, g_nil, g_cons, o_ret, o_nx, i_seq, List.set_cons_zero, List.set_cons_succ, decide_eq_true_eq, Bool.not_eq_true', decide_eq_false_iff_not, evP, Bool.false_eq_true, if_true, if_false, ite_true, ite_false, reduceIte, Bool.not_true, Bool.not_false, Option.some.injEq, q_pow10, Int.reduceToNat, Int.reducePow, Int.reduceAdd, Int.reduceSub, Int.reduceMul, Int.reduceNeg, Int.reduceLT, Int.reduceLE, Nat.reducePow, Nat.reduceLT, Nat.reduceLeDiff, Nat.reduceAdd, List.length_cons, List.length_nil, Int.neg_neg, show (2 : Nat) ≤ most by decide, Nat.zero_add]
        have ll : LeP P S6 S10 := (l8.trans l9).trans l10
        have gy' := Lq.app S10 [.lst [.int (h + 1 + z), .int (lst + z')]] _ _ (l10.at ny (l9.at ny gy))
        rw [q_addL gy' get_new (by simp; omega)]
        simp only [al_eq, M_some]
        have len := ll.len p6 p10
        refine ⟨trivial, _, [e1, e2, e3, e4, e5, e6] ++ [h + 1 + z, lst + z'], rfl, (p10.app [.lst [.int (h + 1 + z), .int (lst + z')]]).new (Nat.le_refl _), by simp; omega, get_new, rfl, (p10.app _).app _, (ll.trans (LeP.app _)).trans (LeP.app _)⟩
      rintro _ S9 ⟨y, es, el, ny, yl, gy, rfl, p9, l9⟩
      refine seq_M (fun env S10 => ∃ es : List Int, es.length = 9 ∧ S10[y]? = some (.lst (es.map .int)) ∧ env = [some (.ref p), some (zoneD os sp), some (.ref c), some (.tup (os.map .int)), some (.int sp), some (.int h), some (.int b), some (.int a), some (.ref rr), some (.int (qs.length : Int)), some (.int calm), some (.int (0 + (i : Int))), some (.ref q), some (.int lst), some (.int w), some (.ref y), v16] ∧ PotS P S10 ∧ LeP P S6 S10) ?_ ?_
      · simp only [ex, ev, M_bind, M_map, M_some, M_ite, t_eq, a_tup, al_eq, List.getElem?_cons_zero, List.getElem?_cons_succ, Option.bind_some, Option.map_some, q_add, q_sub, q_lt, q_le, q_gt, q_ge, q_eqI, q_neI, q_eqB, q_neB, q_isN, q_notN, isNon, q_ixT, q_ixR, atI_0, atI_1, atI_2, atI_3, atI_4, atI_5, atI_6, atI_7, q_slT, q_slR, q_revT, q_seqT, q_int, q_intB, q_max, q_min, q_abs, q_tupT, n_tup, n_int, n_bl, n_non, n_str, isi_ii, isi_ib, isi_tt, isi_itl, isi_btl, isi_ttl, isi_tl, isi_bb, u_bl, u_int, u_non, u_tup, g_name, g_tup, g_nil, g_cons, o_ret, o_nx, i_seq, List.set_cons_zero, List.set_cons_succ, decide_eq_true_eq, Bool.not_eq_true', decide_eq_false_iff_not, evP, Bool.false_eq_true, if_true, if_false, ite_true, ite_false, reduceIte, Bool.not_true, Bool.not_false, Option.some.injEq, q_pow10, Int.reduceToNat, Int.reducePow, Int.reduceAdd, Int.reduceSub, Int.reduceMul, Int.reduceNeg, Int.reduceLT, Int.reduceLE, Nat.reducePow, Nat.reduceLT, Nat.reduceLeDiff, Nat.reduceAdd, List.length_cons, List.length_nil, Int.neg_neg, q_isL gy]
        refine (drawP p9 hq' (by decide) (by decide)).imp ?_
        rintro _ ⟨z, S10, rfl, z0, z1, p10, l10⟩
        have gy' := l10.at ny gy
        simp only [ex, ev, M_bind, M_map, M_some, M_ite, t_eq, a_tup, al_eq, List.getElem?_cons_zero, List.getElem?_cons_succ, Option.bind_some, Option.map_some, q_add, q_sub, q_lt, q_le, q_gt, q_ge, q_eqI, q_neI, q_eqB, q_neB, q_isN, q_notN, isNon, q_ixT, q_ixR, atI_0, atI_1, atI_2, atI_3, atI_4, atI_5, atI_6, atI_7, q_slT, q_slR, q_revT, q_seqT, q_int, q_intB, q_max, q_min, q_abs, q_tupT, n_tup, n_int, n_bl, n_non, n_str, isi_ii, isi_ib, isi_tt, isi_itl, isi_btl, isi_ttl, isi_tl, isi_bb, u_bl, u_int, u_non, u_tup, g_name, g_tup, g_nil, g_cons, o_ret, o_nx, i_seq, List.set_cons_zero, List.set_cons_succ, decide_eq_true_eq, Bool.not_eq_true', decide_eq_false_iff_not, evP, Bool.false_eq_true, if_true, if_false, ite_true, ite_false, reduceIte, Bool.not_true, Bool.not_false, Option.some.injEq, q_pow10, Int.reduceToNat, Int.reducePow, Int.reduceAdd, Int.reduceSub, Int.reduceMul, Int.reduceNeg, Int.reduceLT, Int.reduceLE, Nat.reducePow, Nat.reduceLT, Nat.reduceLeDiff, Nat.reduceAdd, List.length_cons, List.length_nil, Int.neg_neg]
        rw [q_app gy' (by rw [List.length_map]; omega)]
        simp only [M_some]
        refine ⟨trivial, es ++ [h + 1 + z], by simp [el], ?_, trivial, p10.set ny _, fun k u nk e => ?_⟩
        · rw [List.getElem?_set_self (lt_of_get gy'), List.map_append]
          rfl
        · rw [List.getElem?_set_ne (by have := lt_of_get e; omega)]
          exact l10 k u nk (l9 k u nk e)
      rintro _ S10 ⟨es, el, gy, rfl, p10, l10⟩
      refine seq_M (fun env S11 => ∃ t : Int, 0 ≤ t ∧ (os.length ≤ 1 → t = 0) ∧ env = [some (.ref p), some (zoneD os sp), some (.ref c), some (.tup (os.map .int)), some (.int sp), some (.int h), some (.int b), some (.int a), some (.ref rr), some (.int (qs.length : Int)), some (.int calm), some (.int (0 + (i : Int))), some (.ref q), some (.int lst), some (.int w), some (.ref y), some (.int t)] ∧ S11[y]? = some (.lst (es.map .int)) ∧ PotS P S11 ∧ LeP P S6 S11) ?_ ?_
      · simp only [ex, ev, M_bind, M_map, M_some, M_ite, t_eq, a_tup, al_eq, List.getElem?_cons_zero, List.getElem?_cons_succ, Option.bind_some, Option.map_some, q_add, q_sub, q_lt, q_le, q_gt, q_ge, q_eqI, q_neI, q_eqB, q_neB, q_isN, q_notN, isNon, q_ixT, q_ixR, atI_0, atI_1, atI_2, atI_3, atI_4, atI_5, atI_6, atI_7, q_slT, q_slR, q_revT, q_seqT, q_int, q_intB, q_max, q_min, q_abs, q_tupT, n_tup, n_int, n_bl, n_non, n_str, isi_ii, isi_ib, isi_tt, isi_itl, isi_btl, isi_ttl, isi_tl, isi_bb, u_bl, u_int, u_non, u_tup, g_name, g_tup, g_nil, g_cons, o_ret, o_nx, i_seq, List.set_cons_zero, List.set_cons_succ, decide_eq_true_eq, Bool.not_eq_true', decide_eq_false_iff_not, evP, Bool.false_eq_true, if_true, if_false, ite_true, ite_false, reduceIte, Bool.not_true, Bool.not_false, Option.some.injEq, q_pow10, Int.reduceToNat, Int.reducePow, Int.reduceAdd, Int.reduceSub, Int.reduceMul, Int.reduceNeg, Int.reduceLT, Int.reduceLE, Nat.reducePow, Nat.reduceLT, Nat.reduceLeDiff, Nat.reduceAdd, List.length_cons, List.length_nil, Int.neg_neg]
        refine (drawP p10 hq' (by decide) (by decide)).imp ?_
        rintro _ ⟨z, S11, rfl, z0, z1, p11, l11⟩
        simp only [ex, ev, M_bind, M_map, M_some, M_ite, t_eq, a_tup, al_eq, List.getElem?_cons_zero, List.getElem?_cons_succ, Option.bind_some, Option.map_some, q_add, q_sub, q_lt, q_le, q_gt, q_ge, q_eqI, q_neI, q_eqB, q_neB, q_isN, q_notN, isNon, q_ixT, q_ixR, atI_0, atI_1, atI_2, atI_3, atI_4, atI_5, atI_6, atI_7, q_slT, q_slR, q_revT, q_seqT, q_int, q_intB, q_max, q_min, q_abs, q_tupT, n_tup, n_int, n_bl, n_non, n_str, isi_ii, isi_ib, isi_tt, isi_itl, isi_btl, isi_ttl, isi_tl, isi_bb, u_bl, u_int, u_non, u_tup, g_name, g_tup, g_nil, g_cons, o_ret, o_nx, i_seq, List.set_cons_zero, List.set_cons_succ, decide_eq_true_eq, Bool.not_eq_true', decide_eq_false_iff_not, evP, Bool.false_eq_true, if_true, if_false, ite_true, ite_false, reduceIte, Bool.not_true, Bool.not_false, Option.some.injEq, q_pow10, Int.reduceToNat, Int.reducePow, Int.reduceAdd, Int.reduceSub, Int.reduceMul, Int.reduceNeg, Int.reduceLT, Int.reduceLE, Nat.reducePow, Nat.reduceLT, Nat.reduceLeDiff, Nat.reduceAdd, List.length_cons, List.length_nil, Int.neg_neg, q_len q_seqT, List.length_map]
        by_cases c1 : (1 : Int) < (os.length : Int)
        · simp only [c1, decide_true, if_true, q_mul (i := z) (j := 1) (by omega) (by omega) (by decide) (by decide), M_some, g_name, Option.map_some, List.set_cons_succ, List.set_cons_zero]
          exact ⟨trivial, z * 1, by omega, fun e => by omega, rfl, l11.at ny gy, p11, l10.trans l11⟩
        · simp only [c1, decide_false, Bool.false_eq_true, if_false, q_mul (i := z) (j := 0) (by omega) (by omega) (by decide) (by decide), M_some, g_name, Option.map_some, List.set_cons_succ, List.set_cons_zero]
          exact ⟨trivial, z * 0, by omega, fun e => by omega, rfl, l11.at ny gy, p11, l10.trans l11⟩
      rintro _ S11 ⟨t, t0, t1, rfl, gy, p11, l11⟩
      obtain ⟨v, _, _, hv⟩ := atI_ints (ns := es) w0 (by omega)
      refine seq_M (fun env S12 => ∃ h2 : Int, h < h2 ∧ env = [some (.ref p), some (zoneD os sp), some (.ref c), some (.tup (os.map .int)), some (.int sp), some (.int h2), some (.int b), some (.int a), some (.ref rr), some (.int (qs.length : Int)), some (.int calm), some (.int (0 + (i : Int))), some (.ref q), some (.int lst), some (.int w), some (.ref y), some (.int t)] ∧ S11 = S12) ?_ ?_
      · simp only [ex, ev, M_bind, M_map, M_some, M_ite, t_eq, a_tup, al_eq, List.getElem?_cons_zero, List.getElem?_cons_succ, Option.bind_some, Option.map_some, q_add, q_sub, q_lt, q_le, q_gt, q_ge, q_eqI, q_neI, q_eqB, q_neB, q_isN, q_notN, isNon, q_ixT, q_ixR, atI_0, atI_1, atI_2, atI_3, atI_4, atI_5, atI_6, atI_7, q_slT, q_slR, q_revT, q_seqT, q_int, q_intB, q_max, q_min, q_abs, q_tupT, n_tup, n_int, n_bl, n_non, n_str, isi_ii, isi_ib, isi_tt, isi_itl, isi_btl, isi_ttl, isi_tl, isi_bb, u_bl, u_int, u_non, u_tup, g_name, g_tup, g_nil, g_cons, o_ret, o_nx, i_seq, List.set_cons_zero, List.set_cons_succ, decide_eq_true_eq, Bool.not_eq_true', decide_eq_false_iff_not, evP, Bool.false_eq_true, if_true, if_false, ite_true, ite_false, reduceIte, Bool.not_true, Bool.not_false, Option.some.injEq, q_pow10, Int.reduceToNat, Int.reducePow, Int.reduceAdd, Int.reduceSub, Int.reduceMul, Int.reduceNeg, Int.reduceLT, Int.reduceLE, Nat.reducePow, Nat.reduceLT, Nat.reduceLeDiff, Nat.reduceAdd, List.length_cons, List.length_nil, Int.neg_neg, q_ixL gy, hv]
        exact ⟨trivial, if v > h + 1 then v else h + 1, by split <;> omega, rfl, trivial⟩
      rintro _ _ ⟨h2, hh, rfl, rfl⟩
      have lS : LeP P S S11 := l6.trans l11
      have fin : ∀ (h3 b2 a2 : Int) (S12 : Hd), h < h3 → 0 ≤ a2 → a2 < os.length → PotS P S12 → LeP P S6 S12 → ∃ (h b a : Int) (v11 v12 v13 v14 v15 v16 : Option D) (ls : List (Int × Int)), [some (D.ref p), some (zoneD os sp), some (.ref c), some (.tup (os.map .int)), some (.int sp), some (.int h3), some (.int b2), some (.int a2), some (.ref rr), some (.int (qs.length : Int)), some (.int calm), some (.int (0 + (i : Int))), some (.ref q), some (.int lst), some (.int w), some (.ref y), some (.int t)] = [some (.ref p), some (zoneD os sp), some (.ref c), some (.tup (os.map .int)), some (.int sp), some (.int h), some (.int b), some (.int a), some (.ref rr), some (.int (qs.length : Int)), some (.int calm), v11, v12, v13, v14, v15, v16] ∧ S12[rr]? = some (.lst (ls.map jumpD)) ∧ Looks os ls ∧ ls.length = 0 + i + 1 ∧ 0 ≤ a ∧ a < os.length ∧ (∀ x, (ls.map (·.1)).getLast? = some x → x < h) ∧ PotS P S12 ∧ LeP P S S12 :=
        fun h3 b2 a2 S12 e1 e2 e3 e4 e5 => ⟨h3, b2, a2, _, _, _, _, _, _, ls, rfl, e5.at hr0 g6, hk6, by omega, e2, e3, fun x ex => by rw [kh6 x ex]; exact e1, e4, l6.trans e5⟩
      have still : ∀ S12 : Hd, items .range1 [.int (qs.length : Int)] S12 = some ((List.range (qs.length : Int).toNat).map fun (z : Nat) => .int (0 + (z : Int))) := fun S12 => i_rng (by omega) (by omega)
      refine ite_M ?_
      by_cases ct : 0 < t
      · have hos : 1 < os.length := by
          rcases Nat.lt_or_ge 1 os.length with z | z
          · exact z
          · have := t1 z
            omega
        simp only [ev, M_bind, M_map, M_some, M_ite, t_eq, a_tup, al_eq, List.getElem?_cons_zero, List.getElem?_cons_succ, Option.bind_some, Option.map_some, q_add, q_sub, q_lt, q_le, q_gt, q_ge, q_eqI, q_neI, q_eqB, q_neB, q_isN, q_notN, isNon, q_ixT, q_ixR, atI_0, atI_1, atI_2, atI_3, atI_4, atI_5, atI_6, atI_7, q_slT, q_slR, q_revT, q_seqT, q_int, q_intB, q_max, q_min, q_abs, q_tupT, n_tup, n_int, n_bl, n_non, n_str, isi_ii, isi_ib, isi_tt, isi_itl, isi_btl, isi_ttl, isi_tl, isi_bb, u_bl, u_int, u_non, u_tup, g_name, g_tup, g_nil, g_cons, o_ret, o_nx, i_seq, List.set_cons_zero, List.set_cons_succ, decide_eq_true_eq, Bool.not_eq_true', decide_eq_false_iff_not, evP, Bool.false_eq_true, if_true, if_false, ite_true, ite_false, reduceIte, Bool.not_true, Bool.not_false, Option.some.injEq, q_pow10, Int.reduceToNat, Int.reducePow, Int.reduceAdd, Int.reduceSub, Int.reduceMul, Int.reduceNeg, Int.reduceLT, Int.reduceLE, Nat.reducePow, Nat.reduceLT, Nat.reduceLeDiff, Nat.reduceAdd, List.length_cons, List.length_nil, Int.neg_neg, ct, decide_true]
        refine seq_M (fun env S12 => ∃ a2 : Int, 0 ≤ a2 ∧ a2 < os.length ∧ env = [some (.ref p), some (zoneD os sp), some (.ref c), some (.tup (os.map .int)), some (.int sp), some (.int h2), some (.int b), some (.int a2), some (.ref rr), some (.int (qs.length : Int)), some (.int calm), some (.int (0 + (i : Int))), some (.ref q), some (.int lst), some (.int w), some (.ref y), some (.int t)] ∧ PotS P S12 ∧ LeP P S6 S12) ?_ ?_
        · simp only [ex, ev, M_bind, M_map, M_some, M_ite, t_eq, a_tup, al_eq, List.getElem?_cons_zero, List.getElem?_cons_succ, Option.bind_some, Option.map_some, q_add, q_sub, q_lt, q_le, q_gt, q_ge, q_eqI, q_neI, q_eqB, q_neB, q_isN, q_notN, isNon, q_ixT, q_ixR, atI_0, atI_1, atI_2, atI_3, atI_4, atI_5, atI_6, atI_7, q_slT, q_slR, q_revT, q_seqT, q_int, q_intB, q_max, q_min, q_abs, q_tupT, n_tup, n_int, n_bl, n_non, n_str, isi_ii, isi_ib, isi_tt, isi_itl, isi_btl, isi_ttl, isi_tl, isi_bb, u_bl, u_int, u_non, u_tup, g_name, g_tup, g_nil, g_cons, o_ret, o_nx, i_seq, List.set_cons_zero, List.set_cons_succ, decide_eq_true_eq, Bool.not_eq_true', decide_eq_false_iff_not, evP, Bool.false_eq_true, if_true, if_false, ite_true, ite_false, reduceIte, Bool.not_true, Bool.not_false, Option.some.injEq, q_pow10, Int.reduceToNat, Int.reducePow, Int.reduceAdd, Int.reduceSub, Int.reduceMul, Int.reduceNeg, Int.reduceLT, Int.reduceLE, Nat.reducePow, Nat.reduceLT, Nat.reduceLeDiff, Nat.reduceAdd, List.length_cons, List.length_nil, Int.neg_neg, q_len q_seqT, List.length_map]
          refine (drawP p11 hq' (by omega) (by omega)).imp ?_
          rintro _ ⟨z, S12, rfl, z0, z1, p12, l12⟩
          simp only [ex, ev, M_bind, M_map, M_some, M_ite, t_eq, a_tup, al_eq, List.getElem?_cons_zero, List.getElem?_cons_succ, Option.bind_some, Option.map_some, q_add, q_sub, q_lt, q_le, q_gt, q_ge, q_eqI, q_neI, q_eqB, q_neB, q_isN, q_notN, isNon, q_ixT, q_ixR, atI_0, atI_1, atI_2, atI_3, atI_4, atI_5, atI_6, atI_7, q_slT, q_slR, q_revT, q_seqT, q_int, q_intB, q_max, q_min, q_abs, q_tupT, n_tup, n_int, n_bl, n_non, n_str, isi_ii, isi_ib, isi_tt, isi_itl, isi_btl, isi_ttl, isi_tl, isi_bb, u_bl, u_int, u_non, u_tup, g_name, g_tup, g_nil, g_cons, o_ret, o_nx, i_seq, List.set_cons_zero, List.set_cons_succ, decide_eq_true_eq, Bool.not_eq_true', decide_eq_false_iff_not, evP, Bool.false_eq_true, if_true, if_false, ite_true, ite_false, reduceIte, Bool.not_true, Bool.not_false, Option.some.injEq, q_pow10, Int.reduceToNat, Int.reducePow, Int.reduceAdd, Int.reduceSub, Int.reduceMul, Int.reduceNeg, Int.reduceLT, Int.reduceLE, Nat.reducePow, Nat.reduceLT, Nat.reduceLeDiff, Nat.reduceAdd, List.length_cons, List.length_nil, Int.neg_neg, q_len q_seqT, List.length_map, q_mod (show (0 : Int) < (os.length : Int) by omega)]
          exact ⟨trivial, _, Int.emod_nonneg _ (by omega), Int.emod_lt_of_pos _ (by omega), rfl, p12, l11.trans l12⟩
        rintro _ S12 ⟨a2, b0, b1, rfl, p12, l12⟩
        by_cases cc : (0 + (i : Int)) < calm
        · simp only [ex, ev, M_bind, M_map, M_some, M_ite, t_eq, a_tup, al_eq, List.getElem?_cons_zero, List.getElem?_cons_succ, Option.bind_some, Option.map_some, q_add, q_sub, q_lt, q_le, q_gt, q_ge, q_eqI, q_neI, q_eqB, q_neB, q_isN, q_notN, isNon, q_ixT, q_ixR, atI_0, atI_1, atI_2, atI_3, atI_4, atI_5, atI_6, atI_7, q_slT, q_slR, q_revT, q_seqT, q_int, q_intB, q_max, q_min, q_abs, q_tupT, n_tup, n_int, n_bl, n_non, n_str, isi_ii, isi_ib, isi_tt, isi_itl, isi_btl, isi_ttl, isi_tl, isi_bb, u_bl, u_int, u_non, u_tup, g_name, g_tup, g_nil, g_cons, o_ret, o_nx, i_seq, List.set_cons_zero, List.set_cons_succ, decide_eq_true_eq, Bool.not_eq_true', decide_eq_false_iff_not, evP, Bool.false_eq_true, if_true, if_false, ite_true, ite_false, reduceIte, Bool.not_true, Bool.not_false, Option.some.injEq, q_pow10, Int.reduceToNat, Int.reducePow, Int.reduceAdd, Int.reduceSub, Int.reduceMul, Int.reduceNeg, Int.reduceLT, Int.reduceLE, Nat.reducePow, Nat.reduceLT, Nat.reduceLeDiff, Nat.reduceAdd, List.length_cons, List.length_nil, Int.neg_neg, cc, decide_true]
          exact ⟨still _, fin _ _ _ _ (by split <;> omega) b0 b1 p12 l12⟩
        · simp only [ex, ev, M_bind, M_map, M_some, M_ite, t_eq, a_tup, al_eq, List.getElem?_cons_zero, List.getElem?_cons_succ, Option.bind_some, Option.map_some, q_add, q_sub, q_lt, q_le, q_gt, q_ge, q_eqI, q_neI, q_eqB, q_neB, q_isN, q_notN, isNon, q_ixT, q_ixR, atI_0, atI_1, atI_2, atI_3, atI_4, atI_5, atI_6, atI_7, q_slT, q_slR, q_revT, q_seqT, q_int, q_intB, q_max, q_min, q_abs, q_tupT, n_tup, n_int, n_bl, n_non, n_str, isi_ii, isi_ib, isi_tt, isi_itl, isi_btl, isi_ttl, isi_tl, isi_bb, u_bl, u_int, u_non, u_tup, g_name, g_tup, g_nil, g_cons, o_ret, o_nx, i_seq, List.set_cons_zero, List.set_cons_succ, decide_eq_true_eq, Bool.not_eq_true', decide_eq_false_iff_not, evP, Bool.false_eq_true, if_true, if_false, ite_true, ite_false, reduceIte, Bool.not_true, Bool.not_false, Option.some.injEq, q_pow10, Int.reduceToNat, Int.reducePow, Int.reduceAdd, Int.reduceSub, Int.reduceMul, Int.reduceNeg, Int.reduceLT, Int.reduceLE, Nat.reducePow, Nat.reduceLT, Nat.reduceLeDiff, Nat.reduceAdd, List.length_cons, List.length_nil, Int.neg_neg, cc, decide_false]
          exact ⟨still _, fin _ _ _ _ hh b0 b1 p12 l12⟩
      · simp only [ex, ev, M_bind, M_map, M_some, M_ite, t_eq, a_tup, al_eq, List.getElem?_cons_zero, List.getElem?_cons_succ, Option.bind_some, Option.map_some, q_add, q_sub, q_lt, q_le, q_gt, q_ge, q_eqI, q_neI, q_eqB, q_neB, q_isN, q_notN, isNon, q_ixT, q_ixR, atI_0, atI_1, atI_2, atI_3, atI_4, atI_5, atI_6, atI_7, q_slT, q_slR, q_revT, q_seqT, q_int, q_intB, q_max, q_min, q_abs, q_tupT, n_tup, n_int, n_bl, n_non, n_str, isi_ii, isi_ib, isi_tt, isi_itl, isi_btl, isi_ttl, isi_tl, isi_bb, u_bl, u_int, u_non, u_tup, g_name, g_tup, g_nil, g_cons, o_ret, o_nx, i_seq, List.set_cons_zero, List.set_cons_succ, decide_eq_true_eq, Bool.not_eq_true', decide_eq_false_iff_not, evP, Bool.false_eq_true, if_true, if_false, ite_true, ite_false, reduceIte, Bool.not_true, Bool.not_false, Option.some.injEq, q_pow10, Int.reduceToNat, Int.reducePow, Int.reduceAdd, Int.reduceSub, Int.reduceMul, Int.reduceNeg, Int.reduceLT, Int.reduceLE, Nat.reducePow, Nat.reduceLT, Nat.reduceLeDiff, Nat.reduceAdd, List.length_cons, List.length_nil, Int.neg_neg, ct, decide_false]
        exact ⟨still _, fin _ _ _ _ hh a0 a1 p11 l11⟩
    · rintro env S5 ⟨h, b, a, v11, v12, v13, v14, v15, v16, ls, rfl, g5, hk, kl, a0, a1, kh, p5, l5⟩
      refine ⟨rfl, _, _, _, _, _, _, _, _, _, ls, rfl, g5, hk, ?_, p5, l5⟩
      simp at kl
      omega
  rintro _ S5 ⟨v5, v6, v7, v11, v12, v13, v14, v15, v16, ls, rfl, g5, hk, kl, p5, l5⟩
  simp only [ex, ev, M_bind, M_map, M_some, M_ite, t_eq, a_tup, al_eq, List.getElem?_cons_zero, List.getElem?_cons_succ, Option.bind_some, Option.map_some, q_add, q_sub, q_lt, q_le, q_gt, q_ge, q_eqI, q_neI, q_eqB, q_neB, q_isN, q_notN, isNon, q_ixT, q_ixR, atI_0, atI_1, atI_2, atI_3, atI_4, atI_5, atI_6, atI_7, q_slT, q_slR, q_revT, q_seqT, q_int, q_intB, q_max, q_min, q_abs, q_tupT, n_tup, n_int, n_bl, n_non, n_str, isi_ii, isi_ib, isi_tt, isi_itl, isi_btl, isi_ttl, isi_tl, isi_bb, u_bl, u_int, u_non, u_tup, g_name, g_tup, g_nil, g_cons, o_ret, o_nx, i_seq, List.set_cons_zero, List.set_cons_succ, decide_eq_true_eq, Bool.not_eq_true', decide_eq_false_iff_not, evP, Bool.false_eq_true, if_true, if_false, ite_true, ite_false, reduceIte, Bool.not_true, Bool.not_false, Option.some.injEq, q_pow10, Int.reduceToNat, Int.reducePow, Int.reduceAdd, Int.reduceSub, Int.reduceMul, Int.reduceNeg, Int.reduceLT, Int.reduceLE, Nat.reducePow, Nat.reduceLT, Nat.reduceLeDiff, Nat.reduceAdd, List.length_cons, List.length_nil, Int.neg_neg, q_tupL g5]
  exact ⟨ls, _, rfl, hk, kl, p5, l5⟩
end Lw

namespace Lw
open PySem L2 Ix
/-! ### how crowded looks are -/
def atL (ls : List (Int × Int)) (k : Nat) : Int × Int := ls.getD k (0, 0)
theorem atL_of {ls : List (Int × Int)} {k : Nat} {l : Int × Int} (h : ls[k]? = some l) : atL ls k = l := by
  unfold atL
  rw [List.getD_eq_getElem?_getD, h]
  rfl
theorem atL_get {ls : List (Int × Int)} {k : Nat} (h : k < ls.length) : ls[k]? = some (atL ls k) := by
  have e := List.getElem?_eq_getElem h
  rw [atL_of e, e]
theorem atI_look {ls : List (Int × Int)} {i : Int} (h0 : 0 ≤ i) (h : i < ls.length) : atI (ls.map jumpD) i = some (.tup [.int (atL ls i.toNat).1, .int (atL ls i.toNat).2]) := by
  rw [atI_lt h0 (by simpa using h), List.getElem?_map, atL_get (by omega)]
  rfl
def chg (ls : List (Int × Int)) : Nat → Int
  | 0 => 0
  | k + 1 => chg ls k + (if (atL ls (k + 1)).2 = (atL ls k).2 then 0 else 1)
theorem chg_bd (ls : List (Int × Int)) : ∀ k, 0 ≤ chg ls k ∧ chg ls k ≤ k
  | 0 => ⟨by simp [chg], by simp [chg]⟩
  | k + 1 => by
    have := chg_bd ls k
    unfold chg
    split <;> omega
def loadK (sp : Int) (ls : List (Int × Int)) (k : Nat) : Int := chg ls k * sp - (atL ls k).1
def loadsF (sp : Int) (ls : List (Int × Int)) : List Int := (List.range ls.length).map (loadK sp ls)
/-- the stretch from the look a to the look b is crowded -/
def Cw (sp : Int) (ls : List (Int × Int)) (a b : Nat) : Prop := sp ≤ loadK sp ls b - loadK sp ls a
theorem cw_iff {sp : Int} {ls : List (Int × Int)} {a b : Nat} : Cw sp ls a b ↔ (chg ls b - chg ls a - 1) * sp > (atL ls b).1 - (atL ls a).1 - 1 := by
  unfold Cw loadK
  rw [Int.sub_mul, Int.sub_mul, Int.one_mul]
  omega
/-- which stretch is told -/
def Told (sp : Int) (ls : List (Int × Int)) : Option (Nat × Nat) → Prop
  | none => ∀ b a, a < b → b < ls.length → ¬ Cw sp ls a b
  | some (a, b) => a < b ∧ b < ls.length ∧ Cw sp ls a b ∧ (∀ a', a < a' → a' < b → ¬ Cw sp ls a' b) ∧ ∀ b' a', b' < b → a' < b' → ¬ Cw sp ls a' b'
theorem told_one {sp : Int} {ls : List (Int × Int)} : ∀ {c d : Option (Nat × Nat)}, Told sp ls c → Told sp ls d → c = d
  | none, none, _, _ => rfl
  | none, some (a, b), h, k => absurd k.2.2.1 (h b a k.1 k.2.1)
  | some (a, b), none, h, k => absurd h.2.2.1 (k b a h.1 h.2.1)
  | some (a, b), some (a', b'), h, k => by
    obtain ⟨h1, h2, h3, h4, h5⟩ := h
    obtain ⟨k1, k2, k3, k4, k5⟩ := k
    have eb : b = b' := by
      rcases Nat.lt_trichotomy b b' with q | q | q
      · exact absurd h3 (k5 b a q h1)
      · exact q
      · exact absurd k3 (h5 b' a' q k1)
    subst eb
    rcases Nat.lt_trichotomy a a' with q | q | q
    · exact absurd k3 (h4 a' q k1)
    · rw [q]
    · exact absurd h3 (k4 a q h1)
def toldD : Option (Nat × Nat) → D
  | none => .non
  | some (a, b) => .tup [.int a, .int b]
theorem mapIdx_get {xs : List D} {i : Nat} {d : D} (h : (xs.mapIdx fun i x => D.tup [.int (i : Int), x])[i]? = some d) : ∃ x, xs[i]? = some x ∧ d = .tup [.int (i : Int), x] := by
  rw [List.getElem?_mapIdx] at h
  cases hx : xs[i]? with
  | none => rw [hx] at h; cases h
  | some x =>
    rw [hx] at h
    simp only [Option.map_some, Option.some.injEq] at h
    exact ⟨x, rfl, h.symm⟩
theorem loads_ok {n : Nat} {S : Hd} {sp : Int} {ls : List (Int × Int)} (s0 : 0 < sp) (s1 : sp ≤ 1000000) (hl : ls.length ≤ 900) {Q : D × Hd → Prop} (hq : ∀ (j : Nat) (S2 : Hd), S.length ≤ j → S2[j]? = some (.lst ((loadsF sp ls).map .int)) → Lq S S2 → Q (.ref j, S2)) : M (run T (n + 1) 35 [.int sp, lookD ls] S) Q := by
  have hm := most_big
  refine run_M T_loads rfl ?_
  show M (ex (run T n) b_loads [some (.int sp), some (lookD ls), none, none, none, none] S) _
  unfold b_loads
  refine seq_M (fun env S1 => S1 = S ++ [.lst []] ∧ env = [some (.int sp), some (lookD ls), some (.ref S.length), none, none, none]) ?_ ?_
  · simp only [ex, ev, M_bind, M_map, M_some, M_ite, t_eq, a_tup, al_eq, List.getElem?_cons_zero, List.getElem?_cons_succ, Option.bind_some, Option.map_some, q_add, q_sub, q_lt, q_le, q_gt, q_ge, q_eqI, q_neI, q_eqB, q_neB, q_isN, q_notN, isNon, q_ixT, q_ixR, atI_0, atI_1, atI_2, atI_3, atI_4, atI_5, atI_6, atI_7, q_slT, q_slR, q_revT, q_seqT, q_int, q_intB, q_max, q_min, q_abs, q_tupT, n_tup, n_int, n_bl, n_non, n_str, isi_ii, isi_ib, isi_tt, isi_itl, isi_btl, isi_ttl, isi_tl, isi_bb, u_bl, u_int, u_non, u_tup, g_name, g_tup, g_nil, g_cons, o_ret, o_nx, i_seq, List.set_cons_zero, List.set_cons_succ, decide_eq_true_eq, Bool.not_eq_true', decide_eq_false_iff_not, evP, Bool.false_eq_true, if_true, if_false, ite_true, ite_false, reduceIte, Bool.not_true, Bool.not_false, Option.some.injEq, q_pow10, Int.reduceToNat, Int.reducePow, Int.reduceAdd, Int.reduceSub, Int.reduceMul, Int.reduceNeg, Int.reduceLT, Int.reduceLE, Nat.reducePow, Nat.reduceLT, Nat.reduceLeDiff, Nat.reduceAdd, List.length_cons, List.length_nil, Int.neg_neg, show (0 : Nat) ≤ most by decide]
    exact ⟨trivial, trivial, trivial⟩
  rintro _ _ ⟨rfl, rfl⟩
  refine seq_M (fun env S1 => S1 = S ++ [.lst []] ∧ env = [some (.int sp), some (lookD ls), some (.ref S.length), some (.int 0), none, none]) ?_ ?_
  · simp only [ex, ev, M_bind, M_map, M_some, M_ite, t_eq, a_tup, al_eq, List.getElem?_cons_zero, List.getElem?_cons_succ, Option.bind_some, Option.map_some, q_add, q_sub, q_lt, q_le, q_gt, q_ge, q_eqI, q_neI, q_eqB, q_neB, q_isN, q_notN, isNon, q_ixT, q_ixR, atI_0, atI_1, atI_2, atI_3, atI_4, atI_5, atI_6, atI_7, q_slT, q_slR, q_revT, q_seqT, q_int, q_intB, q_max, q_min, q_abs, q_tupT, n_tup, n_int, n_bl, n_non, n_str, isi_ii, isi_ib, isi_tt, isi_itl, isi_btl, isi_ttl, isi_tl, isi_bb, u_bl, u_int, u_non, u_tup, g_name, g_tup, g_nil, g_cons, o_ret, o_nx, i_seq, List.set_cons_zero, List.set_cons_succ, decide_eq_true_eq, Bool.not_eq_true', decide_eq_false_iff_not, evP, Bool.false_eq_true, if_true, if_false, ite_true, ite_false, reduceIte, Bool.not_true, Bool.not_false, Option.some.injEq, q_pow10, Int.reduceToNat, Int.reducePow, Int.reduceAdd, Int.reduceSub, Int.reduceMul, Int.reduceNeg, Int.reduceLT, Int.reduceLE, Nat.reducePow, Nat.reduceLT, Nat.reduceLeDiff, Nat.reduceAdd, List.length_cons, List.length_nil, Int.neg_neg]
    exact ⟨trivial, trivial, trivial⟩
  rintro _ _ ⟨rfl, rfl⟩
  refine seq_M (fun env S1 => ∃ v3 v4 v5 : Option D, S1[S.length]? = some (.lst ((loadsF sp ls).map .int)) ∧ Lq S S1 ∧ env = [some (.int sp), some (lookD ls), some (.ref S.length), v3, v4, v5]) ?_ ?_
  · refine for_M ?_
    simp only [ev, M_bind, M_map, M_some, M_ite, t_eq, a_tup, al_eq, List.getElem?_cons_zero, List.getElem?_cons_succ, Option.bind_some, Option.map_some, q_add, q_sub, q_lt, q_le, q_gt, q_ge, q_eqI, q_neI, q_eqB, q_neB, q_isN, q_notN, isNon, q_ixT, q_ixR, atI_0, atI_1, atI_2, atI_3, atI_4, atI_5, atI_6, atI_7, q_slT, q_slR, q_revT, q_seqT, q_int, q_intB, q_max, q_min, q_abs, q_tupT, n_tup, n_int, n_bl, n_non, n_str, isi_ii, isi_ib, isi_tt, isi_itl, isi_btl, isi_ttl, isi_tl, isi_bb, u_bl, u_int, u_non, u_tup, g_name, g_tup, g_nil, g_cons, o_ret, o_nx, i_seq, List.set_cons_zero, List.set_cons_succ, decide_eq_true_eq, Bool.not_eq_true', decide_eq_false_iff_not, evP, Bool.false_eq_true, if_true, if_false, ite_true, ite_false, reduceIte, Bool.not_true, Bool.not_false, Option.some.injEq, q_pow10, Int.reduceToNat, Int.reducePow, Int.reduceAdd, Int.reduceSub, Int.reduceMul, Int.reduceNeg, Int.reduceLT, Int.reduceLE, Nat.reducePow, Nat.reduceLT, Nat.reduceLeDiff, Nat.reduceAdd, List.length_cons, List.length_nil, Int.neg_neg]
    refine ⟨[lookD ls], (ls.map jumpD).mapIdx fun i x => .tup [.int (i : Int), x], rfl, rfl, ?_⟩
    refine M_loopS (m := 0) (fun i env S1 => ∃ v4 v5 : Option D, S1[S.length]? = some (.lst (((List.range i).map (loadK sp ls)).map .int)) ∧ Lq S S1 ∧ env = [some (.int sp), some (lookD ls), some (.ref S.length), some (.int (chg ls (i - 1))), v4, v5]) ⟨none, none, get_new, Lq.app _ _, rfl⟩ ?_ ?_
    · rintro i d env S1 hi ⟨v4, v5, g, l, rfl⟩
      obtain ⟨x, hx, rfl⟩ := mapIdx_get hi
      obtain ⟨lk, hlk, _, rfl⟩ := map_get hx
      have il : i < ls.length := (List.getElem?_eq_some_iff.mp hlk).1
      have ea := atL_of hlk
      rw [show jumpD lk = .tup [.int lk.1, .int lk.2] from rfl]
      simp only [Nat.zero_add, asgG, Option.bind_some, List.set_cons_succ, List.set_cons_zero] at g ⊢
      refine seq_M (fun env S2 => S1 = S2 ∧ env = [some (.int sp), some (lookD ls), some (.ref S.length), some (.int (chg ls i)), some (.int (i : Int)), some (.tup [.int lk.1, .int lk.2])]) ?_ ?_
      · cases i with
        | zero =>
          simp only [ex, ev, M_bind, M_map, M_some, M_ite, t_eq, a_tup, al_eq, List.getElem?_cons_zero, List.getElem?_cons_succ, Option.bind_some, Option.map_some, q_add, q_sub, q_lt, q_le, q_gt, q_ge, q_eqI, q_neI, q_eqB, q_neB, q_isN, q_notN, isNon, q_ixT, q_ixR, atI_0, atI_1, atI_2, atI_3, atI_4, atI_5, atI_6, atI_7, q_slT, q_slR, q_revT, q_seqT, q_int, q_intB, q_max, q_min, q_abs, q_tupT, n_tup, n_int, n_bl, n_non, n_str, isi_ii, isi_ib, isi_tt, isi_itl, isi_btl, isi_ttl, isi_tl, isi_bb, u_bl, u_int, u_non, u_tup, g_name, g_tup, g_nil, g_cons, o_ret, o_nx, i_seq, List.set_cons_zero, List.set_cons_succ, decide_eq_true_eq, Bool.not_eq_true', decide_eq_false_iff_not, evP, Bool.false_eq_true, if_true, if_false, ite_true, ite_false, reduceIte, Bool.not_true, Bool.not_false, Option.some.injEq, q_pow10, Int.reduceToNat, Int.reducePow, Int.reduceAdd, Int.reduceSub, Int.reduceMul, Int.reduceNeg, Int.reduceLT, Int.reduceLE, Nat.reducePow, Nat.reduceLT, Nat.reduceLeDiff, Nat.reduceAdd, List.length_cons, List.length_nil, Int.neg_neg, show ((0 : Nat) : Int) = 0 from rfl, show ((0 : Int) < 0) = False from eq_false (by decide), decide_false]
          exact ⟨trivial, trivial, trivial⟩
        | succ i =>
          have h0 : ((0 : Int) < ((i + 1 : Nat) : Int)) = True := eq_true (by omega)
          have e1 : ixD (lookD ls) (.int (((i + 1 : Nat) : Int) - 1)) S1 = some (.tup [.int (atL ls i).1, .int (atL ls i).2], S1) := by
            unfold lookD
            rw [q_ixT, atI_look (by omega) (by omega), show ((((i + 1 : Nat) : Int) - 1).toNat) = i by omega]
            rfl
          simp only [ex, ev, M_bind, M_map, M_some, M_ite, t_eq, a_tup, al_eq, List.getElem?_cons_zero, List.getElem?_cons_succ, Option.bind_some, Option.map_some, q_add, q_sub, q_lt, q_le, q_gt, q_ge, q_eqI, q_neI, q_eqB, q_neB, q_isN, q_notN, isNon, q_ixT, q_ixR, atI_0, atI_1, atI_2, atI_3, atI_4, atI_5, atI_6, atI_7, q_slT, q_slR, q_revT, q_seqT, q_int, q_intB, q_max, q_min, q_abs, q_tupT, n_tup, n_int, n_bl, n_non, n_str, isi_ii, isi_ib, isi_tt, isi_itl, isi_btl, isi_ttl, isi_tl, isi_bb, u_bl, u_int, u_non, u_tup, g_name, g_tup, g_nil, g_cons, o_ret, o_nx, i_seq, List.set_cons_zero, List.set_cons_succ, decide_eq_true_eq, Bool.not_eq_true', decide_eq_false_iff_not, evP, Bool.false_eq_true, if_true, if_false, ite_true, ite_false, reduceIte, Bool.not_true, Bool.not_false, Option.some.injEq, q_pow10, Int.reduceToNat, Int.reducePow, Int.reduceAdd, Int.reduceSub, Int.reduceMul, Int.reduceNeg, Int.reduceLT, Int.reduceLE, Nat.reducePow, Nat.reduceLT, Nat.reduceLeDiff, Nat.reduceAdd, List.length_cons, List.length_nil, Int.neg_neg, h0, decide_true, e1]
          rw [← ea]
          by_cases c : (atL ls (i + 1)).2 = (atL ls i).2
          · simp only [c, decide_true, ex, ev, M_bind, M_map, M_some, M_ite, t_eq, a_tup, al_eq, List.getElem?_cons_zero, List.getElem?_cons_succ, Option.bind_some, Option.map_some, q_add, q_sub, q_lt, q_le, q_gt, q_ge, q_eqI, q_neI, q_eqB, q_neB, q_isN, q_notN, isNon, q_ixT, q_ixR, atI_0, atI_1, atI_2, atI_3, atI_4, atI_5, atI_6, atI_7, q_slT, q_slR, q_revT, q_seqT, q_int, q_intB, q_max, q_min, q_abs, q_tupT, n_tup, n_int, n_bl, n_non, n_str, isi_ii, isi_ib, isi_tt, isi_itl, isi_btl, isi_ttl, isi_tl, isi_bb, u_bl, u_int, u_non, u_tup, g_name, g_tup, g_nil, g_cons, o_ret, o_nx, i_seq, List.set_cons_zero, List.set_cons_succ, decide_eq_true_eq, Bool.not_eq_true', decide_eq_false_iff_not, evP, Bool.false_eq_true, if_true, if_false, ite_true, ite_false, reduceIte, Bool.not_true, Bool.not_false, Option.some.injEq, q_pow10, Int.reduceToNat, Int.reducePow, Int.reduceAdd, Int.reduceSub, Int.reduceMul, Int.reduceNeg, Int.reduceLT, Int.reduceLE, Nat.reducePow, Nat.reduceLT, Nat.reduceLeDiff, Nat.reduceAdd, List.length_cons, List.length_nil, Int.neg_neg]
            refine ⟨trivial, trivial, ?_⟩
            rw [show i + 1 - 1 = i by omega, chg, if_pos c, Int.add_zero]
          · simp only [c, decide_false, ex, ev, M_bind, M_map, M_some, M_ite, t_eq, a_tup, al_eq, List.getElem?_cons_zero, List.getElem?_cons_succ, Option.bind_some, Option.map_some, q_add, q_sub, q_lt, q_le, q_gt, q_ge, q_eqI, q_neI, q_eqB, q_neB, q_isN, q_notN, isNon, q_ixT, q_ixR, atI_0, atI_1, atI_2, atI_3, atI_4, atI_5, atI_6, atI_7, q_slT, q_slR, q_revT, q_seqT, q_int, q_intB, q_max, q_min, q_abs, q_tupT, n_tup, n_int, n_bl, n_non, n_str, isi_ii, isi_ib, isi_tt, isi_itl, isi_btl, isi_ttl, isi_tl, isi_bb, u_bl, u_int, u_non, u_tup, g_name, g_tup, g_nil, g_cons, o_ret, o_nx, i_seq, List.set_cons_zero, List.set_cons_succ, decide_eq_true_eq, Bool.not_eq_true', decide_eq_false_iff_not, evP, Bool.false_eq_true, if_true, if_false, ite_true, ite_false, reduceIte, Bool.not_true, Bool.not_false, Option.some.injEq, q_pow10, Int.reduceToNat, Int.reducePow, Int.reduceAdd, Int.reduceSub, Int.reduceMul, Int.reduceNeg, Int.reduceLT, Int.reduceLE, Nat.reducePow, Nat.reduceLT, Nat.reduceLeDiff, Nat.reduceAdd, List.length_cons, List.length_nil, Int.neg_neg]
            refine ⟨trivial, trivial, ?_⟩
            rw [show i + 1 - 1 = i by omega, chg, if_neg c]
      rintro _ _ ⟨rfl, rfl⟩
      have cb := chg_bd ls i
      simp only [ex, ev, M_bind, M_map, M_some, M_ite, t_eq, a_tup, al_eq, List.getElem?_cons_zero, List.getElem?_cons_succ, Option.bind_some, Option.map_some, q_add, q_sub, q_lt, q_le, q_gt, q_ge, q_eqI, q_neI, q_eqB, q_neB, q_isN, q_notN, isNon, q_ixT, q_ixR, atI_0, atI_1, atI_2, atI_3, atI_4, atI_5, atI_6, atI_7, q_slT, q_slR, q_revT, q_seqT, q_int, q_intB, q_max, q_min, q_abs, q_tupT, n_tup, n_int, n_bl, n_non, n_str, isi_ii, isi_ib, isi_tt, isi_itl, isi_btl, isi_ttl, isi_tl, isi_bb, u_bl, u_int, u_non, u_tup, g_name, g_tup, g_nil, g_cons, o_ret, o_nx, i_seq, List.set_cons_zero, List.set_cons_succ, decide_eq_true_eq, Bool.not_eq_true', decide_eq_false_iff_not, evP, Bool.false_eq_true, if_true, if_false, ite_true, ite_false, reduceIte, Bool.not_true, Bool.not_false, Option.some.injEq, q_pow10, Int.reduceToNat, Int.reducePow, Int.reduceAdd, Int.reduceSub, Int.reduceMul, Int.reduceNeg, Int.reduceLT, Int.reduceLE, Nat.reducePow, Nat.reduceLT, Nat.reduceLeDiff, Nat.reduceAdd, List.length_cons, List.length_nil, Int.neg_neg, q_isL g, q_mul (i := chg ls i) (j := sp) (by omega) (by omega) (by omega) (by omega)]
      rw [q_app g (by simp; omega)]
      simp only [M_some]
      refine ⟨rfl, _, _, ?_, Lq.set l (Nat.le_refl _), rfl⟩
      rw [List.getElem?_set_self (lt_of_get g), List.range_succ, List.map_append, List.map_append]
      simp only [List.map_cons, List.map_nil, loadK, ea]
    · rintro env S1 ⟨v4, v5, g, l, rfl⟩
      refine ⟨rfl, _, _, _, ?_, l, rfl⟩
      rw [g]
      unfold loadsF
      simp
  rintro _ S1 ⟨v3, v4, v5, g, l, rfl⟩
  simp only [ex, ev, M_bind, M_map, M_some, M_ite, t_eq, a_tup, al_eq, List.getElem?_cons_zero, List.getElem?_cons_succ, Option.bind_some, Option.map_some, q_add, q_sub, q_lt, q_le, q_gt, q_ge, q_eqI, q_neI, q_eqB, q_neB, q_isN, q_notN, isNon, q_ixT, q_ixR, atI_0, atI_1, atI_2, atI_3, atI_4, atI_5, atI_6, atI_7, q_slT, q_slR, q_revT, q_seqT, q_int, q_intB, q_max, q_min, q_abs, q_tupT, n_tup, n_int, n_bl, n_non, n_str, isi_ii, isi_ib, isi_tt, isi_itl, isi_btl, isi_ttl, isi_tl, isi_bb, u_bl, u_int, u_non, u_tup, g_name, g_tup, g_nil, g_cons, o_ret, o_nx, i_seq, List.set_cons_zero, List.set_cons_succ, decide_eq_true_eq, Bool.not_eq_true', decide_eq_false_iff_not, evP, Bool.false_eq_true, if_true, if_false, ite_true, ite_false, reduceIte, Bool.not_true, Bool.not_false, Option.some.injEq, q_pow10, Int.reduceToNat, Int.reducePow, Int.reduceAdd, Int.reduceSub, Int.reduceMul, Int.reduceNeg, Int.reduceLT, Int.reduceLE, Nat.reducePow, Nat.reduceLT, Nat.reduceLeDiff, Nat.reduceAdd, List.length_cons, List.length_nil, Int.neg_neg]
  exact hq _ _ (Nat.le_refl _) g l
theorem fold_spec : ∀ (is : List Int) (i : Int), (is.foldl (fun a b => if b > a then b else a) i = i ∨ is.foldl (fun a b => if b > a then b else a) i ∈ is) ∧ i ≤ is.foldl (fun a b => if b > a then b else a) i ∧ ∀ y ∈ is, y ≤ is.foldl (fun a b => if b > a then b else a) i
  | [], i => ⟨.inl rfl, Int.le_refl _, by simp⟩
  | j :: is, i => by
    obtain ⟨h1, h2, h3⟩ := fold_spec is (if j > i then j else i)
    simp only [List.foldl_cons]
    refine ⟨?_, ?_, ?_⟩
    · rcases h1 with h | h
      · rw [h]
        split
        · exact .inr List.mem_cons_self
        · exact .inl rfl
      · exact .inr (List.mem_cons_of_mem _ h)
    · refine Int.le_trans ?_ h2
      split <;> omega
    · intro y hy
      rcases List.mem_cons.mp hy with e | hy
      · subst e
        refine Int.le_trans ?_ h2
        split <;> omega
      · exact h3 y hy
theorem maxL_ex {ns : List Int} (h : ns ≠ []) : ∃ m, maxL ns = some m ∧ m ∈ ns ∧ ∀ y ∈ ns, y ≤ m := by
  cases ns with
  | nil => exact absurd rfl h
  | cons i is =>
    obtain ⟨h1, h2, h3⟩ := fold_spec is i
    refine ⟨_, rfl, List.mem_cons.mpr h1, fun y hy => ?_⟩
    rcases List.mem_cons.mp hy with e | hy
    · rw [e]; exact h2
    · exact h3 y hy
theorem intsD_map {ns : List Int} : intsD (ns.map D.int) = some ns := by
  induction ns with
  | nil => rfl
  | cons i is ih => simp only [List.map_cons, intsD, ih, Option.map_some]
theorem q_maxL {S : Hd} {k : Nat} {ns : List Int} {m : Int} (h : S[k]? = some (.lst (ns.map .int))) (hm : maxL ns = some m) : bltD .max_ [.ref k] S = some (.int m, S) := by
  have e : intsAt S (.ref k) = some ns := by simp only [intsAt, isTup, seqOf, h, Option.bind_some, intsD_map, Bool.false_eq_true, if_false]
  simp only [bltD, e, Option.bind_some, hm, Option.map_some]
theorem loadsF_get {sp : Int} {ls : List (Int × Int)} {i : Nat} (h : i < ls.length) : (loadsF sp ls)[i]? = some (loadK sp ls i) := by
  unfold loadsF
  rw [List.getElem?_map, List.getElem?_range h]
  rfl
theorem crowded_stretch_ok {n : Nat} {S : Hd} {sp : Int} {ls : List (Int × Int)} (s0 : 0 < sp) (s1 : sp ≤ 1000000) (hl : ls.length ≤ 900) {Q : D × Hd → Prop} (hq : ∀ (c : Option (Nat × Nat)) (S2 : Hd), Told sp ls c → Lq S S2 → Q (toldD c, S2)) : M (run T (n + 2) 36 [.int sp, lookD ls] S) Q := by
  have hm := most_big
  refine run_M T_crowded_stretch rfl ?_
  show M (ex (run T (n + 1)) b_crowded_stretch [some (.int sp), some (lookD ls), none, none, none, none, none] S) _
  unfold b_crowded_stretch
  refine seq_M (fun env S1 => ∃ c : Nat, S1[c]? = some (.lst ((loadsF sp ls).map .int)) ∧ Lq S S1 ∧ env = [some (.int sp), some (lookD ls), some (.ref c), none, none, none, none]) ?_ ?_
  · simp only [ex, ev, M_bind, M_map, M_some, M_ite, t_eq, a_tup, al_eq, List.getElem?_cons_zero, List.getElem?_cons_succ, Option.bind_some, Option.map_some, q_add, q_sub, q_lt, q_le, q_gt, q_ge, q_eqI, q_neI, q_eqB, q_neB, q_isN, q_notN, isNon, q_ixT, q_ixR, atI_0, atI_1, atI_2, atI_3, atI_4, atI_5, atI_6, atI_7, q_slT, q_slR, q_revT, q_seqT, q_int, q_intB, q_max, q_min, q_abs, q_tupT, n_tup, n_int, n_bl, n_non, n_str, isi_ii, isi_ib, isi_tt, isi_itl, isi_btl, isi_ttl, isi_tl, isi_bb, u_bl, u_int, u_non, u_tup, g_name, g_tup, g_nil, g_cons, o_ret, o_nx, i_seq, List.set_cons_zero, List.set_cons_succ, decide_eq_true_eq, Bool.not_eq_true', decide_eq_false_iff_not, evP, Bool.false_eq_true, if_true, if_false, ite_true, ite_false, reduceIte, Bool.not_true, Bool.not_false, Option.some.injEq, q_pow10, Int.reduceToNat, Int.reducePow, Int.reduceAdd, Int.reduceSub, Int.reduceMul, Int.reduceNeg, Int.reduceLT, Int.reduceLE, Nat.reducePow, Nat.reduceLT, Nat.reduceLeDiff, Nat.reduceAdd, List.length_cons, List.length_nil, Int.neg_neg]
    refine loads_ok s0 s1 hl fun c S1 _ g l => ?_
    simp only [ex, ev, M_bind, M_map, M_some, M_ite, t_eq, a_tup, al_eq, List.getElem?_cons_zero, List.getElem?_cons_succ, Option.bind_some, Option.map_some, q_add, q_sub, q_lt, q_le, q_gt, q_ge, q_eqI, q_neI, q_eqB, q_neB, q_isN, q_notN, isNon, q_ixT, q_ixR, atI_0, atI_1, atI_2, atI_3, atI_4, atI_5, atI_6, atI_7, q_slT, q_slR, q_revT, q_seqT, q_int, q_intB, q_max, q_min, q_abs, q_tupT, n_tup, n_int, n_bl, n_non, n_str, isi_ii, isi_ib, isi_tt, isi_itl, isi_btl, isi_ttl, isi_tl, isi_bb, u_bl, u_int, u_non, u_tup, g_name, g_tup, g_nil, g_cons, o_ret, o_nx, i_seq, List.set_cons_zero, List.set_cons_succ, decide_eq_true_eq, Bool.not_eq_true', decide_eq_false_iff_not, evP, Bool.false_eq_true, if_true, if_false, ite_true, ite_false, reduceIte, Bool.not_true, Bool.not_false, Option.some.injEq, q_pow10, Int.reduceToNat, Int.reducePow, Int.reduceAdd, Int.reduceSub, Int.reduceMul, Int.reduceNeg, Int.reduceLT, Int.reduceLE, Nat.reducePow, Nat.reduceLT, Nat.reduceLeDiff, Nat.reduceAdd, List.length_cons, List.length_nil, Int.neg_neg]
    exact ⟨trivial, c, g, l, rfl⟩
  rintro _ S1 ⟨c, g1, l1, rfl⟩
  refine seq_M (fun env S2 => S1 = S2 ∧ env = [some (.int sp), some (lookD ls), some (.ref c), some .non, none, none, none]) ?_ ?_
  · simp only [ex, ev, M_bind, M_map, M_some, M_ite, t_eq, a_tup, al_eq, List.getElem?_cons_zero, List.getElem?_cons_succ, Option.bind_some, Option.map_some, q_add, q_sub, q_lt, q_le, q_gt, q_ge, q_eqI, q_neI, q_eqB, q_neB, q_isN, q_notN, isNon, q_ixT, q_ixR, atI_0, atI_1, atI_2, atI_3, atI_4, atI_5, atI_6, atI_7, q_slT, q_slR, q_revT, q_seqT, q_int, q_intB, q_max, q_min, q_abs, q_tupT, n_tup, n_int, n_bl, n_non, n_str, isi_ii, isi_ib, isi_tt, isi_itl, isi_btl, isi_ttl, isi_tl, isi_bb, u_bl, u_int, u_non, u_tup, g_name, g_tup, g_nil, g_cons, o_ret, o_nx, i_seq, List.set_cons_zero, List.set_cons_succ, decide_eq_true_eq, Bool.not_eq_true', decide_eq_false_iff_not, evP, Bool.false_eq_true, if_true, if_false, ite_true, ite_false, reduceIte, Bool.not_true, Bool.not_false, Option.some.injEq, q_pow10, Int.reduceToNat, Int.reducePow, Int.reduceAdd, Int.reduceSub, Int.reduceMul, Int.reduceNeg, Int.reduceLT, Int.reduceLE, Nat.reducePow, Nat.reduceLT, Nat.reduceLeDiff, Nat.reduceAdd, List.length_cons, List.length_nil, Int.neg_neg]
    exact ⟨trivial, trivial, trivial⟩
  rintro _ _ ⟨rfl, rfl⟩
  have ll : (loadsF sp ls).length = ls.length := by simp [loadsF]
  refine seq_Mx (for_M ?_)
  simp only [ev, M_bind, M_map, M_some, M_ite, t_eq, a_tup, al_eq, List.getElem?_cons_zero, List.getElem?_cons_succ, Option.bind_some, Option.map_some, q_add, q_sub, q_lt, q_le, q_gt, q_ge, q_eqI, q_neI, q_eqB, q_neB, q_isN, q_notN, isNon, q_ixT, q_ixR, atI_0, atI_1, atI_2, atI_3, atI_4, atI_5, atI_6, atI_7, q_slT, q_slR, q_revT, q_seqT, q_int, q_intB, q_max, q_min, q_abs, q_tupT, n_tup, n_int, n_bl, n_non, n_str, isi_ii, isi_ib, isi_tt, isi_itl, isi_btl, isi_ttl, isi_tl, isi_bb, u_bl, u_int, u_non, u_tup, g_name, g_tup, g_nil, g_cons, o_ret, o_nx, i_seq, List.set_cons_zero, List.set_cons_succ, decide_eq_true_eq, Bool.not_eq_true', decide_eq_false_iff_not, evP, Bool.false_eq_true, if_true, if_false, ite_true, ite_false, reduceIte, Bool.not_true, Bool.not_false, Option.some.injEq, q_pow10, Int.reduceToNat, Int.reducePow, Int.reduceAdd, Int.reduceSub, Int.reduceMul, Int.reduceNeg, Int.reduceLT, Int.reduceLE, Nat.reducePow, Nat.reduceLT, Nat.reduceLeDiff, Nat.reduceAdd, List.length_cons, List.length_nil, Int.neg_neg]
  have it1 : items .enum [.ref c] S1 = some (((loadsF sp ls).map D.int).mapIdx fun i x => .tup [.int (i : Int), x]) := by
    simp only [items, q_seqL g1, Option.map_some]
  refine ⟨[.ref c], _, rfl, it1, ?_⟩
  refine M_loopS (m := 0) (fun i env S2 => ∃ v3 v4 v5 v6 : Option D, env = [some (.int sp), some (lookD ls), some (.ref c), v3, v4, v5, v6] ∧ Lq S1 S2 ∧ (∀ b a, a < b → b < i → ¬ Cw sp ls a b) ∧ (i = 0 → v3 = some .non) ∧ (0 < i → ∃ m : Int, v3 = some (.int m) ∧ (∀ a, a < i → m ≤ loadK sp ls a) ∧ ∃ a, a < i ∧ loadK sp ls a = m)) ⟨_, _, _, _, rfl, Lq.refl _, fun b a _ h => absurd h (by omega), fun _ => rfl, fun h => absurd h (by omega)⟩ ?_ ?_
  · rintro i d env S2 hi ⟨v3, v4, v5, v6, rfl, l2, no, z0, zi⟩
    simp only [Nat.zero_add] at no z0 zi ⊢
    obtain ⟨x, hx, rfl⟩ := mapIdx_get hi
    obtain ⟨L, hL, _, rfl⟩ := map_get hx
    have il : i < ls.length := by
      have := (List.getElem?_eq_some_iff.mp hL).1
      omega
    have eL : L = loadK sp ls i := by
      rw [loadsF_get il] at hL
      exact (Option.some.inj hL).symm
    subst eL
    simp only [asgG, Option.bind_some, List.set_cons_succ, List.set_cons_zero]
    have g2 := l2 _ _ g1
    have still : ∀ S3, Lq S1 S3 → items .enum [.ref c] S3 = some (((loadsF sp ls).map D.int).mapIdx fun i x => .tup [.int (i : Int), x]) := fun S3 l3 => by
      simp only [items, q_seqL (l3 _ _ g1), Option.map_some]
    have next : ∀ (m : Int), (∀ a, a < i + 1 → m ≤ loadK sp ls a) → (∃ a, a < i + 1 ∧ loadK sp ls a = m) → (∀ a, a < i → ¬ Cw sp ls a i) → ∃ v3' v4' v5' v6' : Option D, [some (D.int sp), some (lookD ls), some (.ref c), some (.int m), some (.int (i : Int)), some (.int (loadK sp ls i)), v6] = [some (.int sp), some (lookD ls), some (.ref c), v3', v4', v5', v6'] ∧ Lq S1 S2 ∧ (∀ b a, a < b → b < i + 1 → ¬ Cw sp ls a b) ∧ (i + 1 = 0 → v3' = some .non) ∧ (0 < i + 1 → ∃ m : Int, v3' = some (.int m) ∧ (∀ a, a < i + 1 → m ≤ loadK sp ls a) ∧ ∃ a, a < i + 1 ∧ loadK sp ls a = m) :=
      fun m h1 h2 h3 => ⟨_, _, _, _, rfl, l2, fun b a hab hb => by
        rcases Nat.lt_or_ge b i with q | q
        · exact no b a hab q
        · have e : b = i := by omega
          subst e
          exact h3 a hab, fun e => by omega, fun _ => ⟨m, rfl, h1, h2⟩⟩
    rcases Nat.eq_zero_or_pos i with e0 | ip
    · rw [z0 e0]
      refine seq_M (fun env S3 => S2 = S3 ∧ env = [some (.int sp), some (lookD ls), some (.ref c), some .non, some (.int (i : Int)), some (.int (loadK sp ls i)), v6]) ?_ ?_
      · refine ite_M ?_
        simp only [ev, M_bind, M_map, M_some, M_ite, t_eq, a_tup, al_eq, List.getElem?_cons_zero, List.getElem?_cons_succ, Option.bind_some, Option.map_some, q_add, q_sub, q_lt, q_le, q_gt, q_ge, q_eqI, q_neI, q_eqB, q_neB, q_isN, q_notN, isNon, q_ixT, q_ixR, atI_0, atI_1, atI_2, atI_3, atI_4, atI_5, atI_6, atI_7, q_slT, q_slR, q_revT, q_seqT, q_int, q_intB, q_max, q_min, q_abs, q_tupT, n_tup, n_int, n_bl, n_non, n_str, isi_ii, isi_ib, isi_tt, isi_itl, isi_btl, isi_ttl, isi_tl, isi_bb, u_bl, u_int, u_non, u_tup, g_name, g_tup, g_nil, g_cons, o_ret, o_nx, i_seq, List.set_cons_zero, List.set_cons_succ, decide_eq_true_eq, Bool.not_eq_true', decide_eq_false_iff_not, evP, Bool.false_eq_true, if_true, if_false, ite_true, ite_false, reduceIte, Bool.not_true, Bool.not_false, Option.some.injEq, q_pow10, Int.reduceToNat, Int.reducePow, Int.reduceAdd, Int.reduceSub, Int.reduceMul, Int.reduceNeg, Int.reduceLT, Int.reduceLE, Nat.reducePow, Nat.reduceLT, Nat.reduceLeDiff, Nat.reduceAdd, List.length_cons, List.length_nil, Int.neg_neg]
        simp only [ex, ev, M_bind, M_map, M_some, M_ite, t_eq, a_tup, al_eq, List.getElem?_cons_zero, List.getElem?_cons_succ, Option.bind_some, Option.map_some, q_add, q_sub, q_lt, q_le, q_gt, q_ge, q_eqI, q_neI, q_eqB, q_neB, q_isN, q_notN, isNon, q_ixT, q_ixR, atI_0, atI_1, atI_2, atI_3, atI_4, atI_5, atI_6, atI_7, q_slT, q_slR, q_revT, q_seqT, q_int, q_intB, q_max, q_min, q_abs, q_tupT, n_tup, n_int, n_bl, n_non, n_str, isi_ii, isi_ib, isi_tt, isi_itl, isi_btl, isi_ttl, isi_tl, isi_bb, u_bl, u_int, u_non, u_tup, g_name, g_tup, g_nil, g_cons, o_ret, o_nx, i_seq, List.set_cons_zero, List.set_cons_succ, decide_eq_true_eq, Bool.not_eq_true', decide_eq_false_iff_not, evP, Bool.false_eq_true, if_true, if_false, ite_true, ite_false, reduceIte, Bool.not_true, Bool.not_false, Option.some.injEq, q_pow10, Int.reduceToNat, Int.reducePow, Int.reduceAdd, Int.reduceSub, Int.reduceMul, Int.reduceNeg, Int.reduceLT, Int.reduceLE, Nat.reducePow, Nat.reduceLT, Nat.reduceLeDiff, Nat.reduceAdd, List.length_cons, List.length_nil, Int.neg_neg]
        exact ⟨trivial, trivial, trivial⟩
      rintro _ _ ⟨rfl, rfl⟩
      simp only [ex, ev, M_bind, M_map, M_some, M_ite, t_eq, a_tup, al_eq, List.getElem?_cons_zero, List.getElem?_cons_succ, Option.bind_some, Option.map_some, q_add, q_sub, q_lt, q_le, q_gt, q_ge, q_eqI, q_neI, q_eqB, q_neB, q_isN, q_notN, isNon, q_ixT, q_ixR, atI_0, atI_1, atI_2, atI_3, atI_4, atI_5, atI_6, atI_7, q_slT, q_slR, q_revT, q_seqT, q_int, q_intB, q_max, q_min, q_abs, q_tupT, n_tup, n_int, n_bl, n_non, n_str, isi_ii, isi_ib, isi_tt, isi_itl, isi_btl, isi_ttl, isi_tl, isi_bb, u_bl, u_int, u_non, u_tup, g_name, g_tup, g_nil, g_cons, o_ret, o_nx, i_seq, List.set_cons_zero, List.set_cons_succ, decide_eq_true_eq, Bool.not_eq_true', decide_eq_false_iff_not, evP, Bool.false_eq_true, if_true, if_false, ite_true, ite_false, reduceIte, Bool.not_true, Bool.not_false, Option.some.injEq, q_pow10, Int.reduceToNat, Int.reducePow, Int.reduceAdd, Int.reduceSub, Int.reduceMul, Int.reduceNeg, Int.reduceLT, Int.reduceLE, Nat.reducePow, Nat.reduceLT, Nat.reduceLeDiff, Nat.reduceAdd, List.length_cons, List.length_nil, Int.neg_neg]
      exact ⟨still _ l2, next _ (fun a ha => by rw [show a = i by omega]; exact Int.le_refl _) ⟨i, by omega, rfl⟩ fun a ha => absurd ha (by omega)⟩
    · obtain ⟨m, rfl, mle, am, hal, hae⟩ := zi ip
      by_cases cr : sp ≤ loadK sp ls i - m
      · refine seq_Mx (ite_M ?_)
        simp only [ev, M_bind, M_map, M_some, M_ite, t_eq, a_tup, al_eq, List.getElem?_cons_zero, List.getElem?_cons_succ, Option.bind_some, Option.map_some, q_add, q_sub, q_lt, q_le, q_gt, q_ge, q_eqI, q_neI, q_eqB, q_neB, q_isN, q_notN, isNon, q_ixT, q_ixR, atI_0, atI_1, atI_2, atI_3, atI_4, atI_5, atI_6, atI_7, q_slT, q_slR, q_revT, q_seqT, q_int, q_intB, q_max, q_min, q_abs, q_tupT, n_tup, n_int, n_bl, n_non, n_str, isi_ii, isi_ib, isi_tt, isi_itl, isi_btl, isi_ttl, isi_tl, isi_bb, u_bl, u_int, u_non, u_tup, g_name, g_tup, g_nil, g_cons, o_ret, o_nx, i_seq, List.set_cons_zero, List.set_cons_succ, decide_eq_true_eq, Bool.not_eq_true', decide_eq_false_iff_not, evP, Bool.false_eq_true, if_true, if_false, ite_true, ite_false, reduceIte, Bool.not_true, Bool.not_false, Option.some.injEq, q_pow10, Int.reduceToNat, Int.reducePow, Int.reduceAdd, Int.reduceSub, Int.reduceMul, Int.reduceNeg, Int.reduceLT, Int.reduceLE, Nat.reducePow, Nat.reduceLT, Nat.reduceLeDiff, Nat.reduceAdd, List.length_cons, List.length_nil, Int.neg_neg, cr, decide_true]
        have hlen : ((List.range i).filter fun a => decide (sp ≤ loadK sp ls i - loadK sp ls a)).map (fun (a : Nat) => (0 : Int) + (a : Int)) ≠ [] := fun e => by
          have : am ∈ (List.range i).filter fun a => decide (sp ≤ loadK sp ls i - loadK sp ls a) := List.mem_filter.mpr ⟨List.mem_range.mpr hal, by rw [hae]; simpa using cr⟩
          rw [List.map_eq_nil_iff] at e
          rw [e] at this
          simp at this
        obtain ⟨mx, e1, e2, e3⟩ := maxL_ex hlen
        obtain ⟨b, hb, rfl⟩ := List.mem_map.mp e2
        obtain ⟨hb1, hb2⟩ := List.mem_filter.mp hb
        have hb1 := List.mem_range.mp hb1
        simp only [ex, M_map]
        refine M_tup2 (M_blt1 ?_)
        refine M_lcx (List.range i) (fun (a : Nat) => .int (0 + (a : Int))) (fun a => decide (sp ≤ loadK sp ls i - loadK sp ls a)) (fun (a : Nat) => .int (0 + (a : Int))) (by decide) ?_ (by simp; omega) (fun a S3 ha l3 => ?_) fun k S3 hk g3 l3 => ?_
        · simp only [ev, M_bind, M_map, M_some, M_ite, t_eq, a_tup, al_eq, List.getElem?_cons_zero, List.getElem?_cons_succ, Option.bind_some, Option.map_some, q_add, q_sub, q_lt, q_le, q_gt, q_ge, q_eqI, q_neI, q_eqB, q_neB, q_isN, q_notN, isNon, q_ixT, q_ixR, atI_0, atI_1, atI_2, atI_3, atI_4, atI_5, atI_6, atI_7, q_slT, q_slR, q_revT, q_seqT, q_int, q_intB, q_max, q_min, q_abs, q_tupT, n_tup, n_int, n_bl, n_non, n_str, isi_ii, isi_ib, isi_tt, isi_itl, isi_btl, isi_ttl, isi_tl, isi_bb, u_bl, u_int, u_non, u_tup, g_name, g_tup, g_nil, g_cons, o_ret, o_nx, i_seq, List.set_cons_zero, List.set_cons_succ, decide_eq_true_eq, Bool.not_eq_true', decide_eq_false_iff_not, evP, Bool.false_eq_true, if_true, if_false, ite_true, ite_false, reduceIte, Bool.not_true, Bool.not_false, Option.some.injEq, q_pow10, Int.reduceToNat, Int.reducePow, Int.reduceAdd, Int.reduceSub, Int.reduceMul, Int.reduceNeg, Int.reduceLT, Int.reduceLE, Nat.reducePow, Nat.reduceLT, Nat.reduceLeDiff, Nat.reduceAdd, List.length_cons, List.length_nil, Int.neg_neg]
          exact ⟨_, _, rfl, Lq.refl _, fun _ _ => i_rng (by omega) (by omega)⟩
        · have ha := List.mem_range.mp ha
          refine ⟨_, rfl, ?_⟩
          have ga : atI ((loadsF sp ls).map D.int) (0 + (a : Int)) = some (.int (loadK sp ls a)) := by
            rw [atI_lt (by omega) (by simp [ll]; omega), List.getElem?_map, show (0 + (a : Int)).toNat = a by omega, loadsF_get (by omega)]
            rfl
          simp only [wipeD, ex, ev, M_bind, M_map, M_some, M_ite, t_eq, a_tup, al_eq, List.getElem?_cons_zero, List.getElem?_cons_succ, Option.bind_some, Option.map_some, q_add, q_sub, q_lt, q_le, q_gt, q_ge, q_eqI, q_neI, q_eqB, q_neB, q_isN, q_notN, isNon, q_ixT, q_ixR, atI_0, atI_1, atI_2, atI_3, atI_4, atI_5, atI_6, atI_7, q_slT, q_slR, q_revT, q_seqT, q_int, q_intB, q_max, q_min, q_abs, q_tupT, n_tup, n_int, n_bl, n_non, n_str, isi_ii, isi_ib, isi_tt, isi_itl, isi_btl, isi_ttl, isi_tl, isi_bb, u_bl, u_int, u_non, u_tup, g_name, g_tup, g_nil, g_cons, o_ret, o_nx, i_seq, List.set_cons_zero, List.set_cons_succ, decide_eq_true_eq, Bool.not_eq_true', decide_eq_false_iff_not, evP, Bool.false_eq_true, if_true, if_false, ite_true, ite_false, reduceIte, Bool.not_true, Bool.not_false, Option.some.injEq, q_pow10, Int.reduceToNat, Int.reducePow, Int.reduceAdd, Int.reduceSub, Int.reduceMul, Int.reduceNeg, Int.reduceLT, Int.reduceLE, Nat.reducePow, Nat.reduceLT, Nat.reduceLeDiff, Nat.reduceAdd, List.length_cons, List.length_nil, Int.neg_neg, q_ixL (l3 _ _ g2), ga]
          exact ⟨trivial, Lq.refl _, fun _ => ⟨trivial, Lq.refl _⟩⟩
        · have g3' : S3[k]? = some (.lst ((((List.range i).filter fun a => decide (sp ≤ loadK sp ls i - loadK sp ls a)).map (fun (a : Nat) => (0 : Int) + (a : Int))).map .int)) := by
            rw [g3, List.map_map]
            rfl
          simp only [q_maxL g3' e1, ex, ev, M_bind, M_map, M_some, M_ite, t_eq, a_tup, al_eq, List.getElem?_cons_zero, List.getElem?_cons_succ, Option.bind_some, Option.map_some, q_add, q_sub, q_lt, q_le, q_gt, q_ge, q_eqI, q_neI, q_eqB, q_neB, q_isN, q_notN, isNon, q_ixT, q_ixR, atI_0, atI_1, atI_2, atI_3, atI_4, atI_5, atI_6, atI_7, q_slT, q_slR, q_revT, q_seqT, q_int, q_intB, q_max, q_min, q_abs, q_tupT, n_tup, n_int, n_bl, n_non, n_str, isi_ii, isi_ib, isi_tt, isi_itl, isi_btl, isi_ttl, isi_tl, isi_bb, u_bl, u_int, u_non, u_tup, g_name, g_tup, g_nil, g_cons, o_ret, o_nx, i_seq, List.set_cons_zero, List.set_cons_succ, decide_eq_true_eq, Bool.not_eq_true', decide_eq_false_iff_not, evP, Bool.false_eq_true, if_true, if_false, ite_true, ite_false, reduceIte, Bool.not_true, Bool.not_false, Option.some.injEq, q_pow10, Int.reduceToNat, Int.reducePow, Int.reduceAdd, Int.reduceSub, Int.reduceMul, Int.reduceNeg, Int.reduceLT, Int.reduceLE, Nat.reducePow, Nat.reduceLT, Nat.reduceLeDiff, Nat.reduceAdd, List.length_cons, List.length_nil, Int.neg_neg]
          have e4 : D.tup [.int (0 + (b : Int)), .int (i : Int)] = toldD (some (b, i)) := by
            rw [Int.zero_add]
            rfl
          rw [e4]
          refine hq _ S3 ⟨hb1, il, by simpa [Cw] using hb2, fun a' h1 h2 z => ?_, fun b' a' h1 h2 => no b' a' h2 h1⟩ (l1.trans (l2.trans l3))
          have := e3 (0 + (a' : Int)) (List.mem_map.mpr ⟨a', List.mem_filter.mpr ⟨List.mem_range.mpr h2, by simpa [Cw] using z⟩, rfl⟩)
          omega
      · refine seq_M (fun env S3 => S2 = S3 ∧ env = [some (.int sp), some (lookD ls), some (.ref c), some (.int m), some (.int (i : Int)), some (.int (loadK sp ls i)), v6]) ?_ ?_
        · refine ite_M ?_
          simp only [ev, M_bind, M_map, M_some, M_ite, t_eq, a_tup, al_eq, List.getElem?_cons_zero, List.getElem?_cons_succ, Option.bind_some, Option.map_some, q_add, q_sub, q_lt, q_le, q_gt, q_ge, q_eqI, q_neI, q_eqB, q_neB, q_isN, q_notN, isNon, q_ixT, q_ixR, atI_0, atI_1, atI_2, atI_3, atI_4, atI_5, atI_6, atI_7, q_slT, q_slR, q_revT, q_seqT, q_int, q_intB, q_max, q_min, q_abs, q_tupT, n_tup, n_int, n_bl, n_non, n_str, isi_ii, isi_ib, isi_tt, isi_itl, isi_btl, isi_ttl, isi_tl, isi_bb, u_bl, u_int, u_non, u_tup, g_name, g_tup, g_nil, g_cons, o_ret, o_nx, i_seq, List.set_cons_zero, List.set_cons_succ, decide_eq_true_eq, Bool.not_eq_true', decide_eq_false_iff_not, evP, Bool.false_eq_true, if_true, if_false, ite_true, ite_false, reduceIte, Bool.not_true, Bool.not_false, Option.some.injEq, q_pow10, Int.reduceToNat, Int.reducePow, Int.reduceAdd, Int.reduceSub, Int.reduceMul, Int.reduceNeg, Int.reduceLT, Int.reduceLE, Nat.reducePow, Nat.reduceLT, Nat.reduceLeDiff, Nat.reduceAdd, List.length_cons, List.length_nil, Int.neg_neg, cr, decide_false]
          simp only [ex, ev, M_bind, M_map, M_some, M_ite, t_eq, a_tup, al_eq, List.getElem?_cons_zero, List.getElem?_cons_succ, Option.bind_some, Option.map_some, q_add, q_sub, q_lt, q_le, q_gt, q_ge, q_eqI, q_neI, q_eqB, q_neB, q_isN, q_notN, isNon, q_ixT, q_ixR, atI_0, atI_1, atI_2, atI_3, atI_4, atI_5, atI_6, atI_7, q_slT, q_slR, q_revT, q_seqT, q_int, q_intB, q_max, q_min, q_abs, q_tupT, n_tup, n_int, n_bl, n_non, n_str, isi_ii, isi_ib, isi_tt, isi_itl, isi_btl, isi_ttl, isi_tl, isi_bb, u_bl, u_int, u_non, u_tup, g_name, g_tup, g_nil, g_cons, o_ret, o_nx, i_seq, List.set_cons_zero, List.set_cons_succ, decide_eq_true_eq, Bool.not_eq_true', decide_eq_false_iff_not, evP, Bool.false_eq_true, if_true, if_false, ite_true, ite_false, reduceIte, Bool.not_true, Bool.not_false, Option.some.injEq, q_pow10, Int.reduceToNat, Int.reducePow, Int.reduceAdd, Int.reduceSub, Int.reduceMul, Int.reduceNeg, Int.reduceLT, Int.reduceLE, Nat.reducePow, Nat.reduceLT, Nat.reduceLeDiff, Nat.reduceAdd, List.length_cons, List.length_nil, Int.neg_neg]
          exact ⟨trivial, trivial, trivial⟩
        rintro _ _ ⟨rfl, rfl⟩
        have h3 : ∀ a, a < i → ¬ Cw sp ls a i := fun a ha z => by
          have := mle a ha
          unfold Cw at z
          omega
        simp only [ex, ev, M_bind, M_map, M_some, M_ite, t_eq, a_tup, al_eq, List.getElem?_cons_zero, List.getElem?_cons_succ, Option.bind_some, Option.map_some, q_add, q_sub, q_lt, q_le, q_gt, q_ge, q_eqI, q_neI, q_eqB, q_neB, q_isN, q_notN, isNon, q_ixT, q_ixR, atI_0, atI_1, atI_2, atI_3, atI_4, atI_5, atI_6, atI_7, q_slT, q_slR, q_revT, q_seqT, q_int, q_intB, q_max, q_min, q_abs, q_tupT, n_tup, n_int, n_bl, n_non, n_str, isi_ii, isi_ib, isi_tt, isi_itl, isi_btl, isi_ttl, isi_tl, isi_bb, u_bl, u_int, u_non, u_tup, g_name, g_tup, g_nil, g_cons, o_ret, o_nx, i_seq, List.set_cons_zero, List.set_cons_succ, decide_eq_true_eq, Bool.not_eq_true', decide_eq_false_iff_not, evP, Bool.false_eq_true, if_true, if_false, ite_true, ite_false, reduceIte, Bool.not_true, Bool.not_false, Option.some.injEq, q_pow10, Int.reduceToNat, Int.reducePow, Int.reduceAdd, Int.reduceSub, Int.reduceMul, Int.reduceNeg, Int.reduceLT, Int.reduceLE, Nat.reducePow, Nat.reduceLT, Nat.reduceLeDiff, Nat.reduceAdd, List.length_cons, List.length_nil, Int.neg_neg]
        by_cases lt : loadK sp ls i < m
        · simp only [lt, decide_true, ex, ev, M_bind, M_map, M_some, M_ite, t_eq, a_tup, al_eq, List.getElem?_cons_zero, List.getElem?_cons_succ, Option.bind_some, Option.map_some, q_add, q_sub, q_lt, q_le, q_gt, q_ge, q_eqI, q_neI, q_eqB, q_neB, q_isN, q_notN, isNon, q_ixT, q_ixR, atI_0, atI_1, atI_2, atI_3, atI_4, atI_5, atI_6, atI_7, q_slT, q_slR, q_revT, q_seqT, q_int, q_intB, q_max, q_min, q_abs, q_tupT, n_tup, n_int, n_bl, n_non, n_str, isi_ii, isi_ib, isi_tt, isi_itl, isi_btl, isi_ttl, isi_tl, isi_bb, u_bl, u_int, u_non, u_tup, g_name, g_tup, g_nil, g_cons, o_ret, o_nx, i_seq, List.set_cons_zero, List.set_cons_succ, decide_eq_true_eq, Bool.not_eq_true', decide_eq_false_iff_not, evP, Bool.false_eq_true, if_true, if_false, ite_true, ite_false, reduceIte, Bool.not_true, Bool.not_false, Option.some.injEq, q_pow10, Int.reduceToNat, Int.reducePow, Int.reduceAdd, Int.reduceSub, Int.reduceMul, Int.reduceNeg, Int.reduceLT, Int.reduceLE, Nat.reducePow, Nat.reduceLT, Nat.reduceLeDiff, Nat.reduceAdd, List.length_cons, List.length_nil, Int.neg_neg]
          refine ⟨still _ l2, next _ (fun a ha => ?_) ⟨i, by omega, rfl⟩ h3⟩
          rcases Nat.lt_or_ge a i with q | q
          · have := mle a q
            omega
          · rw [show a = i by omega]
            exact Int.le_refl _
        · simp only [lt, decide_false, ex, ev, M_bind, M_map, M_some, M_ite, t_eq, a_tup, al_eq, List.getElem?_cons_zero, List.getElem?_cons_succ, Option.bind_some, Option.map_some, q_add, q_sub, q_lt, q_le, q_gt, q_ge, q_eqI, q_neI, q_eqB, q_neB, q_isN, q_notN, isNon, q_ixT, q_ixR, atI_0, atI_1, atI_2, atI_3, atI_4, atI_5, atI_6, atI_7, q_slT, q_slR, q_revT, q_seqT, q_int, q_intB, q_max, q_min, q_abs, q_tupT, n_tup, n_int, n_bl, n_non, n_str, isi_ii, isi_ib, isi_tt, isi_itl, isi_btl, isi_ttl, isi_tl, isi_bb, u_bl, u_int, u_non, u_tup, g_name, g_tup, g_nil, g_cons, o_ret, o_nx, i_seq, List.set_cons_zero, List.set_cons_succ, decide_eq_true_eq, Bool.not_eq_true', decide_eq_false_iff_not, evP, Bool.false_eq_true, if_true, if_false, ite_true, ite_false, reduceIte, Bool.not_true, Bool.not_false, Option.some.injEq, q_pow10, Int.reduceToNat, Int.reducePow, Int.reduceAdd, Int.reduceSub, Int.reduceMul, Int.reduceNeg, Int.reduceLT, Int.reduceLE, Nat.reducePow, Nat.reduceLT, Nat.reduceLeDiff, Nat.reduceAdd, List.length_cons, List.length_nil, Int.neg_neg]
          refine ⟨still _ l2, next m (fun a ha => ?_) ⟨am, by omega, hae⟩ h3⟩
          rcases Nat.lt_or_ge a i with q | q
          · exact mle a q
          · rw [show a = i by omega]
            omega
  · rintro env S2 ⟨v3, v4, v5, v6, rfl, l2, no, _, _⟩
    simp only [ex, ev, M_bind, M_map, M_some, M_ite, t_eq, a_tup, al_eq, List.getElem?_cons_zero, List.getElem?_cons_succ, Option.bind_some, Option.map_some, q_add, q_sub, q_lt, q_le, q_gt, q_ge, q_eqI, q_neI, q_eqB, q_neB, q_isN, q_notN, isNon, q_ixT, q_ixR, atI_0, atI_1, atI_2, atI_3, atI_4, atI_5, atI_6, atI_7, q_slT, q_slR, q_revT, q_seqT, q_int, q_intB, q_max, q_min, q_abs, q_tupT, n_tup, n_int, n_bl, n_non, n_str, isi_ii, isi_ib, isi_tt, isi_itl, isi_btl, isi_ttl, isi_tl, isi_bb, u_bl, u_int, u_non, u_tup, g_name, g_tup, g_nil, g_cons, o_ret, o_nx, i_seq, List.set_cons_zero, List.set_cons_succ, decide_eq_true_eq, Bool.not_eq_true', decide_eq_false_iff_not, evP, Bool.false_eq_true, if_true, if_false, ite_true, ite_false, reduceIte, Bool.not_true, Bool.not_false, Option.some.injEq, q_pow10, Int.reduceToNat, Int.reducePow, Int.reduceAdd, Int.reduceSub, Int.reduceMul, Int.reduceNeg, Int.reduceLT, Int.reduceLE, Nat.reducePow, Nat.reduceLT, Nat.reduceLeDiff, Nat.reduceAdd, List.length_cons, List.length_nil, Int.neg_neg]
    refine hq none S2 (fun b a hab hb => no b a hab ?_) (l1.trans l2)
    simpa [ll] using hb
end Lw

namespace Lw
open PySem L2 Ix
theorem Looks.all {os : List Int} {ls : List (Int × Int)} (h : Looks os ls) : ∀ j ∈ ls, j.2 ∈ os := h.mem
theorem is_ascendingL_ok {n k : Nat} {S : Hd} {L : List Int} (hk : S[k]? = some (.lst (L.map .int))) (ha : Adj (fun x y => x < y) L) (hz : L.length ≤ 990) : Pu (run T (n + 1) 3 [.ref k] S) (.bl true) S := by
  refine Pu.run T_is_ascending rfl ?_
  show M (ex (run T n) b_is_ascending [some (.ref k), none, none] S) _
  unfold b_is_ascending
  simp only [ex, M_map]
  refine M_adj (R := fun x y => x < y) (L := L) rfl hk hz ha (fun x y S3 h l => ?_) fun S3 l => ?_
  · simp only [wipeD, ex, ev, M_bind, M_map, M_some, M_ite, t_eq, a_tup, al_eq, List.getElem?_cons_zero, List.getElem?_cons_succ, Option.bind_some, Option.map_some, q_add, q_sub, q_lt, q_le, q_gt, q_ge, q_eqI, q_neI, q_eqB, q_neB, q_isN, q_notN, isNon, q_ixT, q_ixR, atI_0, atI_1, atI_2, atI_3, atI_4, atI_5, atI_6, atI_7, q_slT, q_slR, q_revT, q_seqT, q_int, q_intB, q_max, q_min, q_abs, q_tupT, n_tup, n_int, n_bl, n_non, n_str, isi_ii, isi_ib, isi_tt, isi_itl, isi_btl, isi_ttl, isi_tl, isi_bb, u_bl, u_int, u_non, u_tup, g_name, g_tup, g_nil, g_cons, o_ret, o_nx, i_seq, List.set_cons_zero, List.set_cons_succ, decide_eq_true_eq, Bool.not_eq_true', decide_eq_false_iff_not, evP, Bool.false_eq_true, if_true, if_false, ite_true, ite_false, reduceIte, Bool.not_true, Bool.not_false, Option.some.injEq, q_pow10, Int.reduceToNat, Int.reducePow, Int.reduceAdd, Int.reduceSub, Int.reduceMul, Int.reduceNeg, Int.reduceLT, Int.reduceLE, Nat.reducePow, Nat.reduceLT, Nat.reduceLeDiff, Nat.reduceAdd, List.length_cons, List.length_nil, Int.neg_neg, h, decide_true]
    exact ⟨trivial, Lq.refl _⟩
  · simp only [ex, ev, M_bind, M_map, M_some, M_ite, t_eq, a_tup, al_eq, List.getElem?_cons_zero, List.getElem?_cons_succ, Option.bind_some, Option.map_some, q_add, q_sub, q_lt, q_le, q_gt, q_ge, q_eqI, q_neI, q_eqB, q_neB, q_isN, q_notN, isNon, q_ixT, q_ixR, atI_0, atI_1, atI_2, atI_3, atI_4, atI_5, atI_6, atI_7, q_slT, q_slR, q_revT, q_seqT, q_int, q_intB, q_max, q_min, q_abs, q_tupT, n_tup, n_int, n_bl, n_non, n_str, isi_ii, isi_ib, isi_tt, isi_itl, isi_btl, isi_ttl, isi_tl, isi_bb, u_bl, u_int, u_non, u_tup, g_name, g_tup, g_nil, g_cons, o_ret, o_nx, i_seq, List.set_cons_zero, List.set_cons_succ, decide_eq_true_eq, Bool.not_eq_true', decide_eq_false_iff_not, evP, Bool.false_eq_true, if_true, if_false, ite_true, ite_false, reduceIte, Bool.not_true, Bool.not_false, Option.some.injEq, q_pow10, Int.reduceToNat, Int.reducePow, Int.reduceAdd, Int.reduceSub, Int.reduceMul, Int.reduceNeg, Int.reduceLT, Int.reduceLE, Nat.reducePow, Nat.reduceLT, Nat.reduceLeDiff, Nat.reduceAdd, List.length_cons, List.length_nil, Int.neg_neg]
    exact ⟨trivial, l⟩
theorem fits_as_looks_ok {n : Nat} {S : Hd} {os : List Int} {sp : Int} {ls : List (Int × Int)} (hk : Looks os ls) (hz : ls.length ≤ 900) : Pu (run T (n + 5) 33 [zoneD os sp, lookD ls] S) (.bl true) S := by
  refine Pu.run T_fits_as_looks rfl ?_
  show M (ex (run T (n + 4)) b_fits_as_looks [some (zoneD os sp), some (lookD ls), none] S) _
  unfold b_fits_as_looks lookD
  simp only [ex, M_map]
  refine M_and ?_
  refine M.imp (P := fun x => ∃ S1, x = (.bl true, S1) ∧ Lq S S1) ?_ ?_
  · simp only [ex, ev, M_bind, M_map, M_some, M_ite, t_eq, a_tup, al_eq, List.getElem?_cons_zero, List.getElem?_cons_succ, Option.bind_some, Option.map_some, q_add, q_sub, q_lt, q_le, q_gt, q_ge, q_eqI, q_neI, q_eqB, q_neB, q_isN, q_notN, isNon, q_ixT, q_ixR, atI_0, atI_1, atI_2, atI_3, atI_4, atI_5, atI_6, atI_7, q_slT, q_slR, q_revT, q_seqT, q_int, q_intB, q_max, q_min, q_abs, q_tupT, n_tup, n_int, n_bl, n_non, n_str, isi_ii, isi_ib, isi_tt, isi_itl, isi_btl, isi_ttl, isi_tl, isi_bb, u_bl, u_int, u_non, u_tup, g_name, g_tup, g_nil, g_cons, o_ret, o_nx, i_seq, List.set_cons_zero, List.set_cons_succ, decide_eq_true_eq, Bool.not_eq_true', decide_eq_false_iff_not, evP, Bool.false_eq_true, if_true, if_false, ite_true, ite_false, reduceIte, Bool.not_true, Bool.not_false, Option.some.injEq, q_pow10, Int.reduceToNat, Int.reducePow, Int.reduceAdd, Int.reduceSub, Int.reduceMul, Int.reduceNeg, Int.reduceLT, Int.reduceLE, Nat.reducePow, Nat.reduceLT, Nat.reduceLeDiff, Nat.reduceAdd, List.length_cons, List.length_nil, Int.neg_neg]
    refine (are_marks_ok hk.mem hz).use fun S1 l1 => ?_
    exact ⟨S1, rfl, l1⟩
  rintro _ ⟨S1, rfl, l1⟩
  refine ⟨rfl, ?_⟩
  rw [show ∀ (f : Nat) (e : E) (env : Sl) (S : Hd), ev (run T (n + 4)) (.call f (.cons e .nil)) env S = (ev (run T (n + 4)) e env S).bind fun x => run T (n + 4) f [x.1] x.2 from fun f e env S => by
    simp only [ev]
    cases ev (run T (n + 4)) e env S with
    | none => rfl
    | some x => rfl]
  simp only [M_bind]
  refine M_proj (js := ls) (f := (·.1)) rfl (by simp) hz (fun j => atI_0) fun k S2 hk2 l2 => ?_
  refine (is_ascendingL_ok hk2 hk.asc (by simp; omega)).use fun S3 l3 => ?_
  simp only [ex, ev, M_bind, M_map, M_some, M_ite, t_eq, a_tup, al_eq, List.getElem?_cons_zero, List.getElem?_cons_succ, Option.bind_some, Option.map_some, q_add, q_sub, q_lt, q_le, q_gt, q_ge, q_eqI, q_neI, q_eqB, q_neB, q_isN, q_notN, isNon, q_ixT, q_ixR, atI_0, atI_1, atI_2, atI_3, atI_4, atI_5, atI_6, atI_7, q_slT, q_slR, q_revT, q_seqT, q_int, q_intB, q_max, q_min, q_abs, q_tupT, n_tup, n_int, n_bl, n_non, n_str, isi_ii, isi_ib, isi_tt, isi_itl, isi_btl, isi_ttl, isi_tl, isi_bb, u_bl, u_int, u_non, u_tup, g_name, g_tup, g_nil, g_cons, o_ret, o_nx, i_seq, List.set_cons_zero, List.set_cons_succ, decide_eq_true_eq, Bool.not_eq_true', decide_eq_false_iff_not, evP, Bool.false_eq_true, if_true, if_false, ite_true, ite_false, reduceIte, Bool.not_true, Bool.not_false, Option.some.injEq, q_pow10, Int.reduceToNat, Int.reducePow, Int.reduceAdd, Int.reduceSub, Int.reduceMul, Int.reduceNeg, Int.reduceLT, Int.reduceLE, Nat.reducePow, Nat.reduceLT, Nat.reduceLeDiff, Nat.reduceAdd, List.length_cons, List.length_nil, Int.neg_neg]
  exact ⟨trivial, l1.trans (l2.trans l3)⟩
theorem check_looks_ok {n : Nat} {S : Hd} {os : List Int} {sp : Int} {ls : List (Int × Int)} (hk : Looks os ls) (hz : ls.length ≤ 900) : Pu (run T (n + 6) 34 [zoneD os sp, lookD ls] S) .non S := by
  refine Pu.run T_check_looks rfl ?_
  show M (ex (run T (n + 5)) b_check_looks [some (zoneD os sp), some (lookD ls)] S) _
  unfold b_check_looks
  refine ite_M ?_
  simp only [ex, ev, M_bind, M_map, M_some, M_ite, t_eq, a_tup, al_eq, List.getElem?_cons_zero, List.getElem?_cons_succ, Option.bind_some, Option.map_some, q_add, q_sub, q_lt, q_le, q_gt, q_ge, q_eqI, q_neI, q_eqB, q_neB, q_isN, q_notN, isNon, q_ixT, q_ixR, atI_0, atI_1, atI_2, atI_3, atI_4, atI_5, atI_6, atI_7, q_slT, q_slR, q_revT, q_seqT, q_int, q_intB, q_max, q_min, q_abs, q_tupT, n_tup, n_int, n_bl, n_non, n_str, isi_ii, isi_ib, isi_tt, isi_itl, isi_btl, isi_ttl, isi_tl, isi_bb, u_bl, u_int, u_non, u_tup, g_name, g_tup, g_nil, g_cons, o_ret, o_nx, i_seq, List.set_cons_zero, List.set_cons_succ, decide_eq_true_eq, Bool.not_eq_true', decide_eq_false_iff_not, evP, Bool.false_eq_true, if_true, if_false, ite_true, ite_false, reduceIte, Bool.not_true, Bool.not_false, Option.some.injEq, q_pow10, Int.reduceToNat, Int.reducePow, Int.reduceAdd, Int.reduceSub, Int.reduceMul, Int.reduceNeg, Int.reduceLT, Int.reduceLE, Nat.reducePow, Nat.reduceLT, Nat.reduceLeDiff, Nat.reduceAdd, List.length_cons, List.length_nil, Int.neg_neg]
  refine (fits_as_looks_ok hk hz).use fun S1 l1 => ?_
  simp only [ex, ev, M_bind, M_map, M_some, M_ite, t_eq, a_tup, al_eq, List.getElem?_cons_zero, List.getElem?_cons_succ, Option.bind_some, Option.map_some, q_add, q_sub, q_lt, q_le, q_gt, q_ge, q_eqI, q_neI, q_eqB, q_neB, q_isN, q_notN, isNon, q_ixT, q_ixR, atI_0, atI_1, atI_2, atI_3, atI_4, atI_5, atI_6, atI_7, q_slT, q_slR, q_revT, q_seqT, q_int, q_intB, q_max, q_min, q_abs, q_tupT, n_tup, n_int, n_bl, n_non, n_str, isi_ii, isi_ib, isi_tt, isi_itl, isi_btl, isi_ttl, isi_tl, isi_bb, u_bl, u_int, u_non, u_tup, g_name, g_tup, g_nil, g_cons, o_ret, o_nx, i_seq, List.set_cons_zero, List.set_cons_succ, decide_eq_true_eq, Bool.not_eq_true', decide_eq_false_iff_not, evP, Bool.false_eq_true, if_true, if_false, ite_true, ite_false, reduceIte, Bool.not_true, Bool.not_false, Option.some.injEq, q_pow10, Int.reduceToNat, Int.reducePow, Int.reduceAdd, Int.reduceSub, Int.reduceMul, Int.reduceNeg, Int.reduceLT, Int.reduceLE, Nat.reducePow, Nat.reduceLT, Nat.reduceLeDiff, Nat.reduceAdd, List.length_cons, List.length_nil, Int.neg_neg]
  exact ⟨trivial, l1⟩
theorem crowded_ok {n : Nat} {S : Hd} {os : List Int} {sp : Int} {ls : List (Int × Int)} (hz : Zone os sp) (hk : Looks os ls) (hl : ls.length ≤ 900) {Q : D × Hd → Prop} (hq : ∀ (c : Option (Nat × Nat)) (S2 : Hd), Told sp ls c → Lq S S2 → Q (toldD c, S2)) : M (run T (n + 7) 38 [zoneD os sp, lookD ls] S) Q := by
  refine run_M T_crowded rfl ?_
  show M (ex (run T (n + 6)) b_crowded [some (zoneD os sp), some (lookD ls)] S) _
  unfold b_crowded
  have e : ∀ S2, ixD (zoneD os sp) (.int 1) S2 = some (.int sp, S2) := fun _ => rfl
  simp only [ex, ev, M_bind, M_map, M_some, M_ite, t_eq, a_tup, al_eq, List.getElem?_cons_zero, List.getElem?_cons_succ, Option.bind_some, Option.map_some, q_add, q_sub, q_lt, q_le, q_gt, q_ge, q_eqI, q_neI, q_eqB, q_neB, q_isN, q_notN, isNon, q_ixT, q_ixR, atI_0, atI_1, atI_2, atI_3, atI_4, atI_5, atI_6, atI_7, q_slT, q_slR, q_revT, q_seqT, q_int, q_intB, q_max, q_min, q_abs, q_tupT, n_tup, n_int, n_bl, n_non, n_str, isi_ii, isi_ib, isi_tt, isi_itl, isi_btl, isi_ttl, isi_tl, isi_bb, u_bl, u_int, u_non, u_tup, g_name, g_tup, g_nil, g_cons, o_ret, o_nx, i_seq, List.set_cons_zero, List.set_cons_succ, decide_eq_true_eq, Bool.not_eq_true', decide_eq_false_iff_not, evP, Bool.false_eq_true, if_true, if_false, ite_true, ite_false, reduceIte, Bool.not_true, Bool.not_false, Option.some.injEq, q_pow10, Int.reduceToNat, Int.reducePow, Int.reduceAdd, Int.reduceSub, Int.reduceMul, Int.reduceNeg, Int.reduceLT, Int.reduceLE, Nat.reducePow, Nat.reduceLT, Nat.reduceLeDiff, Nat.reduceAdd, List.length_cons, List.length_nil, Int.neg_neg]
  refine (check_zone_ok hz).use fun S1 l1 => ?_
  simp only [ex, ev, M_bind, M_map, M_some, M_ite, t_eq, a_tup, al_eq, List.getElem?_cons_zero, List.getElem?_cons_succ, Option.bind_some, Option.map_some, q_add, q_sub, q_lt, q_le, q_gt, q_ge, q_eqI, q_neI, q_eqB, q_neB, q_isN, q_notN, isNon, q_ixT, q_ixR, atI_0, atI_1, atI_2, atI_3, atI_4, atI_5, atI_6, atI_7, q_slT, q_slR, q_revT, q_seqT, q_int, q_intB, q_max, q_min, q_abs, q_tupT, n_tup, n_int, n_bl, n_non, n_str, isi_ii, isi_ib, isi_tt, isi_itl, isi_btl, isi_ttl, isi_tl, isi_bb, u_bl, u_int, u_non, u_tup, g_name, g_tup, g_nil, g_cons, o_ret, o_nx, i_seq, List.set_cons_zero, List.set_cons_succ, decide_eq_true_eq, Bool.not_eq_true', decide_eq_false_iff_not, evP, Bool.false_eq_true, if_true, if_false, ite_true, ite_false, reduceIte, Bool.not_true, Bool.not_false, Option.some.injEq, q_pow10, Int.reduceToNat, Int.reducePow, Int.reduceAdd, Int.reduceSub, Int.reduceMul, Int.reduceNeg, Int.reduceLT, Int.reduceLE, Nat.reducePow, Nat.reduceLT, Nat.reduceLeDiff, Nat.reduceAdd, List.length_cons, List.length_nil, Int.neg_neg]
  refine (check_looks_ok hk hl).use fun S2 l2 => ?_
  simp only [ex, ev, M_bind, M_map, M_some, M_ite, t_eq, a_tup, al_eq, List.getElem?_cons_zero, List.getElem?_cons_succ, Option.bind_some, Option.map_some, q_add, q_sub, q_lt, q_le, q_gt, q_ge, q_eqI, q_neI, q_eqB, q_neB, q_isN, q_notN, isNon, q_ixT, q_ixR, atI_0, atI_1, atI_2, atI_3, atI_4, atI_5, atI_6, atI_7, q_slT, q_slR, q_revT, q_seqT, q_int, q_intB, q_max, q_min, q_abs, q_tupT, n_tup, n_int, n_bl, n_non, n_str, isi_ii, isi_ib, isi_tt, isi_itl, isi_btl, isi_ttl, isi_tl, isi_bb, u_bl, u_int, u_non, u_tup, g_name, g_tup, g_nil, g_cons, o_ret, o_nx, i_seq, List.set_cons_zero, List.set_cons_succ, decide_eq_true_eq, Bool.not_eq_true', decide_eq_false_iff_not, evP, Bool.false_eq_true, if_true, if_false, ite_true, ite_false, reduceIte, Bool.not_true, Bool.not_false, Option.some.injEq, q_pow10, Int.reduceToNat, Int.reducePow, Int.reduceAdd, Int.reduceSub, Int.reduceMul, Int.reduceNeg, Int.reduceLT, Int.reduceLE, Nat.reducePow, Nat.reduceLT, Nat.reduceLeDiff, Nat.reduceAdd, List.length_cons, List.length_nil, Int.neg_neg, e]
  refine crowded_stretch_ok hz.pos hz.top hl fun c S3 hc l3 => ?_
  simp only [ex, ev, M_bind, M_map, M_some, M_ite, t_eq, a_tup, al_eq, List.getElem?_cons_zero, List.getElem?_cons_succ, Option.bind_some, Option.map_some, q_add, q_sub, q_lt, q_le, q_gt, q_ge, q_eqI, q_neI, q_eqB, q_neB, q_isN, q_notN, isNon, q_ixT, q_ixR, atI_0, atI_1, atI_2, atI_3, atI_4, atI_5, atI_6, atI_7, q_slT, q_slR, q_revT, q_seqT, q_int, q_intB, q_max, q_min, q_abs, q_tupT, n_tup, n_int, n_bl, n_non, n_str, isi_ii, isi_ib, isi_tt, isi_itl, isi_btl, isi_ttl, isi_tl, isi_bb, u_bl, u_int, u_non, u_tup, g_name, g_tup, g_nil, g_cons, o_ret, o_nx, i_seq, List.set_cons_zero, List.set_cons_succ, decide_eq_true_eq, Bool.not_eq_true', decide_eq_false_iff_not, evP, Bool.false_eq_true, if_true, if_false, ite_true, ite_false, reduceIte, Bool.not_true, Bool.not_false, Option.some.injEq, q_pow10, Int.reduceToNat, Int.reducePow, Int.reduceAdd, Int.reduceSub, Int.reduceMul, Int.reduceNeg, Int.reduceLT, Int.reduceLE, Nat.reducePow, Nat.reduceLT, Nat.reduceLeDiff, Nat.reduceAdd, List.length_cons, List.length_nil, Int.neg_neg]
  exact hq c S3 hc (l1.trans (l2.trans l3))
theorem isNon_told {c : Option (Nat × Nat)} : isNon (toldD c) = c.isNone := by
  cases c with
  | none => rfl
  | some c => rfl
theorem can_hold_ok {n : Nat} {S : Hd} {os : List Int} {sp : Int} {ls : List (Int × Int)} {c : Option (Nat × Nat)} (hz : Zone os sp) (hk : Looks os ls) (hl : ls.length ≤ 900) (hc : Told sp ls c) : Pu (run T (n + 7) 37 [zoneD os sp, lookD ls] S) (.bl c.isNone) S := by
  refine Pu.run T_can_hold rfl ?_
  show M (ex (run T (n + 6)) b_can_hold [some (zoneD os sp), some (lookD ls)] S) _
  unfold b_can_hold
  have e : ∀ S2, ixD (zoneD os sp) (.int 1) S2 = some (.int sp, S2) := fun _ => rfl
  simp only [ex, ev, M_bind, M_map, M_some, M_ite, t_eq, a_tup, al_eq, List.getElem?_cons_zero, List.getElem?_cons_succ, Option.bind_some, Option.map_some, q_add, q_sub, q_lt, q_le, q_gt, q_ge, q_eqI, q_neI, q_eqB, q_neB, q_isN, q_notN, isNon, q_ixT, q_ixR, atI_0, atI_1, atI_2, atI_3, atI_4, atI_5, atI_6, atI_7, q_slT, q_slR, q_revT, q_seqT, q_int, q_intB, q_max, q_min, q_abs, q_tupT, n_tup, n_int, n_bl, n_non, n_str, isi_ii, isi_ib, isi_tt, isi_itl, isi_btl, isi_ttl, isi_tl, isi_bb, u_bl, u_int, u_non, u_tup, g_name, g_tup, g_nil, g_cons, o_ret, o_nx, i_seq, List.set_cons_zero, List.set_cons_succ, decide_eq_true_eq, Bool.not_eq_true', decide_eq_false_iff_not, evP, Bool.false_eq_true, if_true, if_false, ite_true, ite_false, reduceIte, Bool.not_true, Bool.not_false, Option.some.injEq, q_pow10, Int.reduceToNat, Int.reducePow, Int.reduceAdd, Int.reduceSub, Int.reduceMul, Int.reduceNeg, Int.reduceLT, Int.reduceLE, Nat.reducePow, Nat.reduceLT, Nat.reduceLeDiff, Nat.reduceAdd, List.length_cons, List.length_nil, Int.neg_neg]
  refine (check_zone_ok hz).use fun S1 l1 => ?_
  simp only [ex, ev, M_bind, M_map, M_some, M_ite, t_eq, a_tup, al_eq, List.getElem?_cons_zero, List.getElem?_cons_succ, Option.bind_some, Option.map_some, q_add, q_sub, q_lt, q_le, q_gt, q_ge, q_eqI, q_neI, q_eqB, q_neB, q_isN, q_notN, isNon, q_ixT, q_ixR, atI_0, atI_1, atI_2, atI_3, atI_4, atI_5, atI_6, atI_7, q_slT, q_slR, q_revT, q_seqT, q_int, q_intB, q_max, q_min, q_abs, q_tupT, n_tup, n_int, n_bl, n_non, n_str, isi_ii, isi_ib, isi_tt, isi_itl, isi_btl, isi_ttl, isi_tl, isi_bb, u_bl, u_int, u_non, u_tup, g_name, g_tup, g_nil, g_cons, o_ret, o_nx, i_seq, List.set_cons_zero, List.set_cons_succ, decide_eq_true_eq, Bool.not_eq_true', decide_eq_false_iff_not, evP, Bool.false_eq_true, if_true, if_false, ite_true, ite_false, reduceIte, Bool.not_true, Bool.not_false, Option.some.injEq, q_pow10, Int.reduceToNat, Int.reducePow, Int.reduceAdd, Int.reduceSub, Int.reduceMul, Int.reduceNeg, Int.reduceLT, Int.reduceLE, Nat.reducePow, Nat.reduceLT, Nat.reduceLeDiff, Nat.reduceAdd, List.length_cons, List.length_nil, Int.neg_neg]
  refine (check_looks_ok hk hl).use fun S2 l2 => ?_
  simp only [ex, ev, M_bind, M_map, M_some, M_ite, t_eq, a_tup, al_eq, List.getElem?_cons_zero, List.getElem?_cons_succ, Option.bind_some, Option.map_some, q_add, q_sub, q_lt, q_le, q_gt, q_ge, q_eqI, q_neI, q_eqB, q_neB, q_isN, q_notN, isNon, q_ixT, q_ixR, atI_0, atI_1, atI_2, atI_3, atI_4, atI_5, atI_6, atI_7, q_slT, q_slR, q_revT, q_seqT, q_int, q_intB, q_max, q_min, q_abs, q_tupT, n_tup, n_int, n_bl, n_non, n_str, isi_ii, isi_ib, isi_tt, isi_itl, isi_btl, isi_ttl, isi_tl, isi_bb, u_bl, u_int, u_non, u_tup, g_name, g_tup, g_nil, g_cons, o_ret, o_nx, i_seq, List.set_cons_zero, List.set_cons_succ, decide_eq_true_eq, Bool.not_eq_true', decide_eq_false_iff_not, evP, Bool.false_eq_true, if_true, if_false, ite_true, ite_false, reduceIte, Bool.not_true, Bool.not_false, Option.some.injEq, q_pow10, Int.reduceToNat, Int.reducePow, Int.reduceAdd, Int.reduceSub, Int.reduceMul, Int.reduceNeg, Int.reduceLT, Int.reduceLE, Nat.reducePow, Nat.reduceLT, Nat.reduceLeDiff, Nat.reduceAdd, List.length_cons, List.length_nil, Int.neg_neg, e]
  refine crowded_stretch_ok hz.pos hz.top hl fun c' S3 hc' l3 => ?_
  rw [told_one hc' hc]
  simp only [ex, ev, M_bind, M_map, M_some, M_ite, t_eq, a_tup, al_eq, List.getElem?_cons_zero, List.getElem?_cons_succ, Option.bind_some, Option.map_some, q_add, q_sub, q_lt, q_le, q_gt, q_ge, q_eqI, q_neI, q_eqB, q_neB, q_isN, q_notN, isNon, q_ixT, q_ixR, atI_0, atI_1, atI_2, atI_3, atI_4, atI_5, atI_6, atI_7, q_slT, q_slR, q_revT, q_seqT, q_int, q_intB, q_max, q_min, q_abs, q_tupT, n_tup, n_int, n_bl, n_non, n_str, isi_ii, isi_ib, isi_tt, isi_itl, isi_btl, isi_ttl, isi_tl, isi_bb, u_bl, u_int, u_non, u_tup, g_name, g_tup, g_nil, g_cons, o_ret, o_nx, i_seq, List.set_cons_zero, List.set_cons_succ, decide_eq_true_eq, Bool.not_eq_true', decide_eq_false_iff_not, evP, Bool.false_eq_true, if_true, if_false, ite_true, ite_false, reduceIte, Bool.not_true, Bool.not_false, Option.some.injEq, q_pow10, Int.reduceToNat, Int.reducePow, Int.reduceAdd, Int.reduceSub, Int.reduceMul, Int.reduceNeg, Int.reduceLT, Int.reduceLE, Nat.reducePow, Nat.reduceLT, Nat.reduceLeDiff, Nat.reduceAdd, List.length_cons, List.length_nil, Int.neg_neg]
  cases c with
  | none => exact ⟨rfl, l1.trans (l2.trans l3)⟩
  | some c => exact ⟨rfl, l1.trans (l2.trans l3)⟩
/-- the same, by the changes in each stretch -/
theorem crowd_ok {n : Nat} {S : Hd} {os : List Int} {sp : Int} {ls : List (Int × Int)} (s0 : 0 < sp) (s1 : sp ≤ 1000000) (hl : ls.length ≤ 900) {Q : D × Hd → Prop} (hq : ∀ (c : Option (Nat × Nat)) (S2 : Hd), Told sp ls c → Lq S S2 → Q (toldD c, S2)) : M (run T (n + 1) 40 [zoneD os sp, lookD ls] S) Q := by
  have hm := most_big
  refine run_M T_crowd rfl ?_
  show M (ex (run T n) b_crowd [some (zoneD os sp), some (lookD ls), none, none, none, none, none, none] S) _
  unfold b_crowd
  have ez : ∀ S2, ixD (zoneD os sp) (.int 1) S2 = some (.int sp, S2) := fun _ => rfl
  have el : ∀ S2 (i : Int), 0 ≤ i → i < ls.length → ixD (lookD ls) (.int i) S2 = some (.tup [.int (atL ls i.toNat).1, .int (atL ls i.toNat).2], S2) := fun S2 i h0 h1 => by
    unfold lookD
    rw [q_ixT, atI_look h0 h1]
    rfl
  have sl : ∀ S2, seqOf S2 (lookD ls) = some (ls.map jumpD) := fun _ => rfl
  refine seq_M (fun env S1 => S1 = S ++ [.lst [.int 0]] ∧ env = [some (zoneD os sp), some (lookD ls), some (.ref S.length), none, none, none, none, none]) ?_ ?_
  · simp only [ex, ev, M_bind, M_map, M_some, M_ite, t_eq, a_tup, al_eq, List.getElem?_cons_zero, List.getElem?_cons_succ, Option.bind_some, Option.map_some, q_add, q_sub, q_lt, q_le, q_gt, q_ge, q_eqI, q_neI, q_eqB, q_neB, q_isN, q_notN, isNon, q_ixT, q_ixR, atI_0, atI_1, atI_2, atI_3, atI_4, atI_5, atI_6, atI_7, q_slT, q_slR, q_revT, q_seqT, q_int, q_intB, q_max, q_min, q_abs, q_tupT, n_tup, n_int, n_bl, n_non, n_str, isi_ii, isi_ib, isi_tt, isi_itl, isi_btl, isi_ttl, isi_tl, isi_bb, u_bl, u_int, u_non, u_tup, g_name, g_tup, g_nil, g_cons, o_ret, o_nx, i_seq, List.set_cons_zero, List.set_cons_succ, decide_eq_true_eq, Bool.not_eq_true', decide_eq_false_iff_not, evP, Bool.false_eq_true, if_true, if_false, ite_true, ite_false, reduceIte, Bool.not_true, Bool.not_false, Option.some.injEq, q_pow10, Int.reduceToNat, Int.reducePow, Int.reduceAdd, Int.reduceSub, Int.reduceMul, Int.reduceNeg, Int.reduceLT, Int.reduceLE, Nat.reducePow, Nat.reduceLT, Nat.reduceLeDiff, Nat.reduceAdd, List.length_cons, List.length_nil, Int.neg_neg, show (1 : Nat) ≤ most by decide, Nat.zero_add]
    exact ⟨trivial, trivial, trivial⟩
  rintro _ _ ⟨rfl, rfl⟩
  refine seq_M (fun env S1 => ∃ v3 : Option D, ((∀ k, k < ls.length → atI ((List.range (ls.length - 1 + 1)).map fun k => D.int (chg ls k)) (k : Int) = some (.int (chg ls k))) ∧ S1[S.length]? = some (.lst ((List.range (ls.length - 1 + 1)).map fun k => D.int (chg ls k)))) ∧ Lq S S1 ∧ env = [some (zoneD os sp), some (lookD ls), some (.ref S.length), v3, none, none, none, none]) ?_ ?_
  · refine for_M ?_
    simp only [ev, M_bind, M_map, M_some, M_ite, t_eq, a_tup, al_eq, List.getElem?_cons_zero, List.getElem?_cons_succ, Option.bind_some, Option.map_some, q_add, q_sub, q_lt, q_le, q_gt, q_ge, q_eqI, q_neI, q_eqB, q_neB, q_isN, q_notN, isNon, q_ixT, q_ixR, atI_0, atI_1, atI_2, atI_3, atI_4, atI_5, atI_6, atI_7, q_slT, q_slR, q_revT, q_seqT, q_int, q_intB, q_max, q_min, q_abs, q_tupT, n_tup, n_int, n_bl, n_non, n_str, isi_ii, isi_ib, isi_tt, isi_itl, isi_btl, isi_ttl, isi_tl, isi_bb, u_bl, u_int, u_non, u_tup, g_name, g_tup, g_nil, g_cons, o_ret, o_nx, i_seq, List.set_cons_zero, List.set_cons_succ, decide_eq_true_eq, Bool.not_eq_true', decide_eq_false_iff_not, evP, Bool.false_eq_true, if_true, if_false, ite_true, ite_false, reduceIte, Bool.not_true, Bool.not_false, Option.some.injEq, q_pow10, Int.reduceToNat, Int.reducePow, Int.reduceAdd, Int.reduceSub, Int.reduceMul, Int.reduceNeg, Int.reduceLT, Int.reduceLE, Nat.reducePow, Nat.reduceLT, Nat.reduceLeDiff, Nat.reduceAdd, List.length_cons, List.length_nil, Int.neg_neg, q_len (sl _), List.length_map]
    have ir : ∀ S2, items .range2 [.int 1, .int (ls.length : Int)] S2 = some ((List.range ((ls.length : Int) - 1).toNat).map fun (i : Nat) => .int (1 + (i : Int))) := fun S2 => i_rng2 (by decide) (by decide) (by omega) (by omega)
    refine ⟨_, _, rfl, ir _, ?_⟩
    refine M_loopS (m := 0) (fun i env S1 => ∃ v3 : Option D, S1[S.length]? = some (.lst ((List.range (i + 1)).map fun k => D.int (chg ls k))) ∧ Lq S S1 ∧ env = [some (zoneD os sp), some (lookD ls), some (.ref S.length), v3, none, none, none, none]) ⟨none, get_new, Lq.app _ _, rfl⟩ ?_ ?_
    · rintro i d env S1 hi ⟨v3, g, l, rfl⟩
      obtain ⟨im, rfl⟩ := rng_get hi
      have im : i + 1 < ls.length := by omega
      simp only [Nat.zero_add] at g ⊢
      have last : atI ((List.range (i + 1)).map fun k => D.int (chg ls k)) (-1) = some (.int (chg ls i)) := by
        unfold atI ixN
        rw [if_neg (by omega), if_pos (by simp; omega)]
        show ((List.range (i + 1)).map fun k => D.int (chg ls k))[((-1 : Int) + (((List.range (i + 1)).map fun k => D.int (chg ls k)).length : Int)).toNat]? = _
        rw [show ((-1 : Int) + (((List.range (i + 1)).map fun k => D.int (chg ls k)).length : Int)).toNat = i by simp; omega, List.getElem?_map, List.getElem?_range (by omega)]
        rfl
      simp only [ex, ev, M_bind, M_map, M_some, M_ite, t_eq, a_tup, al_eq, List.getElem?_cons_zero, List.getElem?_cons_succ, Option.bind_some, Option.map_some, q_add, q_sub, q_lt, q_le, q_gt, q_ge, q_eqI, q_neI, q_eqB, q_neB, q_isN, q_notN, isNon, q_ixT, q_ixR, atI_0, atI_1, atI_2, atI_3, atI_4, atI_5, atI_6, atI_7, q_slT, q_slR, q_revT, q_seqT, q_int, q_intB, q_max, q_min, q_abs, q_tupT, n_tup, n_int, n_bl, n_non, n_str, isi_ii, isi_ib, isi_tt, isi_itl, isi_btl, isi_ttl, isi_tl, isi_bb, u_bl, u_int, u_non, u_tup, g_name, g_tup, g_nil, g_cons, o_ret, o_nx, i_seq, List.set_cons_zero, List.set_cons_succ, decide_eq_true_eq, Bool.not_eq_true', decide_eq_false_iff_not, evP, Bool.false_eq_true, if_true, if_false, ite_true, ite_false, reduceIte, Bool.not_true, Bool.not_false, Option.some.injEq, q_pow10, Int.reduceToNat, Int.reducePow, Int.reduceAdd, Int.reduceSub, Int.reduceMul, Int.reduceNeg, Int.reduceLT, Int.reduceLE, Nat.reducePow, Nat.reduceLT, Nat.reduceLeDiff, Nat.reduceAdd, List.length_cons, List.length_nil, Int.neg_neg, q_isL g, q_ixL g, last, el _ (1 + (i : Int)) (by omega) (by omega), el _ (1 + (i : Int) - 1) (by omega) (by omega)]
      rw [show (1 + (i : Int)).toNat = i + 1 by omega, show (1 + (i : Int) - 1).toNat = i by omega]
      rw [q_app g (by simp; omega)]
      simp only [M_some]
      refine ⟨ir _, _, ?_, Lq.set l (Nat.le_refl _), rfl⟩
      rw [List.getElem?_set_self (lt_of_get g), List.range_succ (n := i + 1), List.map_append (l₁ := List.range (i + 1)), List.map_cons, List.map_nil]
      congr 5
      by_cases c : (atL ls (i + 1)).2 = (atL ls i).2
      · simp [chg, c]
      · simp [chg, c]
    · rintro env S1 ⟨v3, g, l, rfl⟩
      refine ⟨rfl, v3, ⟨fun k hk => ?_, ?_⟩, l, rfl⟩
      · rw [atI_lt (by omega) (by simp; omega), List.getElem?_map, show (k : Int).toNat = k by omega, List.getElem?_range (by omega)]
        rfl
      · rw [g]
        simp only [Nat.zero_add, List.length_map, List.length_range]
        rw [show ((ls.length : Int) - 1).toNat = ls.length - 1 by omega]
  rintro _ S1 ⟨v3, ⟨at1, g1⟩, l1, rfl⟩
  generalize ((List.range (ls.length - 1 + 1)).map fun k => D.int (chg ls k)) = tal at at1 g1
  refine seq_Mx (for_M ?_)
  simp only [ev, M_bind, M_map, M_some, M_ite, t_eq, a_tup, al_eq, List.getElem?_cons_zero, List.getElem?_cons_succ, Option.bind_some, Option.map_some, q_add, q_sub, q_lt, q_le, q_gt, q_ge, q_eqI, q_neI, q_eqB, q_neB, q_isN, q_notN, isNon, q_ixT, q_ixR, atI_0, atI_1, atI_2, atI_3, atI_4, atI_5, atI_6, atI_7, q_slT, q_slR, q_revT, q_seqT, q_int, q_intB, q_max, q_min, q_abs, q_tupT, n_tup, n_int, n_bl, n_non, n_str, isi_ii, isi_ib, isi_tt, isi_itl, isi_btl, isi_ttl, isi_tl, isi_bb, u_bl, u_int, u_non, u_tup, g_name, g_tup, g_nil, g_cons, o_ret, o_nx, i_seq, List.set_cons_zero, List.set_cons_succ, decide_eq_true_eq, Bool.not_eq_true', decide_eq_false_iff_not, evP, Bool.false_eq_true, if_true, if_false, ite_true, ite_false, reduceIte, Bool.not_true, Bool.not_false, Option.some.injEq, q_pow10, Int.reduceToNat, Int.reducePow, Int.reduceAdd, Int.reduceSub, Int.reduceMul, Int.reduceNeg, Int.reduceLT, Int.reduceLE, Nat.reducePow, Nat.reduceLT, Nat.reduceLeDiff, Nat.reduceAdd, List.length_cons, List.length_nil, Int.neg_neg, q_len (sl _), List.length_map]
  refine ⟨_, _, rfl, i_rng (by omega) (by omega), ?_⟩
  have st1 : ∀ S2, items .range1 [.int (ls.length : Int)] S2 = some ((List.range (ls.length : Int).toNat).map fun (z : Nat) => .int (0 + (z : Int))) := fun S2 => i_rng (by omega) (by omega)
  refine M_loopS (m := 0) (fun i env S2 => ∃ v4 v5 v6 v7 : Option D, env = [some (zoneD os sp), some (lookD ls), some (.ref S.length), v3, v4, v5, v6, v7] ∧ Lq S1 S2 ∧ ∀ b a, a < b → b < i → ¬ Cw sp ls a b) ⟨_, _, _, _, rfl, Lq.refl _, fun b a _ h => absurd h (by omega)⟩ ?_ ?_
  · rintro i d env S2 hi ⟨v4, v5, v6, v7, rfl, l2, no⟩
    obtain ⟨im, rfl⟩ := rng_get hi
    have im : i < ls.length := by omega
    simp only [Nat.zero_add] at no ⊢
    simp only [asgG, Option.bind_some, List.set_cons_succ, List.set_cons_zero]
    refine for_M ?_
    simp only [ev, M_bind, M_map, M_some, M_ite, t_eq, a_tup, al_eq, List.getElem?_cons_zero, List.getElem?_cons_succ, Option.bind_some, Option.map_some, q_add, q_sub, q_lt, q_le, q_gt, q_ge, q_eqI, q_neI, q_eqB, q_neB, q_isN, q_notN, isNon, q_ixT, q_ixR, atI_0, atI_1, atI_2, atI_3, atI_4, atI_5, atI_6, atI_7, q_slT, q_slR, q_revT, q_seqT, q_int, q_intB, q_max, q_min, q_abs, q_tupT, n_tup, n_int, n_bl, n_non, n_str, isi_ii, isi_ib, isi_tt, isi_itl, isi_btl, isi_ttl, isi_tl, isi_bb, u_bl, u_int, u_non, u_tup, g_name, g_tup, g_nil, g_cons, o_ret, o_nx, i_seq, List.set_cons_zero, List.set_cons_succ, decide_eq_true_eq, Bool.not_eq_true', decide_eq_false_iff_not, evP, Bool.false_eq_true, if_true, if_false, ite_true, ite_false, reduceIte, Bool.not_true, Bool.not_false, Option.some.injEq, q_pow10, Int.reduceToNat, Int.reducePow, Int.reduceAdd, Int.reduceSub, Int.reduceMul, Int.reduceNeg, Int.reduceLT, Int.reduceLE, Nat.reducePow, Nat.reduceLT, Nat.reduceLeDiff, Nat.reduceAdd, List.length_cons, List.length_nil, Int.neg_neg]
    refine ⟨_, _, rfl, i_rng (by omega) (by omega), ?_⟩
    have st2 : ∀ S3, items .range1 [.int (0 + (i : Int))] S3 = some ((List.range (0 + (i : Int)).toNat).map fun (z : Nat) => .int (0 + (z : Int))) := fun S3 => i_rng (by omega) (by omega)
    refine M_loopS (m := 0) (fun j env S3 => ∃ v5 v6 v7 : Option D, env = [some (zoneD os sp), some (lookD ls), some (.ref S.length), v3, some (.int (0 + (i : Int))), v5, v6, v7] ∧ Lq S1 S3 ∧ ∀ a, a < i → i ≤ a + j → ¬ Cw sp ls a i) ⟨_, _, _, rfl, l2, fun a h1 h2 => absurd h2 (by omega)⟩ ?_ ?_
    · rintro j d env S3 hj ⟨v5, v6, v7, rfl, l3, noj⟩
      obtain ⟨jm, rfl⟩ := rng_get hj
      have jm : j < i := by omega
      simp only [Nat.zero_add] at noj ⊢
      obtain ⟨a, ha⟩ : ∃ a : Nat, a = i - 1 - j := ⟨_, rfl⟩
      have ea : 0 + (i : Int) - 1 - (0 + (j : Int)) = (a : Int) := by omega
      have ei : (0 + (i : Int)).toNat = i := by omega
      have g3 := l3 _ _ g1
      have hai : a < i := by omega
      simp only [asgG, Option.bind_some, List.set_cons_succ, List.set_cons_zero]
      refine seq_M (fun env S4 => S3 = S4 ∧ env = [some (zoneD os sp), some (lookD ls), some (.ref S.length), v3, some (.int (0 + (i : Int))), some (.int (0 + (j : Int))), some (.int (a : Int)), v7]) ?_ ?_
      · simp only [ex, ev, M_bind, M_map, M_some, M_ite, t_eq, a_tup, al_eq, List.getElem?_cons_zero, List.getElem?_cons_succ, Option.bind_some, Option.map_some, q_add, q_sub, q_lt, q_le, q_gt, q_ge, q_eqI, q_neI, q_eqB, q_neB, q_isN, q_notN, isNon, q_ixT, q_ixR, atI_0, atI_1, atI_2, atI_3, atI_4, atI_5, atI_6, atI_7, q_slT, q_slR, q_revT, q_seqT, q_int, q_intB, q_max, q_min, q_abs, q_tupT, n_tup, n_int, n_bl, n_non, n_str, isi_ii, isi_ib, isi_tt, isi_itl, isi_btl, isi_ttl, isi_tl, isi_bb, u_bl, u_int, u_non, u_tup, g_name, g_tup, g_nil, g_cons, o_ret, o_nx, i_seq, List.set_cons_zero, List.set_cons_succ, decide_eq_true_eq, Bool.not_eq_true', decide_eq_false_iff_not, evP, Bool.false_eq_true, if_true, if_false, ite_true, ite_false, reduceIte, Bool.not_true, Bool.not_false, Option.some.injEq, q_pow10, Int.reduceToNat, Int.reducePow, Int.reduceAdd, Int.reduceSub, Int.reduceMul, Int.reduceNeg, Int.reduceLT, Int.reduceLE, Nat.reducePow, Nat.reduceLT, Nat.reduceLeDiff, Nat.reduceAdd, List.length_cons, List.length_nil, Int.neg_neg, ea]
        exact ⟨trivial, trivial, trivial⟩
      rintro _ _ ⟨rfl, rfl⟩
      have ti : atI tal (0 + (i : Int)) = some (.int (chg ls i)) := by
        rw [Int.zero_add]
        exact at1 i im
      have ta := at1 a (by omega)
      refine seq_M (fun env S4 => S3 = S4 ∧ env = [some (zoneD os sp), some (lookD ls), some (.ref S.length), v3, some (.int (0 + (i : Int))), some (.int (0 + (j : Int))), some (.int (a : Int)), some (.int (chg ls i - chg ls a))]) ?_ ?_
      · simp only [ex, ev, M_bind, M_map, M_some, M_ite, t_eq, a_tup, al_eq, List.getElem?_cons_zero, List.getElem?_cons_succ, Option.bind_some, Option.map_some, q_add, q_sub, q_lt, q_le, q_gt, q_ge, q_eqI, q_neI, q_eqB, q_neB, q_isN, q_notN, isNon, q_ixT, q_ixR, atI_0, atI_1, atI_2, atI_3, atI_4, atI_5, atI_6, atI_7, q_slT, q_slR, q_revT, q_seqT, q_int, q_intB, q_max, q_min, q_abs, q_tupT, n_tup, n_int, n_bl, n_non, n_str, isi_ii, isi_ib, isi_tt, isi_itl, isi_btl, isi_ttl, isi_tl, isi_bb, u_bl, u_int, u_non, u_tup, g_name, g_tup, g_nil, g_cons, o_ret, o_nx, i_seq, List.set_cons_zero, List.set_cons_succ, decide_eq_true_eq, Bool.not_eq_true', decide_eq_false_iff_not, evP, Bool.false_eq_true, if_true, if_false, ite_true, ite_false, reduceIte, Bool.not_true, Bool.not_false, Option.some.injEq, q_pow10, Int.reduceToNat, Int.reducePow, Int.reduceAdd, Int.reduceSub, Int.reduceMul, Int.reduceNeg, Int.reduceLT, Int.reduceLE, Nat.reducePow, Nat.reduceLT, Nat.reduceLeDiff, Nat.reduceAdd, List.length_cons, List.length_nil, Int.neg_neg, q_ixL g3, ti, ta]
        exact ⟨trivial, trivial, trivial⟩
      rintro _ _ ⟨rfl, rfl⟩
      have c1 := chg_bd ls i
      have c2 := chg_bd ls a
      refine ite_M ?_
      simp only [ev, M_bind, M_map, M_some, M_ite, t_eq, a_tup, al_eq, List.getElem?_cons_zero, List.getElem?_cons_succ, Option.bind_some, Option.map_some, q_add, q_sub, q_lt, q_le, q_gt, q_ge, q_eqI, q_neI, q_eqB, q_neB, q_isN, q_notN, isNon, q_ixT, q_ixR, atI_0, atI_1, atI_2, atI_3, atI_4, atI_5, atI_6, atI_7, q_slT, q_slR, q_revT, q_seqT, q_int, q_intB, q_max, q_min, q_abs, q_tupT, n_tup, n_int, n_bl, n_non, n_str, isi_ii, isi_ib, isi_tt, isi_itl, isi_btl, isi_ttl, isi_tl, isi_bb, u_bl, u_int, u_non, u_tup, g_name, g_tup, g_nil, g_cons, o_ret, o_nx, i_seq, List.set_cons_zero, List.set_cons_succ, decide_eq_true_eq, Bool.not_eq_true', decide_eq_false_iff_not, evP, Bool.false_eq_true, if_true, if_false, ite_true, ite_false, reduceIte, Bool.not_true, Bool.not_false, Option.some.injEq, q_pow10, Int.reduceToNat, Int.reducePow, Int.reduceAdd, Int.reduceSub, Int.reduceMul, Int.reduceNeg, Int.reduceLT, Int.reduceLE, Nat.reducePow, Nat.reduceLT, Nat.reduceLeDiff, Nat.reduceAdd, List.length_cons, List.length_nil, Int.neg_neg, ez, q_mul (i := chg ls i - chg ls a - 1) (j := sp) (by omega) (by omega) (by omega) (by omega), el _ (0 + (i : Int)) (by omega) (by omega), el _ (a : Int) (by omega) (by omega), ei, Int.toNat_natCast]
      by_cases cw : Cw sp ls a i
      · have cw' := cw_iff.mp cw
        simp only [show ((atL ls i).1 - (atL ls a).1 - 1 < (chg ls i - chg ls a - 1) * sp) = True from eq_true cw', decide_true, if_true]
        simp only [ex, ev, M_bind, M_map, M_some, M_ite, t_eq, a_tup, al_eq, List.getElem?_cons_zero, List.getElem?_cons_succ, Option.bind_some, Option.map_some, q_add, q_sub, q_lt, q_le, q_gt, q_ge, q_eqI, q_neI, q_eqB, q_neB, q_isN, q_notN, isNon, q_ixT, q_ixR, atI_0, atI_1, atI_2, atI_3, atI_4, atI_5, atI_6, atI_7, q_slT, q_slR, q_revT, q_seqT, q_int, q_intB, q_max, q_min, q_abs, q_tupT, n_tup, n_int, n_bl, n_non, n_str, isi_ii, isi_ib, isi_tt, isi_itl, isi_btl, isi_ttl, isi_tl, isi_bb, u_bl, u_int, u_non, u_tup, g_name, g_tup, g_nil, g_cons, o_ret, o_nx, i_seq, List.set_cons_zero, List.set_cons_succ, decide_eq_true_eq, Bool.not_eq_true', decide_eq_false_iff_not, evP, Bool.false_eq_true, if_true, if_false, ite_true, ite_false, reduceIte, Bool.not_true, Bool.not_false, Option.some.injEq, q_pow10, Int.reduceToNat, Int.reducePow, Int.reduceAdd, Int.reduceSub, Int.reduceMul, Int.reduceNeg, Int.reduceLT, Int.reduceLE, Nat.reducePow, Nat.reduceLT, Nat.reduceLeDiff, Nat.reduceAdd, List.length_cons, List.length_nil, Int.neg_neg, show (2 : Nat) ≤ most by decide]
        rw [show D.tup [.int (a : Int), .int (0 + (i : Int))] = toldD (some (a, i)) by rw [Int.zero_add]; rfl]
        exact hq (some (a, i)) S3 ⟨hai, im, cw, fun a' h1 h2 => noj a' h2 (by omega), fun b' a' h1 h2 => no b' a' h2 h1⟩ (l1.trans l3)
      · have cw' : ((atL ls i).1 - (atL ls a).1 - 1 < (chg ls i - chg ls a - 1) * sp) = False := eq_false fun z => cw (cw_iff.mpr z)
        simp only [cw', decide_false, Bool.false_eq_true, if_false]
        simp only [ex, ev, M_bind, M_map, M_some, M_ite, t_eq, a_tup, al_eq, List.getElem?_cons_zero, List.getElem?_cons_succ, Option.bind_some, Option.map_some, q_add, q_sub, q_lt, q_le, q_gt, q_ge, q_eqI, q_neI, q_eqB, q_neB, q_isN, q_notN, isNon, q_ixT, q_ixR, atI_0, atI_1, atI_2, atI_3, atI_4, atI_5, atI_6, atI_7, q_slT, q_slR, q_revT, q_seqT, q_int, q_intB, q_max, q_min, q_abs, q_tupT, n_tup, n_int, n_bl, n_non, n_str, isi_ii, isi_ib, isi_tt, isi_itl, isi_btl, isi_ttl, isi_tl, isi_bb, u_bl, u_int, u_non, u_tup, g_name, g_tup, g_nil, g_cons, o_ret, o_nx, i_seq, List.set_cons_zero, List.set_cons_succ, decide_eq_true_eq, Bool.not_eq_true', decide_eq_false_iff_not, evP, Bool.false_eq_true, if_true, if_false, ite_true, ite_false, reduceIte, Bool.not_true, Bool.not_false, Option.some.injEq, q_pow10, Int.reduceToNat, Int.reducePow, Int.reduceAdd, Int.reduceSub, Int.reduceMul, Int.reduceNeg, Int.reduceLT, Int.reduceLE, Nat.reducePow, Nat.reduceLT, Nat.reduceLeDiff, Nat.reduceAdd, List.length_cons, List.length_nil, Int.neg_neg]
        have st3 := st2 S3
        rw [ei] at st3
        refine ⟨st3, _, _, _, rfl, l3, fun a' h1 h2 z => ?_⟩
        rcases Nat.lt_or_ge a' (i - j) with q | q
        · have : a' = a := by omega
          subst this
          exact cw z
        · exact noj a' h1 (by omega) z
    · rintro env S3 ⟨v5, v6, v7, rfl, l3, noj⟩
      refine ⟨st1 _, _, _, _, _, rfl, l3, fun b a' hab hb => ?_⟩
      rcases Nat.lt_or_ge b i with q | q
      · exact no b a' hab q
      · have e : b = i := by omega
        subst e
        exact noj a' hab (by simp <;> omega)
  · rintro env S2 ⟨v4, v5, v6, v7, rfl, l2, no⟩
    simp only [ex, ev, M_bind, M_map, M_some, M_ite, t_eq, a_tup, al_eq, List.getElem?_cons_zero, List.getElem?_cons_succ, Option.bind_some, Option.map_some, q_add, q_sub, q_lt, q_le, q_gt, q_ge, q_eqI, q_neI, q_eqB, q_neB, q_isN, q_notN, isNon, q_ixT, q_ixR, atI_0, atI_1, atI_2, atI_3, atI_4, atI_5, atI_6, atI_7, q_slT, q_slR, q_revT, q_seqT, q_int, q_intB, q_max, q_min, q_abs, q_tupT, n_tup, n_int, n_bl, n_non, n_str, isi_ii, isi_ib, isi_tt, isi_itl, isi_btl, isi_ttl, isi_tl, isi_bb, u_bl, u_int, u_non, u_tup, g_name, g_tup, g_nil, g_cons, o_ret, o_nx, i_seq, List.set_cons_zero, List.set_cons_succ, decide_eq_true_eq, Bool.not_eq_true', decide_eq_false_iff_not, evP, Bool.false_eq_true, if_true, if_false, ite_true, ite_false, reduceIte, Bool.not_true, Bool.not_false, Option.some.injEq, q_pow10, Int.reduceToNat, Int.reducePow, Int.reduceAdd, Int.reduceSub, Int.reduceMul, Int.reduceNeg, Int.reduceLT, Int.reduceLE, Nat.reducePow, Nat.reduceLT, Nat.reduceLeDiff, Nat.reduceAdd, List.length_cons, List.length_nil, Int.neg_neg]
    refine hq none S2 (fun b a hab hb => no b a hab ?_) (l1.trans l2)
    simpa using hb
end Lw

namespace Lw
open PySem L2 Ix
theorem flat_rep {p : Nat} : ∀ n : Nat, (List.replicate n [D.ref p]).flatten = (List.replicate n p).map D.ref
  | 0 => rfl
  | n + 1 => by rw [List.replicate_succ, List.flatten_cons, flat_rep n]; rfl
theorem some_sights_ok {n p : Nat} {S : Hd} {os : List Int} {sp u : Int} (hS : Pot p S) (hz : Zone os sp) (u0 : 0 ≤ u) (u1 : u ≤ 800) :
    M (run T (n + 4) 41 [.ref p, zoneD os sp, .int u] S) fun r => ∃ ls S', r = (lookD ls, S') ∧ Looks os ls ∧ (ls.length : Int) ≤ u ∧ Pot p S' ∧ Le p S S' := by
  have hm := most_big
  refine run_M T_some_sights rfl ?_
  show M (ex (run T (n + 3)) b_some_sights [some (.ref p), some (zoneD os sp), some (.int u)] S) _
  unfold b_some_sights
  simp only [ex, ev, M_bind, M_map, M_some, M_ite, t_eq, a_tup, al_eq, List.getElem?_cons_zero, List.getElem?_cons_succ, Option.bind_some, Option.map_some, q_add, q_sub, q_lt, q_le, q_gt, q_ge, q_eqI, q_neI, q_eqB, q_neB, q_isN, q_notN, isNon, q_ixT, q_ixR, atI_0, atI_1, atI_2, atI_3, atI_4, atI_5, atI_6, atI_7, q_slT, q_slR, q_revT, q_seqT, q_int, q_intB, q_max, q_min, q_abs, q_tupT, n_tup, n_int, n_bl, n_non, n_str, isi_ii, isi_ib, isi_tt, isi_itl, isi_btl, isi_ttl, isi_tl, isi_bb, u_bl, u_int, u_non, u_tup, g_name, g_tup, g_nil, g_cons, o_ret, o_nx, i_seq, List.set_cons_zero, List.set_cons_succ, decide_eq_true_eq, Bool.not_eq_true', decide_eq_false_iff_not, evP, Bool.false_eq_true, if_true, if_false, ite_true, ite_false, reduceIte, Bool.not_true, Bool.not_false, Option.some.injEq, q_pow10, Int.reduceToNat, Int.reducePow, Int.reduceAdd, Int.reduceSub, Int.reduceMul, Int.reduceNeg, Int.reduceLT, Int.reduceLE, Nat.reducePow, Nat.reduceLT, Nat.reduceLeDiff, Nat.reduceAdd, List.length_cons, List.length_nil, Int.neg_neg, show (1 : Nat) ≤ most by decide]
  refine (draw_ok (hS.app _) (by omega) (by omega)).imp ?_
  rintro _ ⟨z, S1, rfl, z0, z1, p1, l1⟩
  have g1 := l1.at hS.ne (get_new (S := S) (o := O.lst [.ref p]))
  have em : binD .mul (.ref S.length) (.int z) S1 = some (alloc S1 ((List.replicate z.toNat p).map D.ref)) := by
    simp only [binD, g1]
    rw [if_pos ⟨by omega, by omega, by simp; omega⟩, flat_rep]
  simp only [ex, ev, M_bind, M_map, M_some, M_ite, t_eq, a_tup, al_eq, List.getElem?_cons_zero, List.getElem?_cons_succ, Option.bind_some, Option.map_some, q_add, q_sub, q_lt, q_le, q_gt, q_ge, q_eqI, q_neI, q_eqB, q_neB, q_isN, q_notN, isNon, q_ixT, q_ixR, atI_0, atI_1, atI_2, atI_3, atI_4, atI_5, atI_6, atI_7, q_slT, q_slR, q_revT, q_seqT, q_int, q_intB, q_max, q_min, q_abs, q_tupT, n_tup, n_int, n_bl, n_non, n_str, isi_ii, isi_ib, isi_tt, isi_itl, isi_btl, isi_ttl, isi_tl, isi_bb, u_bl, u_int, u_non, u_tup, g_name, g_tup, g_nil, g_cons, o_ret, o_nx, i_seq, List.set_cons_zero, List.set_cons_succ, decide_eq_true_eq, Bool.not_eq_true', decide_eq_false_iff_not, evP, Bool.false_eq_true, if_true, if_false, ite_true, ite_false, reduceIte, Bool.not_true, Bool.not_false, Option.some.injEq, q_pow10, Int.reduceToNat, Int.reducePow, Int.reduceAdd, Int.reduceSub, Int.reduceMul, Int.reduceNeg, Int.reduceLT, Int.reduceLE, Nat.reducePow, Nat.reduceLT, Nat.reduceLeDiff, Nat.reduceAdd, List.length_cons, List.length_nil, Int.neg_neg, em]
  have hP : PotS (· = p) (S1 ++ [O.lst ((List.replicate z.toNat p).map D.ref)]) := fun k hk => by rw [hk]; exact p1.app _
  refine (make_sights_ok (P := (· = p)) (p := p) hP rfl hz p1.ne get_new (fun q hq => List.eq_of_mem_replicate hq) (by simp; omega)).imp ?_
  rintro _ ⟨ls, S2, rfl, hk, hl, p2, l2⟩
  simp only [ex, ev, M_bind, M_map, M_some, M_ite, t_eq, a_tup, al_eq, List.getElem?_cons_zero, List.getElem?_cons_succ, Option.bind_some, Option.map_some, q_add, q_sub, q_lt, q_le, q_gt, q_ge, q_eqI, q_neI, q_eqB, q_neB, q_isN, q_notN, isNon, q_ixT, q_ixR, atI_0, atI_1, atI_2, atI_3, atI_4, atI_5, atI_6, atI_7, q_slT, q_slR, q_revT, q_seqT, q_int, q_intB, q_max, q_min, q_abs, q_tupT, n_tup, n_int, n_bl, n_non, n_str, isi_ii, isi_ib, isi_tt, isi_itl, isi_btl, isi_ttl, isi_tl, isi_bb, u_bl, u_int, u_non, u_tup, g_name, g_tup, g_nil, g_cons, o_ret, o_nx, i_seq, List.set_cons_zero, List.set_cons_succ, decide_eq_true_eq, Bool.not_eq_true', decide_eq_false_iff_not, evP, Bool.false_eq_true, if_true, if_false, ite_true, ite_false, reduceIte, Bool.not_true, Bool.not_false, Option.some.injEq, q_pow10, Int.reduceToNat, Int.reducePow, Int.reduceAdd, Int.reduceSub, Int.reduceMul, Int.reduceNeg, Int.reduceLT, Int.reduceLE, Nat.reducePow, Nat.reduceLT, Nat.reduceLeDiff, Nat.reduceAdd, List.length_cons, List.length_nil, Int.neg_neg]
  refine ⟨ls, S2, rfl, hk, ?_, p2 p rfl, fun k o nk e => ?_⟩
  · rw [hl]
    simp
    omega
  · exact l2 k o nk (Lq.app S1 _ _ _ (l1 k o nk (Lq.app S _ _ _ e)))
theorem sa_told {S : Hd} {c : Option (Nat × Nat)} : Sa 2 S (toldD c) (toldD c) := by
  cases c with
  | none => exact trivial
  | some c =>
    obtain ⟨a, b⟩ := c
    refine ⟨rfl, by simp, fun i x y h1 h2 => ?_⟩
    rw [h1] at h2
    cases h2
    match i, h1 with
    | 0, h1 => cases h1; rfl
    | 1, h1 => cases h1; rfl
    | i + 2, h1 => simp at h1
abbrev Pk := List Int × Int × List (Int × Int)
def pairL (x : Pk) : D := .tup [zoneD x.1 x.2.1, lookD x.2.2]
structure GoodL (x : Pk) : Prop where
  z : Zone x.1 x.2.1
  c : Looks x.1 x.2.2
  l : x.2.2.length ≤ 60
end Lw

namespace Lw
open PySem L2 Ix
/-! ### the early table -/
def hourE (sp : Int) (js : List (Int × Int)) (t : Int) : Int := match js.getLast? with
  | none => t + 1
  | some j => if j.1 + sp > t + 1 then j.1 + sp else t + 1
def eaJ (sp : Int) (ls : List (Int × Int)) : Nat → List (Int × Int)
  | 0 => []
  | k + 1 => if (atL ls (k + 1)).2 = (atL ls k).2 then eaJ sp ls k else eaJ sp ls k ++ [(hourE sp (eaJ sp ls k) (atL ls k).1, (atL ls (k + 1)).2)]
theorem eaJ_succ {sp : Int} {ls : List (Int × Int)} {k : Nat} : eaJ sp ls (k + 1) = if (atL ls (k + 1)).2 = (atL ls k).2 then eaJ sp ls k else eaJ sp ls k ++ [(hourE sp (eaJ sp ls k) (atL ls k).1, (atL ls (k + 1)).2)] := rfl
theorem eaJ_len {sp : Int} {ls : List (Int × Int)} : ∀ k, (eaJ sp ls k).length ≤ k
  | 0 => Nat.le_refl _
  | k + 1 => by
    have := eaJ_len (sp := sp) (ls := ls) k
    unfold eaJ
    split
    · omega
    · simp
      exact this
theorem eaJ_last {sp : Int} {ls : List (Int × Int)} : ∀ k, ((atL ls 0).2 :: (eaJ sp ls k).map (·.2)).getLast? = some (atL ls k).2
  | 0 => rfl
  | k + 1 => by
    have := eaJ_last (sp := sp) (ls := ls) k
    unfold eaJ
    split
    · rename_i h
      rw [h]
      exact this
    · rw [List.map_append, ← List.cons_append]
      exact List.getLast?_concat
theorem hourE_ge {sp t : Int} {js : List (Int × Int)} : t + 1 ≤ hourE sp js t ∧ ∀ j, js.getLast? = some j → j.1 + sp ≤ hourE sp js t := by
  unfold hourE
  cases h : js.getLast? with
  | none => exact ⟨Int.le_refl _, fun j e => by cases e⟩
  | some j =>
    refine ⟨?_, fun j' e => ?_⟩
    · show t + 1 ≤ if j.1 + sp > t + 1 then j.1 + sp else t + 1
      split <;> omega
    · cases e
      show j.1 + sp ≤ if j.1 + sp > t + 1 then j.1 + sp else t + 1
      split <;> omega
theorem eaJ_chart {os : List Int} {sp : Int} {ls : List (Int × Int)} (hk : Looks os ls) : ∀ k, k < ls.length → Chart os sp (atL ls 0).2 (eaJ sp ls k)
  | 0, h => ⟨hk.mem _ (List.mem_of_getElem? (atL_get h)), by simp [eaJ], Adj.nil, Adj.one⟩
  | k + 1, h => by
    have ih := eaJ_chart (sp := sp) hk k (by omega)
    have m := hk.mem _ (List.mem_of_getElem? (atL_get h))
    unfold eaJ
    split
    · exact ih
    · rename_i ne
      refine ⟨ih.first, fun j hj => ?_, ?_, ?_⟩
      · rcases List.mem_append.mp hj with q | q
        · exact ih.mem j q
        · rw [List.mem_singleton.mp q]; exact m
      · rw [List.map_append]
        refine ih.far.snoc fun x hx => ?_
        rw [List.getLast?_map] at hx
        cases hl : (eaJ sp ls k).getLast? with
        | none => rw [hl] at hx; cases hx
        | some j =>
          rw [hl] at hx
          cases hx
          exact hourE_ge.2 j hl
      · rw [List.map_append, ← List.cons_append]
        refine ih.alt.snoc fun x hx => ?_
        rw [eaJ_last] at hx
        cases hx
        exact fun e => ne e.symm
/-- the last jump is not behind the look, if nothing is crowded -/
theorem eaJ_hour {sp : Int} {ls : List (Int × Int)} : ∀ k (j : Int × Int), (eaJ sp ls k).getLast? = some j → ∃ a, a < k ∧ j.1 = (atL ls a).1 + 1 + (chg ls k - chg ls a - 1) * sp
  | 0, j, h => by simp [eaJ] at h
  | k + 1, j, h => by
    unfold eaJ at h
    split at h
    · rename_i e
      obtain ⟨a, ha, hj⟩ := eaJ_hour k j h
      refine ⟨a, by omega, ?_⟩
      rw [hj, chg, if_pos e, Int.add_zero]
    · rename_i ne
      rw [List.getLast?_concat] at h
      have hc : chg ls (k + 1) = chg ls k + 1 := by rw [chg, if_neg ne]
      have h1 : j.1 = hourE sp (eaJ sp ls k) (atL ls k).1 := by
        cases h
        rfl
      unfold hourE at h1
      cases hl : (eaJ sp ls k).getLast? with
      | none =>
        rw [hl] at h1
        refine ⟨k, by omega, ?_⟩
        rw [hc, show chg ls k + 1 - chg ls k - 1 = 0 by omega, Int.zero_mul, Int.add_zero]
        exact h1
      | some i =>
        rw [hl] at h1
        have h1 : j.1 = if i.1 + sp > (atL ls k).1 + 1 then i.1 + sp else (atL ls k).1 + 1 := h1
        split at h1
        · obtain ⟨a, ha, hj⟩ := eaJ_hour k i hl
          refine ⟨a, by omega, ?_⟩
          rw [h1, hj, hc, show chg ls k + 1 - chg ls a - 1 = (chg ls k - chg ls a - 1) + 1 by omega, Int.add_mul, Int.one_mul]
          omega
        · refine ⟨k, by omega, ?_⟩
          rw [hc, show chg ls k + 1 - chg ls k - 1 = 0 by omega, Int.zero_mul, Int.add_zero]
          exact h1
theorem heldF_app {off m : Int} {a b : List (Int × Int)} (h : ∀ j ∈ b, m < j.1) : heldF off (a ++ b) m = heldF off a m := by
  unfold heldF
  rw [List.foldl_append]
  generalize List.foldl (fun h j => if j.1 ≤ m then j.2 else h) off a = x
  induction b generalizing x with
  | nil => rfl
  | cons j b ih =>
    have := h j List.mem_cons_self
    rw [List.foldl_cons, if_neg (by omega)]
    exact ih (fun i hi => h i (List.mem_cons_of_mem _ hi)) x
theorem eaJ_ext {sp : Int} {ls : List (Int × Int)} (hk : Adj (fun x y => x < y) (ls.map (·.1))) {i : Nat} : ∀ d, i + d < ls.length → ∃ r, eaJ sp ls (i + d) = eaJ sp ls i ++ r ∧ ∀ j ∈ r, (atL ls i).1 < j.1
  | 0, _ => ⟨[], by simp, by simp⟩
  | d + 1, h => by
    obtain ⟨r, e, hr⟩ := eaJ_ext (sp := sp) hk (i := i) d (by omega)
    have up : ∀ e, i + e < ls.length → (atL ls i).1 ≤ (atL ls (i + e)).1 := by
      intro e
      induction e with
      | zero => intro _; exact Int.le_refl _
      | succ e ih =>
        intro he
        have := ih (by omega)
        have := hk (i + e) (atL ls (i + e)).1 (atL ls (i + e + 1)).1 (by rw [List.getElem?_map, atL_get (by omega)]; rfl) (by rw [List.getElem?_map, atL_get (by omega)]; rfl)
        rw [show i + (e + 1) = i + e + 1 by omega]
        omega
    rw [show i + (d + 1) = i + d + 1 by omega, eaJ_succ]
    split
    · exact ⟨r, e, hr⟩
    · refine ⟨r ++ [(hourE sp (eaJ sp ls (i + d)) (atL ls (i + d)).1, (atL ls (i + d + 1)).2)], by rw [← List.append_assoc, ← e], fun j hj => ?_⟩
      rcases List.mem_append.mp hj with q | q
      · exact hr j q
      · rw [List.mem_singleton.mp q]
        have := up d (by omega)
        have := (hourE_ge (sp := sp) (js := eaJ sp ls (i + d)) (t := (atL ls (i + d)).1)).1
        show (atL ls i).1 < hourE sp (eaJ sp ls (i + d)) (atL ls (i + d)).1
        omega
theorem eaJ_held {os : List Int} {sp : Int} {ls : List (Int × Int)} (hk : Looks os ls) (hc : Told sp ls none) {i : Nat} (hi : i < ls.length) : heldF (atL ls 0).2 (eaJ sp ls (ls.length - 1)) (atL ls i).1 = (atL ls i).2 := by
  obtain ⟨r, e, hr⟩ := eaJ_ext (sp := sp) hk.asc (i := i) (ls.length - 1 - i) (by omega)
  rw [show ls.length - 1 = i + (ls.length - 1 - i) by omega, e, heldF_app hr]
  have last := eaJ_last (sp := sp) (ls := ls) i
  cases hl : (eaJ sp ls i).getLast? with
  | none =>
    rw [List.getLast?_eq_none_iff] at hl
    rw [hl] at last ⊢
    have : (atL ls 0).2 = (atL ls i).2 := by simpa using last
    exact this
  | some j =>
    obtain ⟨a, ha, hj⟩ := eaJ_hour i j hl
    have nc := hc i a ha hi
    rw [cw_iff] at nc
    have hle : j.1 ≤ (atL ls i).1 := by omega
    obtain ⟨ys, hy⟩ := List.getLast?_eq_some_iff.mp hl
    rw [hy] at last ⊢
    unfold heldF
    rw [List.foldl_append, List.foldl_cons, List.foldl_nil, if_pos hle]
    rw [List.map_append, ← List.cons_append] at last
    have := (List.getLast?_concat (l := (atL ls 0).2 :: ys.map (·.2)) (a := j.2)).symm.trans last
    exact Option.some.inj this
end Lw

namespace Lw
open PySem L2 Ix
theorem atI_lastJ {js : List (Int × Int)} {j : Int × Int} (h : js.getLast? = some j) : atI (js.map jumpD) (-1) = some (.tup [.int j.1, .int j.2]) := by
  have e : (js.map jumpD).getLast? = some (jumpD j) := by rw [List.getLast?_map, h]; rfl
  have ne : js.map jumpD ≠ [] := fun z => by rw [z] at e; cases e
  rw [atI_last ne]
  rw [List.getLast?_eq_some_getLast ne] at e
  exact e
theorem zip_getJ {ls : List (Int × Int)} {i : Nat} {d : D} (h : (List.zipWith (fun a b => D.tup [a, b]) (ls.map jumpD) ((ls.map jumpD).drop 1))[i]? = some d) : i + 1 < ls.length ∧ d = .tup [.tup [.int (atL ls i).1, .int (atL ls i).2], .tup [.int (atL ls (i + 1)).1, .int (atL ls (i + 1)).2]] := by
  rw [List.getElem?_zipWith, List.getElem?_drop, List.getElem?_map, List.getElem?_map, show 1 + i = i + 1 by omega] at h
  by_cases hi : i + 1 < ls.length
  · rw [atL_get hi, atL_get (show i < ls.length by omega)] at h
    cases h
    exact ⟨hi, rfl⟩
  · rw [List.getElem?_eq_none (show ls.length ≤ i + 1 by omega)] at h
    cases hx : ls[i]? <;> rw [hx] at h <;> cases h
def offE (os : List Int) (ls : List (Int × Int)) : Int := if ls = [] then os.getD 0 0 else (atL ls 0).2
def jumpsE (sp : Int) (ls : List (Int × Int)) : List (Int × Int) := eaJ sp ls (ls.length - 1)
theorem offE_0 {os : List Int} (h : 1 ≤ os.length) : atI (os.map D.int) 0 = some (.int (os.getD 0 0)) ∧ os.getD 0 0 ∈ os := by
  cases os with
  | nil => simp at h
  | cons x xs => exact ⟨atI_0, List.mem_cons_self⟩
theorem early_is_chart {os : List Int} {sp : Int} {ls : List (Int × Int)} (hz : Zone os sp) (hk : Looks os ls) : Chart os sp (offE os ls) (jumpsE sp ls) := by
  unfold offE jumpsE
  by_cases h : ls = []
  · subst h
    rw [if_pos rfl]
    exact ⟨(offE_0 hz.len1).2, by simp [eaJ], Adj.nil, Adj.one⟩
  · rw [if_neg h]
    have : 0 < ls.length := List.length_pos_iff.mpr h
    exact eaJ_chart hk _ (by omega)
theorem earliest_table_ok {n : Nat} {S : Hd} {os : List Int} {sp : Int} {ls : List (Int × Int)} (hz : Zone os sp) (hl : ls.length ≤ 900) : Pu (run T (n + 1) 43 [zoneD os sp, lookD ls] S) (chartD (offE os ls) (jumpsE sp ls)) S := by
  have hm := most_big
  refine Pu.run T_earliest_table rfl ?_
  show M (ex (run T n) b_earliest_table [some (zoneD os sp), some (lookD ls), none, none, none, none, none, none] S) _
  unfold b_earliest_table
  refine seq_M (fun env S1 => S = S1 ∧ env = [some (zoneD os sp), some (lookD ls), some (.tup (os.map .int)), some (.int sp), none, none, none, none]) ?_ ?_
  · unfold zoneD
    simp only [ex, ev, M_bind, M_map, M_some, M_ite, t_eq, a_tup, al_eq, List.getElem?_cons_zero, List.getElem?_cons_succ, Option.bind_some, Option.map_some, q_add, q_sub, q_lt, q_le, q_gt, q_ge, q_eqI, q_neI, q_eqB, q_neB, q_isN, q_notN, isNon, q_ixT, q_ixR, atI_0, atI_1, atI_2, atI_3, atI_4, atI_5, atI_6, atI_7, q_slT, q_slR, q_revT, q_seqT, q_int, q_intB, q_max, q_min, q_abs, q_tupT, n_tup, n_int, n_bl, n_non, n_str, isi_ii, isi_ib, isi_tt, isi_itl, isi_btl, isi_ttl, isi_tl, isi_bb, u_bl, u_int, u_non, u_tup, g_name, g_tup, g_nil, g_cons, o_ret, o_nx, i_seq, List.set_cons_zero, List.set_cons_succ, decide_eq_true_eq, Bool.not_eq_true', decide_eq_false_iff_not, evP, Bool.false_eq_true, if_true, if_false, ite_true, ite_false, reduceIte, Bool.not_true, Bool.not_false, Option.some.injEq, q_pow10, Int.reduceToNat, Int.reducePow, Int.reduceAdd, Int.reduceSub, Int.reduceMul, Int.reduceNeg, Int.reduceLT, Int.reduceLE, Nat.reducePow, Nat.reduceLT, Nat.reduceLeDiff, Nat.reduceAdd, List.length_cons, List.length_nil, Int.neg_neg]
    exact ⟨trivial, trivial, trivial⟩
  rintro _ _ ⟨rfl, rfl⟩
  by_cases h : ls = []
  · subst h
    refine seq_Mx (ite_M ?_)
    have e : tru S (lookD []) = some false := rfl
    simp only [ev, M_bind, M_map, M_some, M_ite, t_eq, a_tup, al_eq, List.getElem?_cons_zero, List.getElem?_cons_succ, Option.bind_some, Option.map_some, q_add, q_sub, q_lt, q_le, q_gt, q_ge, q_eqI, q_neI, q_eqB, q_neB, q_isN, q_notN, isNon, q_ixT, q_ixR, atI_0, atI_1, atI_2, atI_3, atI_4, atI_5, atI_6, atI_7, q_slT, q_slR, q_revT, q_seqT, q_int, q_intB, q_max, q_min, q_abs, q_tupT, n_tup, n_int, n_bl, n_non, n_str, isi_ii, isi_ib, isi_tt, isi_itl, isi_btl, isi_ttl, isi_tl, isi_bb, u_bl, u_int, u_non, u_tup, g_name, g_tup, g_nil, g_cons, o_ret, o_nx, i_seq, List.set_cons_zero, List.set_cons_succ, decide_eq_true_eq, Bool.not_eq_true', decide_eq_false_iff_not, evP, Bool.false_eq_true, if_true, if_false, ite_true, ite_false, reduceIte, Bool.not_true, Bool.not_false, Option.some.injEq, q_pow10, Int.reduceToNat, Int.reducePow, Int.reduceAdd, Int.reduceSub, Int.reduceMul, Int.reduceNeg, Int.reduceLT, Int.reduceLE, Nat.reducePow, Nat.reduceLT, Nat.reduceLeDiff, Nat.reduceAdd, List.length_cons, List.length_nil, Int.neg_neg, e, (offE_0 hz.len1).1]
    simp only [ex, ev, M_bind, M_map, M_some, M_ite, t_eq, a_tup, al_eq, List.getElem?_cons_zero, List.getElem?_cons_succ, Option.bind_some, Option.map_some, q_add, q_sub, q_lt, q_le, q_gt, q_ge, q_eqI, q_neI, q_eqB, q_neB, q_isN, q_notN, isNon, q_ixT, q_ixR, atI_0, atI_1, atI_2, atI_3, atI_4, atI_5, atI_6, atI_7, q_slT, q_slR, q_revT, q_seqT, q_int, q_intB, q_max, q_min, q_abs, q_tupT, n_tup, n_int, n_bl, n_non, n_str, isi_ii, isi_ib, isi_tt, isi_itl, isi_btl, isi_ttl, isi_tl, isi_bb, u_bl, u_int, u_non, u_tup, g_name, g_tup, g_nil, g_cons, o_ret, o_nx, i_seq, List.set_cons_zero, List.set_cons_succ, decide_eq_true_eq, Bool.not_eq_true', decide_eq_false_iff_not, evP, Bool.false_eq_true, if_true, if_false, ite_true, ite_false, reduceIte, Bool.not_true, Bool.not_false, Option.some.injEq, q_pow10, Int.reduceToNat, Int.reducePow, Int.reduceAdd, Int.reduceSub, Int.reduceMul, Int.reduceNeg, Int.reduceLT, Int.reduceLE, Nat.reducePow, Nat.reduceLT, Nat.reduceLeDiff, Nat.reduceAdd, List.length_cons, List.length_nil, Int.neg_neg, (offE_0 hz.len1).1, show (2 : Nat) ≤ most by decide, show (0 : Nat) ≤ most by decide]
    exact ⟨rfl, Lq.refl _⟩
  have hp : 0 < ls.length := List.length_pos_iff.mpr h
  refine seq_M (fun env S1 => S = S1 ∧ env = [some (zoneD os sp), some (lookD ls), some (.tup (os.map .int)), some (.int sp), none, none, none, none]) ?_ ?_
  · refine ite_M ?_
    have e : tru S (lookD ls) = some true := by
      unfold lookD
      rw [u_tup]
      cases ls with
      | nil => exact absurd rfl h
      | cons l ls => rfl
    simp only [ev, M_bind, M_map, M_some, M_ite, t_eq, a_tup, al_eq, List.getElem?_cons_zero, List.getElem?_cons_succ, Option.bind_some, Option.map_some, q_add, q_sub, q_lt, q_le, q_gt, q_ge, q_eqI, q_neI, q_eqB, q_neB, q_isN, q_notN, isNon, q_ixT, q_ixR, atI_0, atI_1, atI_2, atI_3, atI_4, atI_5, atI_6, atI_7, q_slT, q_slR, q_revT, q_seqT, q_int, q_intB, q_max, q_min, q_abs, q_tupT, n_tup, n_int, n_bl, n_non, n_str, isi_ii, isi_ib, isi_tt, isi_itl, isi_btl, isi_ttl, isi_tl, isi_bb, u_bl, u_int, u_non, u_tup, g_name, g_tup, g_nil, g_cons, o_ret, o_nx, i_seq, List.set_cons_zero, List.set_cons_succ, decide_eq_true_eq, Bool.not_eq_true', decide_eq_false_iff_not, evP, Bool.false_eq_true, if_true, if_false, ite_true, ite_false, reduceIte, Bool.not_true, Bool.not_false, Option.some.injEq, q_pow10, Int.reduceToNat, Int.reducePow, Int.reduceAdd, Int.reduceSub, Int.reduceMul, Int.reduceNeg, Int.reduceLT, Int.reduceLE, Nat.reducePow, Nat.reduceLT, Nat.reduceLeDiff, Nat.reduceAdd, List.length_cons, List.length_nil, Int.neg_neg, e]
    simp only [ex, ev, M_bind, M_map, M_some, M_ite, t_eq, a_tup, al_eq, List.getElem?_cons_zero, List.getElem?_cons_succ, Option.bind_some, Option.map_some, q_add, q_sub, q_lt, q_le, q_gt, q_ge, q_eqI, q_neI, q_eqB, q_neB, q_isN, q_notN, isNon, q_ixT, q_ixR, atI_0, atI_1, atI_2, atI_3, atI_4, atI_5, atI_6, atI_7, q_slT, q_slR, q_revT, q_seqT, q_int, q_intB, q_max, q_min, q_abs, q_tupT, n_tup, n_int, n_bl, n_non, n_str, isi_ii, isi_ib, isi_tt, isi_itl, isi_btl, isi_ttl, isi_tl, isi_bb, u_bl, u_int, u_non, u_tup, g_name, g_tup, g_nil, g_cons, o_ret, o_nx, i_seq, List.set_cons_zero, List.set_cons_succ, decide_eq_true_eq, Bool.not_eq_true', decide_eq_false_iff_not, evP, Bool.false_eq_true, if_true, if_false, ite_true, ite_false, reduceIte, Bool.not_true, Bool.not_false, Option.some.injEq, q_pow10, Int.reduceToNat, Int.reducePow, Int.reduceAdd, Int.reduceSub, Int.reduceMul, Int.reduceNeg, Int.reduceLT, Int.reduceLE, Nat.reducePow, Nat.reduceLT, Nat.reduceLeDiff, Nat.reduceAdd, List.length_cons, List.length_nil, Int.neg_neg]
    exact ⟨trivial, trivial, trivial⟩
  rintro _ _ ⟨rfl, rfl⟩
  refine seq_M (fun env S1 => S1 = S ++ [.lst []] ∧ env = [some (zoneD os sp), some (lookD ls), some (.tup (os.map .int)), some (.int sp), some (.ref S.length), none, none, none]) ?_ ?_
  · simp only [ex, ev, M_bind, M_map, M_some, M_ite, t_eq, a_tup, al_eq, List.getElem?_cons_zero, List.getElem?_cons_succ, Option.bind_some, Option.map_some, q_add, q_sub, q_lt, q_le, q_gt, q_ge, q_eqI, q_neI, q_eqB, q_neB, q_isN, q_notN, isNon, q_ixT, q_ixR, atI_0, atI_1, atI_2, atI_3, atI_4, atI_5, atI_6, atI_7, q_slT, q_slR, q_revT, q_seqT, q_int, q_intB, q_max, q_min, q_abs, q_tupT, n_tup, n_int, n_bl, n_non, n_str, isi_ii, isi_ib, isi_tt, isi_itl, isi_btl, isi_ttl, isi_tl, isi_bb, u_bl, u_int, u_non, u_tup, g_name, g_tup, g_nil, g_cons, o_ret, o_nx, i_seq, List.set_cons_zero, List.set_cons_succ, decide_eq_true_eq, Bool.not_eq_true', decide_eq_false_iff_not, evP, Bool.false_eq_true, if_true, if_false, ite_true, ite_false, reduceIte, Bool.not_true, Bool.not_false, Option.some.injEq, q_pow10, Int.reduceToNat, Int.reducePow, Int.reduceAdd, Int.reduceSub, Int.reduceMul, Int.reduceNeg, Int.reduceLT, Int.reduceLE, Nat.reducePow, Nat.reduceLT, Nat.reduceLeDiff, Nat.reduceAdd, List.length_cons, List.length_nil, Int.neg_neg, show (0 : Nat) ≤ most by decide]
    exact ⟨trivial, trivial, trivial⟩
  rintro _ _ ⟨rfl, rfl⟩
  refine seq_M (fun env S1 => ∃ v5 v6 v7 : Option D, S1[S.length]? = some (.lst ((jumpsE sp ls).map jumpD)) ∧ Lq S S1 ∧ env = [some (zoneD os sp), some (lookD ls), some (.tup (os.map .int)), some (.int sp), some (.ref S.length), v5, v6, v7]) ?_ ?_
  · refine for_M ?_
    have sl : ∀ S2, slD (lookD ls) (some 1) none S2 = some (.tup ((ls.map jumpD).drop 1), S2) := fun S2 => by
      unfold lookD
      rw [q_slT, cut_1]
    simp only [ev, M_bind, M_map, M_some, M_ite, t_eq, a_tup, al_eq, List.getElem?_cons_zero, List.getElem?_cons_succ, Option.bind_some, Option.map_some, q_add, q_sub, q_lt, q_le, q_gt, q_ge, q_eqI, q_neI, q_eqB, q_neB, q_isN, q_notN, isNon, q_ixT, q_ixR, atI_0, atI_1, atI_2, atI_3, atI_4, atI_5, atI_6, atI_7, q_slT, q_slR, q_revT, q_seqT, q_int, q_intB, q_max, q_min, q_abs, q_tupT, n_tup, n_int, n_bl, n_non, n_str, isi_ii, isi_ib, isi_tt, isi_itl, isi_btl, isi_ttl, isi_tl, isi_bb, u_bl, u_int, u_non, u_tup, g_name, g_tup, g_nil, g_cons, o_ret, o_nx, i_seq, List.set_cons_zero, List.set_cons_succ, decide_eq_true_eq, Bool.not_eq_true', decide_eq_false_iff_not, evP, Bool.false_eq_true, if_true, if_false, ite_true, ite_false, reduceIte, Bool.not_true, Bool.not_false, Option.some.injEq, q_pow10, Int.reduceToNat, Int.reducePow, Int.reduceAdd, Int.reduceSub, Int.reduceMul, Int.reduceNeg, Int.reduceLT, Int.reduceLE, Nat.reducePow, Nat.reduceLT, Nat.reduceLeDiff, Nat.reduceAdd, List.length_cons, List.length_nil, Int.neg_neg, sl]
    refine ⟨_, List.zipWith (fun a b => D.tup [a, b]) (ls.map jumpD) ((ls.map jumpD).drop 1), rfl, rfl, ?_⟩
    refine M_loopS (m := 0) (fun i env S1 => ∃ v5 v6 v7 : Option D, S1[S.length]? = some (.lst ((eaJ sp ls i).map jumpD)) ∧ Lq S S1 ∧ env = [some (zoneD os sp), some (lookD ls), some (.tup (os.map .int)), some (.int sp), some (.ref S.length), v5, v6, v7]) ⟨none, none, none, get_new, Lq.app _ _, rfl⟩ ?_ ?_
    · rintro i d env S1 hi ⟨v5, v6, v7, g, l, rfl⟩
      obtain ⟨il, rfl⟩ := zip_getJ hi
      simp only [Nat.zero_add] at g ⊢
      simp only [asgG, Option.bind_some, List.set_cons_succ, List.set_cons_zero]
      rw [eaJ_succ]
      refine seq_Mx (ite_M ?_)
      simp only [ev, M_bind, M_map, M_some, M_ite, t_eq, a_tup, al_eq, List.getElem?_cons_zero, List.getElem?_cons_succ, Option.bind_some, Option.map_some, q_add, q_sub, q_lt, q_le, q_gt, q_ge, q_eqI, q_neI, q_eqB, q_neB, q_isN, q_notN, isNon, q_ixT, q_ixR, atI_0, atI_1, atI_2, atI_3, atI_4, atI_5, atI_6, atI_7, q_slT, q_slR, q_revT, q_seqT, q_int, q_intB, q_max, q_min, q_abs, q_tupT, n_tup, n_int, n_bl, n_non, n_str, isi_ii, isi_ib, isi_tt, isi_itl, isi_btl, isi_ttl, isi_tl, isi_bb, u_bl, u_int, u_non, u_tup, g_name, g_tup, g_nil, g_cons, o_ret, o_nx, i_seq, List.set_cons_zero, List.set_cons_succ, decide_eq_true_eq, Bool.not_eq_true', decide_eq_false_iff_not, evP, Bool.false_eq_true, if_true, if_false, ite_true, ite_false, reduceIte, Bool.not_true, Bool.not_false, Option.some.injEq, q_pow10, Int.reduceToNat, Int.reducePow, Int.reduceAdd, Int.reduceSub, Int.reduceMul, Int.reduceNeg, Int.reduceLT, Int.reduceLE, Nat.reducePow, Nat.reduceLT, Nat.reduceLeDiff, Nat.reduceAdd, List.length_cons, List.length_nil, Int.neg_neg]
      by_cases c : (atL ls i).2 = (atL ls (i + 1)).2
      · simp only [c, decide_true, if_true]
        simp only [ex, ev, M_bind, M_map, M_some, M_ite, t_eq, a_tup, al_eq, List.getElem?_cons_zero, List.getElem?_cons_succ, Option.bind_some, Option.map_some, q_add, q_sub, q_lt, q_le, q_gt, q_ge, q_eqI, q_neI, q_eqB, q_neB, q_isN, q_notN, isNon, q_ixT, q_ixR, atI_0, atI_1, atI_2, atI_3, atI_4, atI_5, atI_6, atI_7, q_slT, q_slR, q_revT, q_seqT, q_int, q_intB, q_max, q_min, q_abs, q_tupT, n_tup, n_int, n_bl, n_non, n_str, isi_ii, isi_ib, isi_tt, isi_itl, isi_btl, isi_ttl, isi_tl, isi_bb, u_bl, u_int, u_non, u_tup, g_name, g_tup, g_nil, g_cons, o_ret, o_nx, i_seq, List.set_cons_zero, List.set_cons_succ, decide_eq_true_eq, Bool.not_eq_true', decide_eq_false_iff_not, evP, Bool.false_eq_true, if_true, if_false, ite_true, ite_false, reduceIte, Bool.not_true, Bool.not_false, Option.some.injEq, q_pow10, Int.reduceToNat, Int.reducePow, Int.reduceAdd, Int.reduceSub, Int.reduceMul, Int.reduceNeg, Int.reduceLT, Int.reduceLE, Nat.reducePow, Nat.reduceLT, Nat.reduceLeDiff, Nat.reduceAdd, List.length_cons, List.length_nil, Int.neg_neg]
        exact ⟨rfl, _, _, _, g, l, rfl⟩
      · simp only [c, decide_false, Bool.false_eq_true, if_false]
        rw [if_neg (fun e => c e.symm)]
        rw [show ∀ env, ex (run T n) .skip env S1 = some (.nx, env, S1) from fun _ => rfl]
        simp only [M_some]
        have he := eaJ_len (sp := sp) (ls := ls) i
        generalize hjs : eaJ sp ls i = js at g he ⊢
        refine seq_M (fun env S2 => S1 = S2 ∧ env = [some (zoneD os sp), some (lookD ls), some (.tup (os.map .int)), some (.int sp), some (.ref S.length), some (.tup [.int (atL ls i).1, .int (atL ls i).2]), some (.tup [.int (atL ls (i + 1)).1, .int (atL ls (i + 1)).2]), some (.int ((atL ls i).1 + 1))]) ?_ ?_
        · simp only [ex, ev, M_bind, M_map, M_some, M_ite, t_eq, a_tup, al_eq, List.getElem?_cons_zero, List.getElem?_cons_succ, Option.bind_some, Option.map_some, q_add, q_sub, q_lt, q_le, q_gt, q_ge, q_eqI, q_neI, q_eqB, q_neB, q_isN, q_notN, isNon, q_ixT, q_ixR, atI_0, atI_1, atI_2, atI_3, atI_4, atI_5, atI_6, atI_7, q_slT, q_slR, q_revT, q_seqT, q_int, q_intB, q_max, q_min, q_abs, q_tupT, n_tup, n_int, n_bl, n_non, n_str, isi_ii, isi_ib, isi_tt, isi_itl, isi_btl, isi_ttl, isi_tl, isi_bb, u_bl, u_int, u_non, u_tup, g_name, g_tup, g_nil, g_cons, o_ret, o_nx, i_seq, List.set_cons_zero, List.set_cons_succ, decide_eq_true_eq, Bool.not_eq_true', decide_eq_false_iff_not, evP, Bool.false_eq_true, if_true, if_false, ite_true, ite_false, reduceIte, Bool.not_true, Bool.not_false, Option.some.injEq, q_pow10, Int.reduceToNat, Int.reducePow, Int.reduceAdd, Int.reduceSub, Int.reduceMul, Int.reduceNeg, Int.reduceLT, Int.reduceLE, Nat.reducePow, Nat.reduceLT, Nat.reduceLeDiff, Nat.reduceAdd, List.length_cons, List.length_nil, Int.neg_neg]
          exact ⟨trivial, trivial, trivial⟩
        rintro _ _ ⟨rfl, rfl⟩
        refine seq_M (fun env S2 => S1 = S2 ∧ env = [some (zoneD os sp), some (lookD ls), some (.tup (os.map .int)), some (.int sp), some (.ref S.length), some (.tup [.int (atL ls i).1, .int (atL ls i).2]), some (.tup [.int (atL ls (i + 1)).1, .int (atL ls (i + 1)).2]), some (.int (hourE sp js (atL ls i).1))]) ?_ ?_
        · refine ite_M ?_
          simp only [ev, M_bind, M_map, M_some, M_ite, t_eq, a_tup, al_eq, List.getElem?_cons_zero, List.getElem?_cons_succ, Option.bind_some, Option.map_some, q_add, q_sub, q_lt, q_le, q_gt, q_ge, q_eqI, q_neI, q_eqB, q_neB, q_isN, q_notN, isNon, q_ixT, q_ixR, atI_0, atI_1, atI_2, atI_3, atI_4, atI_5, atI_6, atI_7, q_slT, q_slR, q_revT, q_seqT, q_int, q_intB, q_max, q_min, q_abs, q_tupT, n_tup, n_int, n_bl, n_non, n_str, isi_ii, isi_ib, isi_tt, isi_itl, isi_btl, isi_ttl, isi_tl, isi_bb, u_bl, u_int, u_non, u_tup, g_name, g_tup, g_nil, g_cons, o_ret, o_nx, i_seq, List.set_cons_zero, List.set_cons_succ, decide_eq_true_eq, Bool.not_eq_true', decide_eq_false_iff_not, evP, Bool.false_eq_true, if_true, if_false, ite_true, ite_false, reduceIte, Bool.not_true, Bool.not_false, Option.some.injEq, q_pow10, Int.reduceToNat, Int.reducePow, Int.reduceAdd, Int.reduceSub, Int.reduceMul, Int.reduceNeg, Int.reduceLT, Int.reduceLE, Nat.reducePow, Nat.reduceLT, Nat.reduceLeDiff, Nat.reduceAdd, List.length_cons, List.length_nil, Int.neg_neg, u_ref g]
          cases hj : js.getLast? with
          | none =>
            rw [List.getLast?_eq_none_iff] at hj
            subst hj
            simp only [List.map_nil, List.isEmpty_nil, Bool.not_true, Bool.false_eq_true, if_false]
            simp only [ex, ev, M_bind, M_map, M_some, M_ite, t_eq, a_tup, al_eq, List.getElem?_cons_zero, List.getElem?_cons_succ, Option.bind_some, Option.map_some, q_add, q_sub, q_lt, q_le, q_gt, q_ge, q_eqI, q_neI, q_eqB, q_neB, q_isN, q_notN, isNon, q_ixT, q_ixR, atI_0, atI_1, atI_2, atI_3, atI_4, atI_5, atI_6, atI_7, q_slT, q_slR, q_revT, q_seqT, q_int, q_intB, q_max, q_min, q_abs, q_tupT, n_tup, n_int, n_bl, n_non, n_str, isi_ii, isi_ib, isi_tt, isi_itl, isi_btl, isi_ttl, isi_tl, isi_bb, u_bl, u_int, u_non, u_tup, g_name, g_tup, g_nil, g_cons, o_ret, o_nx, i_seq, List.set_cons_zero, List.set_cons_succ, decide_eq_true_eq, Bool.not_eq_true', decide_eq_false_iff_not, evP, Bool.false_eq_true, if_true, if_false, ite_true, ite_false, reduceIte, Bool.not_true, Bool.not_false, Option.some.injEq, q_pow10, Int.reduceToNat, Int.reducePow, Int.reduceAdd, Int.reduceSub, Int.reduceMul, Int.reduceNeg, Int.reduceLT, Int.reduceLE, Nat.reducePow, Nat.reduceLT, Nat.reduceLeDiff, Nat.reduceAdd, List.length_cons, List.length_nil, Int.neg_neg]
            exact ⟨trivial, trivial, rfl⟩
          | some j =>
            have ne : (js.map jumpD).isEmpty = false := by
              cases js with
              | nil => cases hj
              | cons a b => rfl
            simp only [ne, Bool.not_false, if_true]
            simp only [ex, ev, M_bind, M_map, M_some, M_ite, t_eq, a_tup, al_eq, List.getElem?_cons_zero, List.getElem?_cons_succ, Option.bind_some, Option.map_some, q_add, q_sub, q_lt, q_le, q_gt, q_ge, q_eqI, q_neI, q_eqB, q_neB, q_isN, q_notN, isNon, q_ixT, q_ixR, atI_0, atI_1, atI_2, atI_3, atI_4, atI_5, atI_6, atI_7, q_slT, q_slR, q_revT, q_seqT, q_int, q_intB, q_max, q_min, q_abs, q_tupT, n_tup, n_int, n_bl, n_non, n_str, isi_ii, isi_ib, isi_tt, isi_itl, isi_btl, isi_ttl, isi_tl, isi_bb, u_bl, u_int, u_non, u_tup, g_name, g_tup, g_nil, g_cons, o_ret, o_nx, i_seq, List.set_cons_zero, List.set_cons_succ, decide_eq_true_eq, Bool.not_eq_true', decide_eq_false_iff_not, evP, Bool.false_eq_true, if_true, if_false, ite_true, ite_false, reduceIte, Bool.not_true, Bool.not_false, Option.some.injEq, q_pow10, Int.reduceToNat, Int.reducePow, Int.reduceAdd, Int.reduceSub, Int.reduceMul, Int.reduceNeg, Int.reduceLT, Int.reduceLE, Nat.reducePow, Nat.reduceLT, Nat.reduceLeDiff, Nat.reduceAdd, List.length_cons, List.length_nil, Int.neg_neg, q_ixL g, atI_lastJ hj]
            refine ⟨trivial, trivial, ?_⟩
            unfold hourE
            rw [hj]
        rintro _ _ ⟨rfl, rfl⟩
        simp only [ex, ev, M_bind, M_map, M_some, M_ite, t_eq, a_tup, al_eq, List.getElem?_cons_zero, List.getElem?_cons_succ, Option.bind_some, Option.map_some, q_add, q_sub, q_lt, q_le, q_gt, q_ge, q_eqI, q_neI, q_eqB, q_neB, q_isN, q_notN, isNon, q_ixT, q_ixR, atI_0, atI_1, atI_2, atI_3, atI_4, atI_5, atI_6, atI_7, q_slT, q_slR, q_revT, q_seqT, q_int, q_intB, q_max, q_min, q_abs, q_tupT, n_tup, n_int, n_bl, n_non, n_str, isi_ii, isi_ib, isi_tt, isi_itl, isi_btl, isi_ttl, isi_tl, isi_bb, u_bl, u_int, u_non, u_tup, g_name, g_tup, g_nil, g_cons, o_ret, o_nx, i_seq, List.set_cons_zero, List.set_cons_succ, decide_eq_true_eq, Bool.not_eq_true', decide_eq_false_iff_not, evP, Bool.false_eq_true, if_true, if_false, ite_true, ite_false, reduceIte, Bool.not_true, Bool.not_false, Option.some.injEq, q_pow10, Int.reduceToNat, Int.reducePow, Int.reduceAdd, Int.reduceSub, Int.reduceMul, Int.reduceNeg, Int.reduceLT, Int.reduceLE, Nat.reducePow, Nat.reduceLT, Nat.reduceLeDiff, Nat.reduceAdd, List.length_cons, List.length_nil, Int.neg_neg, q_isL g, show (2 : Nat) ≤ most by decide]
        rw [q_app g (by rw [List.length_map]; omega)]
        simp only [M_some]
        refine ⟨rfl, _, _, _, ?_, Lq.set l (Nat.le_refl _), rfl⟩
        rw [List.getElem?_set_self (lt_of_get g), List.map_append]
        rfl
    · rintro env S1 ⟨v5, v6, v7, g, l, rfl⟩
      refine ⟨rfl, _, _, _, ?_, l, rfl⟩
      rw [g]
      unfold jumpsE
      congr 4
      simp
  rintro _ S1 ⟨v5, v6, v7, g, l, rfl⟩
  have e0 : ixD (lookD ls) (.int 0) S1 = some (.tup [.int (atL ls 0).1, .int (atL ls 0).2], S1) := by
    unfold lookD
    rw [q_ixT, atI_look (by omega) (by omega)]
    rfl
  simp only [ex, ev, M_bind, M_map, M_some, M_ite, t_eq, a_tup, al_eq, List.getElem?_cons_zero, List.getElem?_cons_succ, Option.bind_some, Option.map_some, q_add, q_sub, q_lt, q_le, q_gt, q_ge, q_eqI, q_neI, q_eqB, q_neB, q_isN, q_notN, isNon, q_ixT, q_ixR, atI_0, atI_1, atI_2, atI_3, atI_4, atI_5, atI_6, atI_7, q_slT, q_slR, q_revT, q_seqT, q_int, q_intB, q_max, q_min, q_abs, q_tupT, n_tup, n_int, n_bl, n_non, n_str, isi_ii, isi_ib, isi_tt, isi_itl, isi_btl, isi_ttl, isi_tl, isi_bb, u_bl, u_int, u_non, u_tup, g_name, g_tup, g_nil, g_cons, o_ret, o_nx, i_seq, List.set_cons_zero, List.set_cons_succ, decide_eq_true_eq, Bool.not_eq_true', decide_eq_false_iff_not, evP, Bool.false_eq_true, if_true, if_false, ite_true, ite_false, reduceIte, Bool.not_true, Bool.not_false, Option.some.injEq, q_pow10, Int.reduceToNat, Int.reducePow, Int.reduceAdd, Int.reduceSub, Int.reduceMul, Int.reduceNeg, Int.reduceLT, Int.reduceLE, Nat.reducePow, Nat.reduceLT, Nat.reduceLeDiff, Nat.reduceAdd, List.length_cons, List.length_nil, Int.neg_neg, e0, q_tupL g, show (2 : Nat) ≤ most by decide]
  refine ⟨?_, l⟩
  unfold chartD offE
  rw [if_neg h]
theorem early_table_ok {n : Nat} {S : Hd} {os : List Int} {sp : Int} {ls : List (Int × Int)} {co : Option (Nat × Nat)} (hz : Zone os sp) (hk : Looks os ls) (hl : ls.length ≤ 900) (hc : Told sp ls co) : Pu (run T (n + 7) 44 [zoneD os sp, lookD ls] S) (if co.isNone then chartD (offE os ls) (jumpsE sp ls) else .non) S := by
  refine Pu.run T_early_table rfl ?_
  show M (ex (run T (n + 6)) b_early_table [some (zoneD os sp), some (lookD ls)] S) _
  unfold b_early_table
  have e : ∀ S2, ixD (zoneD os sp) (.int 1) S2 = some (.int sp, S2) := fun _ => rfl
  refine seq_M (fun env S1 => env = [some (zoneD os sp), some (lookD ls)] ∧ Lq S S1) ?_ ?_
  · simp only [ex, ev, M_bind, M_map, M_some, M_ite, t_eq, a_tup, al_eq, List.getElem?_cons_zero, List.getElem?_cons_succ, Option.bind_some, Option.map_some, q_add, q_sub, q_lt, q_le, q_gt, q_ge, q_eqI, q_neI, q_eqB, q_neB, q_isN, q_notN, isNon, q_ixT, q_ixR, atI_0, atI_1, atI_2, atI_3, atI_4, atI_5, atI_6, atI_7, q_slT, q_slR, q_revT, q_seqT, q_int, q_intB, q_max, q_min, q_abs, q_tupT, n_tup, n_int, n_bl, n_non, n_str, isi_ii, isi_ib, isi_tt, isi_itl, isi_btl, isi_ttl, isi_tl, isi_bb, u_bl, u_int, u_non, u_tup, g_name, g_tup, g_nil, g_cons, o_ret, o_nx, i_seq, List.set_cons_zero, List.set_cons_succ, decide_eq_true_eq, Bool.not_eq_true', decide_eq_false_iff_not, evP, Bool.false_eq_true, if_true, if_false, ite_true, ite_false, reduceIte, Bool.not_true, Bool.not_false, Option.some.injEq, q_pow10, Int.reduceToNat, Int.reducePow, Int.reduceAdd, Int.reduceSub, Int.reduceMul, Int.reduceNeg, Int.reduceLT, Int.reduceLE, Nat.reducePow, Nat.reduceLT, Nat.reduceLeDiff, Nat.reduceAdd, List.length_cons, List.length_nil, Int.neg_neg]
    refine (check_zone_ok hz).use fun S1 l1 => ?_
    exact ⟨trivial, trivial, l1⟩
  rintro _ S1 ⟨rfl, l1⟩
  refine seq_M (fun env S2 => env = [some (zoneD os sp), some (lookD ls)] ∧ Lq S S2) ?_ ?_
  · simp only [ex, ev, M_bind, M_map, M_some, M_ite, t_eq, a_tup, al_eq, List.getElem?_cons_zero, List.getElem?_cons_succ, Option.bind_some, Option.map_some, q_add, q_sub, q_lt, q_le, q_gt, q_ge, q_eqI, q_neI, q_eqB, q_neB, q_isN, q_notN, isNon, q_ixT, q_ixR, atI_0, atI_1, atI_2, atI_3, atI_4, atI_5, atI_6, atI_7, q_slT, q_slR, q_revT, q_seqT, q_int, q_intB, q_max, q_min, q_abs, q_tupT, n_tup, n_int, n_bl, n_non, n_str, isi_ii, isi_ib, isi_tt, isi_itl, isi_btl, isi_ttl, isi_tl, isi_bb, u_bl, u_int, u_non, u_tup, g_name, g_tup, g_nil, g_cons, o_ret, o_nx, i_seq, List.set_cons_zero, List.set_cons_succ, decide_eq_true_eq, Bool.not_eq_true', decide_eq_false_iff_not, evP, Bool.false_eq_true, if_true, if_false, ite_true, ite_false, reduceIte, Bool.not_true, Bool.not_false, Option.some.injEq, q_pow10, Int.reduceToNat, Int.reducePow, Int.reduceAdd, Int.reduceSub, Int.reduceMul, Int.reduceNeg, Int.reduceLT, Int.reduceLE, Nat.reducePow, Nat.reduceLT, Nat.reduceLeDiff, Nat.reduceAdd, List.length_cons, List.length_nil, Int.neg_neg]
    refine (check_looks_ok hk hl).use fun S2 l2 => ?_
    exact ⟨trivial, trivial, l1.trans l2⟩
  rintro _ S2 ⟨rfl, l2⟩
  refine seq_Mx (ite_M ?_)
  simp only [ex, ev, M_bind, M_map, M_some, M_ite, t_eq, a_tup, al_eq, List.getElem?_cons_zero, List.getElem?_cons_succ, Option.bind_some, Option.map_some, q_add, q_sub, q_lt, q_le, q_gt, q_ge, q_eqI, q_neI, q_eqB, q_neB, q_isN, q_notN, q_ixT, q_ixR, atI_0, atI_1, atI_2, atI_3, atI_4, atI_5, atI_6, atI_7, q_slT, q_slR, q_revT, q_seqT, q_int, q_intB, q_max, q_min, q_abs, q_tupT, n_tup, n_int, n_bl, n_non, n_str, isi_ii, isi_ib, isi_tt, isi_itl, isi_btl, isi_ttl, isi_tl, isi_bb, u_bl, u_int, u_non, u_tup, g_name, g_tup, g_nil, g_cons, o_ret, o_nx, i_seq, List.set_cons_zero, List.set_cons_succ, decide_eq_true_eq, Bool.not_eq_true', decide_eq_false_iff_not, evP, Bool.false_eq_true, if_true, if_false, ite_true, ite_false, reduceIte, Bool.not_true, Bool.not_false, Option.some.injEq, q_pow10, Int.reduceToNat, Int.reducePow, Int.reduceAdd, Int.reduceSub, Int.reduceMul, Int.reduceNeg, Int.reduceLT, Int.reduceLE, Nat.reducePow, Nat.reduceLT, Nat.reduceLeDiff, Nat.reduceAdd, List.length_cons, List.length_nil, Int.neg_neg, e]
  refine crowded_stretch_ok hz.pos hz.top hl fun c' S3 hc' l3 => ?_
  rw [told_one hc' hc]
  cases co with
  | none =>
    simp only [ex, ev, M_bind, M_map, M_some, M_ite, t_eq, a_tup, al_eq, List.getElem?_cons_zero, List.getElem?_cons_succ, Option.bind_some, Option.map_some, q_add, q_sub, q_lt, q_le, q_gt, q_ge, q_eqI, q_neI, q_eqB, q_neB, q_isN, q_notN, isNon, q_ixT, q_ixR, atI_0, atI_1, atI_2, atI_3, atI_4, atI_5, atI_6, atI_7, q_slT, q_slR, q_revT, q_seqT, q_int, q_intB, q_max, q_min, q_abs, q_tupT, n_tup, n_int, n_bl, n_non, n_str, isi_ii, isi_ib, isi_tt, isi_itl, isi_btl, isi_ttl, isi_tl, isi_bb, u_bl, u_int, u_non, u_tup, g_name, g_tup, g_nil, g_cons, o_ret, o_nx, i_seq, List.set_cons_zero, List.set_cons_succ, decide_eq_true_eq, Bool.not_eq_true', decide_eq_false_iff_not, evP, Bool.false_eq_true, if_true, if_false, ite_true, ite_false, reduceIte, Bool.not_true, Bool.not_false, Option.some.injEq, q_pow10, Int.reduceToNat, Int.reducePow, Int.reduceAdd, Int.reduceSub, Int.reduceMul, Int.reduceNeg, Int.reduceLT, Int.reduceLE, Nat.reducePow, Nat.reduceLT, Nat.reduceLeDiff, Nat.reduceAdd, List.length_cons, List.length_nil, Int.neg_neg, toldD, Option.isNone_none]
    refine (earliest_table_ok hz hl).use fun S4 l4 => ?_
    simp only [ex, ev, M_bind, M_map, M_some, M_ite, t_eq, a_tup, al_eq, List.getElem?_cons_zero, List.getElem?_cons_succ, Option.bind_some, Option.map_some, q_add, q_sub, q_lt, q_le, q_gt, q_ge, q_eqI, q_neI, q_eqB, q_neB, q_isN, q_notN, isNon, q_ixT, q_ixR, atI_0, atI_1, atI_2, atI_3, atI_4, atI_5, atI_6, atI_7, q_slT, q_slR, q_revT, q_seqT, q_int, q_intB, q_max, q_min, q_abs, q_tupT, n_tup, n_int, n_bl, n_non, n_str, isi_ii, isi_ib, isi_tt, isi_itl, isi_btl, isi_ttl, isi_tl, isi_bb, u_bl, u_int, u_non, u_tup, g_name, g_tup, g_nil, g_cons, o_ret, o_nx, i_seq, List.set_cons_zero, List.set_cons_succ, decide_eq_true_eq, Bool.not_eq_true', decide_eq_false_iff_not, evP, Bool.false_eq_true, if_true, if_false, ite_true, ite_false, reduceIte, Bool.not_true, Bool.not_false, Option.some.injEq, q_pow10, Int.reduceToNat, Int.reducePow, Int.reduceAdd, Int.reduceSub, Int.reduceMul, Int.reduceNeg, Int.reduceLT, Int.reduceLE, Nat.reducePow, Nat.reduceLT, Nat.reduceLeDiff, Nat.reduceAdd, List.length_cons, List.length_nil, Int.neg_neg]
    exact ⟨trivial, l2.trans (l3.trans l4)⟩
  | some c =>
    obtain ⟨a, b⟩ := c
    simp only [ex, ev, M_bind, M_map, M_some, M_ite, t_eq, a_tup, al_eq, List.getElem?_cons_zero, List.getElem?_cons_succ, Option.bind_some, Option.map_some, q_add, q_sub, q_lt, q_le, q_gt, q_ge, q_eqI, q_neI, q_eqB, q_neB, q_isN, q_notN, isNon, q_ixT, q_ixR, atI_0, atI_1, atI_2, atI_3, atI_4, atI_5, atI_6, atI_7, q_slT, q_slR, q_revT, q_seqT, q_int, q_intB, q_max, q_min, q_abs, q_tupT, n_tup, n_int, n_bl, n_non, n_str, isi_ii, isi_ib, isi_tt, isi_itl, isi_btl, isi_ttl, isi_tl, isi_bb, u_bl, u_int, u_non, u_tup, g_name, g_tup, g_nil, g_cons, o_ret, o_nx, i_seq, List.set_cons_zero, List.set_cons_succ, decide_eq_true_eq, Bool.not_eq_true', decide_eq_false_iff_not, evP, Bool.false_eq_true, if_true, if_false, ite_true, ite_false, reduceIte, Bool.not_true, Bool.not_false, Option.some.injEq, q_pow10, Int.reduceToNat, Int.reducePow, Int.reduceAdd, Int.reduceSub, Int.reduceMul, Int.reduceNeg, Int.reduceLT, Int.reduceLE, Nat.reducePow, Nat.reduceLT, Nat.reduceLeDiff, Nat.reduceAdd, List.length_cons, List.length_nil, Int.neg_neg, toldD, Option.isNone_some]
    exact ⟨trivial, l2.trans l3⟩
end Lw

namespace Lw
open PySem L2 Ix
theorem among_ok {n : Nat} {S : Hd} {os : List Int} {i : Int} (h : i ∈ os) : Pu (run T (n + 2) 45 [.int i, .tup (os.map .int)] S) (.bl true) S := by
  refine Pu.run T_among rfl ?_
  show M (ex (run T (n + 1)) b_among [some (.int i), some (.tup (os.map .int))] S) _
  unfold b_among
  simp only [ex, ev, M_bind, M_map, M_some, M_ite, t_eq, a_tup, al_eq, List.getElem?_cons_zero, List.getElem?_cons_succ, Option.bind_some, Option.map_some, q_add, q_sub, q_lt, q_le, q_gt, q_ge, q_eqI, q_neI, q_eqB, q_neB, q_isN, q_notN, isNon, q_ixT, q_ixR, atI_0, atI_1, atI_2, atI_3, atI_4, atI_5, atI_6, atI_7, q_slT, q_slR, q_revT, q_seqT, q_int, q_intB, q_max, q_min, q_abs, q_tupT, n_tup, n_int, n_bl, n_non, n_str, isi_ii, isi_ib, isi_tt, isi_itl, isi_btl, isi_ttl, isi_tl, isi_bb, u_bl, u_int, u_non, u_tup, g_name, g_tup, g_nil, g_cons, o_ret, o_nx, i_seq, List.set_cons_zero, List.set_cons_succ, decide_eq_true_eq, Bool.not_eq_true', decide_eq_false_iff_not, evP, Bool.false_eq_true, if_true, if_false, ite_true, ite_false, reduceIte, Bool.not_true, Bool.not_false, Option.some.injEq, q_pow10, Int.reduceToNat, Int.reducePow, Int.reduceAdd, Int.reduceSub, Int.reduceMul, Int.reduceNeg, Int.reduceLT, Int.reduceLE, Nat.reducePow, Nat.reduceLT, Nat.reduceLeDiff, Nat.reduceAdd, List.length_cons, List.length_nil, Int.neg_neg]
  refine whole_ok.use fun S1 l1 => ?_
  have h1 : (os.map D.int).all flat = true := by simp [flat]
  have h2 : ((os.map D.int).any fun z => eqF z (.int i)) = true := by
    rw [List.any_eq_true]
    exact ⟨.int i, List.mem_map_of_mem h, by simp [eqF]⟩
  simp only [ex, ev, M_bind, M_map, M_some, M_ite, t_eq, a_tup, al_eq, List.getElem?_cons_zero, List.getElem?_cons_succ, Option.bind_some, Option.map_some, q_add, q_sub, q_lt, q_le, q_gt, q_ge, q_eqI, q_neI, q_eqB, q_neB, q_isN, q_notN, isNon, q_ixT, q_ixR, atI_0, atI_1, atI_2, atI_3, atI_4, atI_5, atI_6, atI_7, q_slT, q_slR, q_revT, q_seqT, q_int, q_intB, q_max, q_min, q_abs, q_tupT, n_tup, n_int, n_bl, n_non, n_str, isi_ii, isi_ib, isi_tt, isi_itl, isi_btl, isi_ttl, isi_tl, isi_bb, u_bl, u_int, u_non, u_tup, g_name, g_tup, g_nil, g_cons, o_ret, o_nx, i_seq, List.set_cons_zero, List.set_cons_succ, decide_eq_true_eq, Bool.not_eq_true', decide_eq_false_iff_not, evP, Bool.false_eq_true, if_true, if_false, ite_true, ite_false, reduceIte, Bool.not_true, Bool.not_false, Option.some.injEq, q_pow10, Int.reduceToNat, Int.reducePow, Int.reduceAdd, Int.reduceSub, Int.reduceMul, Int.reduceNeg, Int.reduceLT, Int.reduceLE, Nat.reducePow, Nat.reduceLT, Nat.reduceLeDiff, Nat.reduceAdd, List.length_cons, List.length_nil, Int.neg_neg, q_in (x := .int i) rfl (q_seqT (xs := os.map .int)) h1, h2]
  exact ⟨trivial, l1⟩
theorem is_chart_ok {n : Nat} {S : Hd} {os : List Int} {sp off : Int} {js : List (Int × Int)} (hc : Chart os sp off js) (hl : js.length ≤ 900) : Pu (run T (n + 3) 46 [zoneD os sp, chartD off js] S) (.bl true) S := by
  have hm := most_big
  refine Pu.run T_is_chart rfl ?_
  show M (ex (run T (n + 2)) b_is_chart [some (zoneD os sp), some (chartD off js), none, none, none, none, none] S) _
  unfold b_is_chart chartD
  refine seq_M (fun env S1 => S = S1 ∧ env = [some (zoneD os sp), some (.tup [.int off, .tup (js.map jumpD)]), some (.tup (os.map .int)), some (.int sp), none, none, none]) ?_ ?_
  · unfold zoneD
    simp only [ex, ev, M_bind, M_map, M_some, M_ite, t_eq, a_tup, al_eq, List.getElem?_cons_zero, List.getElem?_cons_succ, Option.bind_some, Option.map_some, q_add, q_sub, q_lt, q_le, q_gt, q_ge, q_eqI, q_neI, q_eqB, q_neB, q_isN, q_notN, isNon, q_ixT, q_ixR, atI_0, atI_1, atI_2, atI_3, atI_4, atI_5, atI_6, atI_7, q_slT, q_slR, q_revT, q_seqT, q_int, q_intB, q_max, q_min, q_abs, q_tupT, n_tup, n_int, n_bl, n_non, n_str, isi_ii, isi_ib, isi_tt, isi_itl, isi_btl, isi_ttl, isi_tl, isi_bb, u_bl, u_int, u_non, u_tup, g_name, g_tup, g_nil, g_cons, o_ret, o_nx, i_seq, List.set_cons_zero, List.set_cons_succ, decide_eq_true_eq, Bool.not_eq_true', decide_eq_false_iff_not, evP, Bool.false_eq_true, if_true, if_false, ite_true, ite_false, reduceIte, Bool.not_true, Bool.not_false, Option.some.injEq, q_pow10, Int.reduceToNat, Int.reducePow, Int.reduceAdd, Int.reduceSub, Int.reduceMul, Int.reduceNeg, Int.reduceLT, Int.reduceLE, Nat.reducePow, Nat.reduceLT, Nat.reduceLeDiff, Nat.reduceAdd, List.length_cons, List.length_nil, Int.neg_neg]
    exact ⟨trivial, trivial, trivial⟩
  rintro _ _ ⟨rfl, rfl⟩
  refine seq_M (fun env S1 => Lq S S1 ∧ env = [some (zoneD os sp), some (.tup [.int off, .tup (js.map jumpD)]), some (.tup (os.map .int)), some (.int sp), none, none, none]) ?_ ?_
  · refine ite_M ?_
    simp only [ev, M_bind, M_map, M_some, M_ite, t_eq, a_tup, al_eq, List.getElem?_cons_zero, List.getElem?_cons_succ, Option.bind_some, Option.map_some, q_add, q_sub, q_lt, q_le, q_gt, q_ge, q_eqI, q_neI, q_eqB, q_neB, q_isN, q_notN, isNon, q_ixT, q_ixR, atI_0, atI_1, atI_2, atI_3, atI_4, atI_5, atI_6, atI_7, q_slT, q_slR, q_revT, q_seqT, q_int, q_intB, q_max, q_min, q_abs, q_tupT, n_tup, n_int, n_bl, n_non, n_str, isi_ii, isi_ib, isi_tt, isi_itl, isi_btl, isi_ttl, isi_tl, isi_bb, u_bl, u_int, u_non, u_tup, g_name, g_tup, g_nil, g_cons, o_ret, o_nx, i_seq, List.set_cons_zero, List.set_cons_succ, decide_eq_true_eq, Bool.not_eq_true', decide_eq_false_iff_not, evP, Bool.false_eq_true, if_true, if_false, ite_true, ite_false, reduceIte, Bool.not_true, Bool.not_false, Option.some.injEq, q_pow10, Int.reduceToNat, Int.reducePow, Int.reduceAdd, Int.reduceSub, Int.reduceMul, Int.reduceNeg, Int.reduceLT, Int.reduceLE, Nat.reducePow, Nat.reduceLT, Nat.reduceLeDiff, Nat.reduceAdd, List.length_cons, List.length_nil, Int.neg_neg, q_len q_seqT, show ((0 + 1 + 1 : Nat) : Int) = 2 from rfl, decide_true]
    refine (among_ok hc.first).use fun S1 l1 => ?_
    simp only [ex, ev, M_bind, M_map, M_some, M_ite, t_eq, a_tup, al_eq, List.getElem?_cons_zero, List.getElem?_cons_succ, Option.bind_some, Option.map_some, q_add, q_sub, q_lt, q_le, q_gt, q_ge, q_eqI, q_neI, q_eqB, q_neB, q_isN, q_notN, isNon, q_ixT, q_ixR, atI_0, atI_1, atI_2, atI_3, atI_4, atI_5, atI_6, atI_7, q_slT, q_slR, q_revT, q_seqT, q_int, q_intB, q_max, q_min, q_abs, q_tupT, n_tup, n_int, n_bl, n_non, n_str, isi_ii, isi_ib, isi_tt, isi_itl, isi_btl, isi_ttl, isi_tl, isi_bb, u_bl, u_int, u_non, u_tup, g_name, g_tup, g_nil, g_cons, o_ret, o_nx, i_seq, List.set_cons_zero, List.set_cons_succ, decide_eq_true_eq, Bool.not_eq_true', decide_eq_false_iff_not, evP, Bool.false_eq_true, if_true, if_false, ite_true, ite_false, reduceIte, Bool.not_true, Bool.not_false, Option.some.injEq, q_pow10, Int.reduceToNat, Int.reducePow, Int.reduceAdd, Int.reduceSub, Int.reduceMul, Int.reduceNeg, Int.reduceLT, Int.reduceLE, Nat.reducePow, Nat.reduceLT, Nat.reduceLeDiff, Nat.reduceAdd, List.length_cons, List.length_nil, Int.neg_neg]
    exact ⟨trivial, l1, trivial⟩
  rintro _ S1 ⟨l1, rfl⟩
  refine seq_M (fun env S2 => Lq S S2 ∧ env = [some (zoneD os sp), some (.tup [.int off, .tup (js.map jumpD)]), some (.tup (os.map .int)), some (.int sp), none, none, none]) ?_ ?_
  · refine ite_M ?_
    simp only [ev, M_bind, M_map, M_some, M_ite, t_eq, a_tup, al_eq, List.getElem?_cons_zero, List.getElem?_cons_succ, Option.bind_some, Option.map_some, q_add, q_sub, q_lt, q_le, q_gt, q_ge, q_eqI, q_neI, q_eqB, q_neB, q_isN, q_notN, isNon, q_ixT, q_ixR, atI_0, atI_1, atI_2, atI_3, atI_4, atI_5, atI_6, atI_7, q_slT, q_slR, q_revT, q_seqT, q_int, q_intB, q_max, q_min, q_abs, q_tupT, n_tup, n_int, n_bl, n_non, n_str, isi_ii, isi_ib, isi_tt, isi_itl, isi_btl, isi_ttl, isi_tl, isi_bb, u_bl, u_int, u_non, u_tup, g_name, g_tup, g_nil, g_cons, o_ret, o_nx, i_seq, List.set_cons_zero, List.set_cons_succ, decide_eq_true_eq, Bool.not_eq_true', decide_eq_false_iff_not, evP, Bool.false_eq_true, if_true, if_false, ite_true, ite_false, reduceIte, Bool.not_true, Bool.not_false, Option.some.injEq, q_pow10, Int.reduceToNat, Int.reducePow, Int.reduceAdd, Int.reduceSub, Int.reduceMul, Int.reduceNeg, Int.reduceLT, Int.reduceLE, Nat.reducePow, Nat.reduceLT, Nat.reduceLeDiff, Nat.reduceAdd, List.length_cons, List.length_nil, Int.neg_neg]
    simp only [ex, ev, M_bind, M_map, M_some, M_ite, t_eq, a_tup, al_eq, List.getElem?_cons_zero, List.getElem?_cons_succ, Option.bind_some, Option.map_some, q_add, q_sub, q_lt, q_le, q_gt, q_ge, q_eqI, q_neI, q_eqB, q_neB, q_isN, q_notN, isNon, q_ixT, q_ixR, atI_0, atI_1, atI_2, atI_3, atI_4, atI_5, atI_6, atI_7, q_slT, q_slR, q_revT, q_seqT, q_int, q_intB, q_max, q_min, q_abs, q_tupT, n_tup, n_int, n_bl, n_non, n_str, isi_ii, isi_ib, isi_tt, isi_itl, isi_btl, isi_ttl, isi_tl, isi_bb, u_bl, u_int, u_non, u_tup, g_name, g_tup, g_nil, g_cons, o_ret, o_nx, i_seq, List.set_cons_zero, List.set_cons_succ, decide_eq_true_eq, Bool.not_eq_true', decide_eq_false_iff_not, evP, Bool.false_eq_true, if_true, if_false, ite_true, ite_false, reduceIte, Bool.not_true, Bool.not_false, Option.some.injEq, q_pow10, Int.reduceToNat, Int.reducePow, Int.reduceAdd, Int.reduceSub, Int.reduceMul, Int.reduceNeg, Int.reduceLT, Int.reduceLE, Nat.reducePow, Nat.reduceLT, Nat.reduceLeDiff, Nat.reduceAdd, List.length_cons, List.length_nil, Int.neg_neg]
    exact ⟨trivial, l1, trivial⟩
  rintro _ S2 ⟨l2, rfl⟩
  refine seq_M (fun env S3 => S2 = S3 ∧ env = [some (zoneD os sp), some (.tup [.int off, .tup (js.map jumpD)]), some (.tup (os.map .int)), some (.int sp), some (.int off), none, none]) ?_ ?_
  · simp only [ex, ev, M_bind, M_map, M_some, M_ite, t_eq, a_tup, al_eq, List.getElem?_cons_zero, List.getElem?_cons_succ, Option.bind_some, Option.map_some, q_add, q_sub, q_lt, q_le, q_gt, q_ge, q_eqI, q_neI, q_eqB, q_neB, q_isN, q_notN, isNon, q_ixT, q_ixR, atI_0, atI_1, atI_2, atI_3, atI_4, atI_5, atI_6, atI_7, q_slT, q_slR, q_revT, q_seqT, q_int, q_intB, q_max, q_min, q_abs, q_tupT, n_tup, n_int, n_bl, n_non, n_str, isi_ii, isi_ib, isi_tt, isi_itl, isi_btl, isi_ttl, isi_tl, isi_bb, u_bl, u_int, u_non, u_tup, g_name, g_tup, g_nil, g_cons, o_ret, o_nx, i_seq, List.set_cons_zero, List.set_cons_succ, decide_eq_true_eq, Bool.not_eq_true', decide_eq_false_iff_not, evP, Bool.false_eq_true, if_true, if_false, ite_true, ite_false, reduceIte, Bool.not_true, Bool.not_false, Option.some.injEq, q_pow10, Int.reduceToNat, Int.reducePow, Int.reduceAdd, Int.reduceSub, Int.reduceMul, Int.reduceNeg, Int.reduceLT, Int.reduceLE, Nat.reducePow, Nat.reduceLT, Nat.reduceLeDiff, Nat.reduceAdd, List.length_cons, List.length_nil, Int.neg_neg]
    exact ⟨trivial, trivial, trivial⟩
  rintro _ _ ⟨rfl, rfl⟩
  refine seq_M (fun env S3 => S3 = S2 ++ [.lst []] ∧ env = [some (zoneD os sp), some (.tup [.int off, .tup (js.map jumpD)]), some (.tup (os.map .int)), some (.int sp), some (.int off), some (.ref S2.length), none]) ?_ ?_
  · simp only [ex, ev, M_bind, M_map, M_some, M_ite, t_eq, a_tup, al_eq, List.getElem?_cons_zero, List.getElem?_cons_succ, Option.bind_some, Option.map_some, q_add, q_sub, q_lt, q_le, q_gt, q_ge, q_eqI, q_neI, q_eqB, q_neB, q_isN, q_notN, isNon, q_ixT, q_ixR, atI_0, atI_1, atI_2, atI_3, atI_4, atI_5, atI_6, atI_7, q_slT, q_slR, q_revT, q_seqT, q_int, q_intB, q_max, q_min, q_abs, q_tupT, n_tup, n_int, n_bl, n_non, n_str, isi_ii, isi_ib, isi_tt, isi_itl, isi_btl, isi_ttl, isi_tl, isi_bb, u_bl, u_int, u_non, u_tup, g_name, g_tup, g_nil, g_cons, o_ret, o_nx, i_seq, List.set_cons_zero, List.set_cons_succ, decide_eq_true_eq, Bool.not_eq_true', decide_eq_false_iff_not, evP, Bool.false_eq_true, if_true, if_false, ite_true, ite_false, reduceIte, Bool.not_true, Bool.not_false, Option.some.injEq, q_pow10, Int.reduceToNat, Int.reducePow, Int.reduceAdd, Int.reduceSub, Int.reduceMul, Int.reduceNeg, Int.reduceLT, Int.reduceLE, Nat.reducePow, Nat.reduceLT, Nat.reduceLeDiff, Nat.reduceAdd, List.length_cons, List.length_nil, Int.neg_neg, show (0 : Nat) ≤ most by decide]
    exact ⟨trivial, trivial, trivial⟩
  rintro _ _ ⟨rfl, rfl⟩
  refine seq_M (fun env S3 => Lq S S3) ?_ ?_
  · refine for_M ?_
    simp only [ev, M_bind, M_map, M_some, M_ite, t_eq, a_tup, al_eq, List.getElem?_cons_zero, List.getElem?_cons_succ, Option.bind_some, Option.map_some, q_add, q_sub, q_lt, q_le, q_gt, q_ge, q_eqI, q_neI, q_eqB, q_neB, q_isN, q_notN, isNon, q_ixT, q_ixR, atI_0, atI_1, atI_2, atI_3, atI_4, atI_5, atI_6, atI_7, q_slT, q_slR, q_revT, q_seqT, q_int, q_intB, q_max, q_min, q_abs, q_tupT, n_tup, n_int, n_bl, n_non, n_str, isi_ii, isi_ib, isi_tt, isi_itl, isi_btl, isi_ttl, isi_tl, isi_bb, u_bl, u_int, u_non, u_tup, g_name, g_tup, g_nil, g_cons, o_ret, o_nx, i_seq, List.set_cons_zero, List.set_cons_succ, decide_eq_true_eq, Bool.not_eq_true', decide_eq_false_iff_not, evP, Bool.false_eq_true, if_true, if_false, ite_true, ite_false, reduceIte, Bool.not_true, Bool.not_false, Option.some.injEq, q_pow10, Int.reduceToNat, Int.reducePow, Int.reduceAdd, Int.reduceSub, Int.reduceMul, Int.reduceNeg, Int.reduceLT, Int.reduceLE, Nat.reducePow, Nat.reduceLT, Nat.reduceLeDiff, Nat.reduceAdd, List.length_cons, List.length_nil, Int.neg_neg]
    refine ⟨_, _, rfl, rfl, ?_⟩
    refine M_loopS (m := 0) (fun i env S3 => Lq S2 S3 ∧ ∃ (h : Int) (v6 : Option D), S3[S2.length]? = some (.lst (((js.take i).map (·.1)).map .int)) ∧ (off :: js.map (·.2))[i]? = some h ∧ env = [some (zoneD os sp), some (.tup [.int off, .tup (js.map jumpD)]), some (.tup (os.map .int)), some (.int sp), some (.int h), some (.ref S2.length), v6]) ⟨Lq.app _ _, off, none, get_new, rfl, rfl⟩ ?_ ?_
    · rintro i d env S3 hi ⟨l3, h, v6, g, eh, rfl⟩
      obtain ⟨j, hj, hjm, rfl⟩ := map_get hi
      have il := (List.getElem?_eq_some_iff.mp hj).1
      simp only [Nat.zero_add] at g eh ⊢
      rw [show jumpD j = .tup [.int j.1, .int j.2] from rfl]
      simp only [asgG, Option.bind_some, List.set_cons_succ, List.set_cons_zero]
      have ne : h ≠ j.2 := hc.alt i h j.2 eh (by rw [List.getElem?_cons_succ, List.getElem?_map, hj]; rfl)
      have fin : ∀ S4, Lq S3 S4 → Lq S2 (S4.set S2.length (.lst (((js.take i).map (·.1)).map D.int ++ [.int j.1]))) ∧ (S4.set S2.length (.lst (((js.take i).map (·.1)).map D.int ++ [.int j.1])))[S2.length]? = some (.lst (((js.take (i + 1)).map (·.1)).map .int)) := fun S4 l4 => by
        refine ⟨Lq.set (l3.trans l4) (Nat.le_refl _), ?_⟩
        rw [List.getElem?_set_self (lt_of_get (l4 _ _ g)), List.take_add_one, hj, List.map_append, List.map_append]
        rfl
      generalize hE : [some (zoneD os sp), some (D.tup [.int off, .tup (js.map jumpD)]), some (.tup (os.map .int)), some (.int sp), some (.int h), some (.ref S2.length), some (.tup [.int j.1, .int j.2])] = Ev0
      refine seq_M (fun env S4 => Lq S3 S4 ∧ env = Ev0) ?_ ?_
      · subst hE
        refine ite_M ?_
        simp only [ev, M_bind, M_map, M_some, M_ite, t_eq, a_tup, al_eq, List.getElem?_cons_zero, List.getElem?_cons_succ, Option.bind_some, Option.map_some, q_add, q_sub, q_lt, q_le, q_gt, q_ge, q_eqI, q_neI, q_eqB, q_neB, q_isN, q_notN, isNon, q_ixT, q_ixR, atI_0, atI_1, atI_2, atI_3, atI_4, atI_5, atI_6, atI_7, q_slT, q_slR, q_revT, q_seqT, q_int, q_intB, q_max, q_min, q_abs, q_tupT, n_tup, n_int, n_bl, n_non, n_str, isi_ii, isi_ib, isi_tt, isi_itl, isi_btl, isi_ttl, isi_tl, isi_bb, u_bl, u_int, u_non, u_tup, g_name, g_tup, g_nil, g_cons, o_ret, o_nx, i_seq, List.set_cons_zero, List.set_cons_succ, decide_eq_true_eq, Bool.not_eq_true', decide_eq_false_iff_not, evP, Bool.false_eq_true, if_true, if_false, ite_true, ite_false, reduceIte, Bool.not_true, Bool.not_false, Option.some.injEq, q_pow10, Int.reduceToNat, Int.reducePow, Int.reduceAdd, Int.reduceSub, Int.reduceMul, Int.reduceNeg, Int.reduceLT, Int.reduceLE, Nat.reducePow, Nat.reduceLT, Nat.reduceLeDiff, Nat.reduceAdd, List.length_cons, List.length_nil, Int.neg_neg, q_len q_seqT, show ((0 + 1 + 1 : Nat) : Int) = 2 from rfl, decide_true]
        refine whole_ok.use fun S4 l4 => ?_
        simp only [ex, ev, M_bind, M_map, M_some, M_ite, t_eq, a_tup, al_eq, List.getElem?_cons_zero, List.getElem?_cons_succ, Option.bind_some, Option.map_some, q_add, q_sub, q_lt, q_le, q_gt, q_ge, q_eqI, q_neI, q_eqB, q_neB, q_isN, q_notN, isNon, q_ixT, q_ixR, atI_0, atI_1, atI_2, atI_3, atI_4, atI_5, atI_6, atI_7, q_slT, q_slR, q_revT, q_seqT, q_int, q_intB, q_max, q_min, q_abs, q_tupT, n_tup, n_int, n_bl, n_non, n_str, isi_ii, isi_ib, isi_tt, isi_itl, isi_btl, isi_ttl, isi_tl, isi_bb, u_bl, u_int, u_non, u_tup, g_name, g_tup, g_nil, g_cons, o_ret, o_nx, i_seq, List.set_cons_zero, List.set_cons_succ, decide_eq_true_eq, Bool.not_eq_true', decide_eq_false_iff_not, evP, Bool.false_eq_true, if_true, if_false, ite_true, ite_false, reduceIte, Bool.not_true, Bool.not_false, Option.some.injEq, q_pow10, Int.reduceToNat, Int.reducePow, Int.reduceAdd, Int.reduceSub, Int.reduceMul, Int.reduceNeg, Int.reduceLT, Int.reduceLE, Nat.reducePow, Nat.reduceLT, Nat.reduceLeDiff, Nat.reduceAdd, List.length_cons, List.length_nil, Int.neg_neg]
        exact ⟨trivial, l4, trivial⟩
      rintro env4 S4 ⟨l4, e4⟩
      rw [e4]
      refine seq_M (fun env S5 => Lq S3 S5 ∧ env = Ev0) ?_ ?_
      · subst hE
        refine ite_M ?_
        simp only [ev, M_bind, M_map, M_some, M_ite, t_eq, a_tup, al_eq, List.getElem?_cons_zero, List.getElem?_cons_succ, Option.bind_some, Option.map_some, q_add, q_sub, q_lt, q_le, q_gt, q_ge, q_eqI, q_neI, q_eqB, q_neB, q_isN, q_notN, isNon, q_ixT, q_ixR, atI_0, atI_1, atI_2, atI_3, atI_4, atI_5, atI_6, atI_7, q_slT, q_slR, q_revT, q_seqT, q_int, q_intB, q_max, q_min, q_abs, q_tupT, n_tup, n_int, n_bl, n_non, n_str, isi_ii, isi_ib, isi_tt, isi_itl, isi_btl, isi_ttl, isi_tl, isi_bb, u_bl, u_int, u_non, u_tup, g_name, g_tup, g_nil, g_cons, o_ret, o_nx, i_seq, List.set_cons_zero, List.set_cons_succ, decide_eq_true_eq, Bool.not_eq_true', decide_eq_false_iff_not, evP, Bool.false_eq_true, if_true, if_false, ite_true, ite_false, reduceIte, Bool.not_true, Bool.not_false, Option.some.injEq, q_pow10, Int.reduceToNat, Int.reducePow, Int.reduceAdd, Int.reduceSub, Int.reduceMul, Int.reduceNeg, Int.reduceLT, Int.reduceLE, Nat.reducePow, Nat.reduceLT, Nat.reduceLeDiff, Nat.reduceAdd, List.length_cons, List.length_nil, Int.neg_neg]
        refine (among_ok (hc.mem j hjm)).use fun S5 l5 => ?_
        simp only [ev, M_bind, M_map, M_some, M_ite, t_eq, a_tup, al_eq, List.getElem?_cons_zero, List.getElem?_cons_succ, Option.bind_some, Option.map_some, q_add, q_sub, q_lt, q_le, q_gt, q_ge, q_eqI, q_neI, q_eqB, q_neB, q_isN, q_notN, isNon, q_ixT, q_ixR, atI_0, atI_1, atI_2, atI_3, atI_4, atI_5, atI_6, atI_7, q_slT, q_slR, q_revT, q_seqT, q_int, q_intB, q_max, q_min, q_abs, q_tupT, n_tup, n_int, n_bl, n_non, n_str, isi_ii, isi_ib, isi_tt, isi_itl, isi_btl, isi_ttl, isi_tl, isi_bb, u_bl, u_int, u_non, u_tup, g_name, g_tup, g_nil, g_cons, o_ret, o_nx, i_seq, List.set_cons_zero, List.set_cons_succ, decide_eq_true_eq, Bool.not_eq_true', decide_eq_false_iff_not, evP, Bool.false_eq_true, if_true, if_false, ite_true, ite_false, reduceIte, Bool.not_true, Bool.not_false, Option.some.injEq, q_pow10, Int.reduceToNat, Int.reducePow, Int.reduceAdd, Int.reduceSub, Int.reduceMul, Int.reduceNeg, Int.reduceLT, Int.reduceLE, Nat.reducePow, Nat.reduceLT, Nat.reduceLeDiff, Nat.reduceAdd, List.length_cons, List.length_nil, Int.neg_neg, show (j.2 = h) = False from eq_false fun e => ne e.symm, decide_false]
        simp only [ex, ev, M_bind, M_map, M_some, M_ite, t_eq, a_tup, al_eq, List.getElem?_cons_zero, List.getElem?_cons_succ, Option.bind_some, Option.map_some, q_add, q_sub, q_lt, q_le, q_gt, q_ge, q_eqI, q_neI, q_eqB, q_neB, q_isN, q_notN, isNon, q_ixT, q_ixR, atI_0, atI_1, atI_2, atI_3, atI_4, atI_5, atI_6, atI_7, q_slT, q_slR, q_revT, q_seqT, q_int, q_intB, q_max, q_min, q_abs, q_tupT, n_tup, n_int, n_bl, n_non, n_str, isi_ii, isi_ib, isi_tt, isi_itl, isi_btl, isi_ttl, isi_tl, isi_bb, u_bl, u_int, u_non, u_tup, g_name, g_tup, g_nil, g_cons, o_ret, o_nx, i_seq, List.set_cons_zero, List.set_cons_succ, decide_eq_true_eq, Bool.not_eq_true', decide_eq_false_iff_not, evP, Bool.false_eq_true, if_true, if_false, ite_true, ite_false, reduceIte, Bool.not_true, Bool.not_false, Option.some.injEq, q_pow10, Int.reduceToNat, Int.reducePow, Int.reduceAdd, Int.reduceSub, Int.reduceMul, Int.reduceNeg, Int.reduceLT, Int.reduceLE, Nat.reducePow, Nat.reduceLT, Nat.reduceLeDiff, Nat.reduceAdd, List.length_cons, List.length_nil, Int.neg_neg]
        exact ⟨trivial, l4.trans l5, trivial⟩
      rintro env5 S5 ⟨l5, e5⟩
      rw [e5]
      have g5 := l5 _ _ g
      refine seq_M (fun env S6 => S5 = S6 ∧ env = Ev0) ?_ ?_
      · subst hE
        refine ite_M ?_
        simp only [ev, M_bind, M_map, M_some, M_ite, t_eq, a_tup, al_eq, List.getElem?_cons_zero, List.getElem?_cons_succ, Option.bind_some, Option.map_some, q_add, q_sub, q_lt, q_le, q_gt, q_ge, q_eqI, q_neI, q_eqB, q_neB, q_isN, q_notN, isNon, q_ixT, q_ixR, atI_0, atI_1, atI_2, atI_3, atI_4, atI_5, atI_6, atI_7, q_slT, q_slR, q_revT, q_seqT, q_int, q_intB, q_max, q_min, q_abs, q_tupT, n_tup, n_int, n_bl, n_non, n_str, isi_ii, isi_ib, isi_tt, isi_itl, isi_btl, isi_ttl, isi_tl, isi_bb, u_bl, u_int, u_non, u_tup, g_name, g_tup, g_nil, g_cons, o_ret, o_nx, i_seq, List.set_cons_zero, List.set_cons_succ, decide_eq_true_eq, Bool.not_eq_true', decide_eq_false_iff_not, evP, Bool.false_eq_true, if_true, if_false, ite_true, ite_false, reduceIte, Bool.not_true, Bool.not_false, Option.some.injEq, q_pow10, Int.reduceToNat, Int.reducePow, Int.reduceAdd, Int.reduceSub, Int.reduceMul, Int.reduceNeg, Int.reduceLT, Int.reduceLE, Nat.reducePow, Nat.reduceLT, Nat.reduceLeDiff, Nat.reduceAdd, List.length_cons, List.length_nil, Int.neg_neg, q_len (q_seqL g5), List.length_map, List.length_take]
        by_cases c : (0 : Int) < ((min i js.length : Nat) : Int)
        · obtain ⟨a, ha⟩ : ∃ a, i = a + 1 := ⟨i - 1, by omega⟩
          subst ha
          have hlast : ((js.take (a + 1)).map (·.1)).getLast? = some (js[a]).1 := by
            rw [List.take_add_one, List.getElem?_eq_getElem (by omega), List.map_append]
            simp
          have hat : atI (((js.take (a + 1)).map (·.1)).map D.int) (-1) = some (.int (js[a]).1) := by
            have e : (((js.take (a + 1)).map (·.1)).map D.int).getLast? = some (.int (js[a]).1) := by rw [List.getLast?_map, hlast]; rfl
            have ne : ((js.take (a + 1)).map (·.1)).map D.int ≠ [] := fun z => by rw [z] at e; cases e
            rw [atI_last ne]
            rw [List.getLast?_eq_some_getLast ne] at e
            exact e
          have far := hc.far a (js[a]).1 j.1 (by rw [List.getElem?_map, List.getElem?_eq_getElem (by omega)]; rfl) (by rw [List.getElem?_map, hj]; rfl)
          simp only [c, decide_true, ev, M_bind, M_map, M_some, M_ite, t_eq, a_tup, al_eq, List.getElem?_cons_zero, List.getElem?_cons_succ, Option.bind_some, Option.map_some, q_add, q_sub, q_lt, q_le, q_gt, q_ge, q_eqI, q_neI, q_eqB, q_neB, q_isN, q_notN, isNon, q_ixT, q_ixR, atI_0, atI_1, atI_2, atI_3, atI_4, atI_5, atI_6, atI_7, q_slT, q_slR, q_revT, q_seqT, q_int, q_intB, q_max, q_min, q_abs, q_tupT, n_tup, n_int, n_bl, n_non, n_str, isi_ii, isi_ib, isi_tt, isi_itl, isi_btl, isi_ttl, isi_tl, isi_bb, u_bl, u_int, u_non, u_tup, g_name, g_tup, g_nil, g_cons, o_ret, o_nx, i_seq, List.set_cons_zero, List.set_cons_succ, decide_eq_true_eq, Bool.not_eq_true', decide_eq_false_iff_not, evP, Bool.false_eq_true, if_true, if_false, ite_true, ite_false, reduceIte, Bool.not_true, Bool.not_false, Option.some.injEq, q_pow10, Int.reduceToNat, Int.reducePow, Int.reduceAdd, Int.reduceSub, Int.reduceMul, Int.reduceNeg, Int.reduceLT, Int.reduceLE, Nat.reducePow, Nat.reduceLT, Nat.reduceLeDiff, Nat.reduceAdd, List.length_cons, List.length_nil, Int.neg_neg, q_ixL g5, hat, show (j.1 < (js[a]).1 + sp) = False from eq_false (by omega), decide_false]
          simp only [ex, ev, M_bind, M_map, M_some, M_ite, t_eq, a_tup, al_eq, List.getElem?_cons_zero, List.getElem?_cons_succ, Option.bind_some, Option.map_some, q_add, q_sub, q_lt, q_le, q_gt, q_ge, q_eqI, q_neI, q_eqB, q_neB, q_isN, q_notN, isNon, q_ixT, q_ixR, atI_0, atI_1, atI_2, atI_3, atI_4, atI_5, atI_6, atI_7, q_slT, q_slR, q_revT, q_seqT, q_int, q_intB, q_max, q_min, q_abs, q_tupT, n_tup, n_int, n_bl, n_non, n_str, isi_ii, isi_ib, isi_tt, isi_itl, isi_btl, isi_ttl, isi_tl, isi_bb, u_bl, u_int, u_non, u_tup, g_name, g_tup, g_nil, g_cons, o_ret, o_nx, i_seq, List.set_cons_zero, List.set_cons_succ, decide_eq_true_eq, Bool.not_eq_true', decide_eq_false_iff_not, evP, Bool.false_eq_true, if_true, if_false, ite_true, ite_false, reduceIte, Bool.not_true, Bool.not_false, Option.some.injEq, q_pow10, Int.reduceToNat, Int.reducePow, Int.reduceAdd, Int.reduceSub, Int.reduceMul, Int.reduceNeg, Int.reduceLT, Int.reduceLE, Nat.reducePow, Nat.reduceLT, Nat.reduceLeDiff, Nat.reduceAdd, List.length_cons, List.length_nil, Int.neg_neg]
          exact ⟨trivial, trivial, trivial⟩
        · simp only [c, decide_false, ev, M_bind, M_map, M_some, M_ite, t_eq, a_tup, al_eq, List.getElem?_cons_zero, List.getElem?_cons_succ, Option.bind_some, Option.map_some, q_add, q_sub, q_lt, q_le, q_gt, q_ge, q_eqI, q_neI, q_eqB, q_neB, q_isN, q_notN, isNon, q_ixT, q_ixR, atI_0, atI_1, atI_2, atI_3, atI_4, atI_5, atI_6, atI_7, q_slT, q_slR, q_revT, q_seqT, q_int, q_intB, q_max, q_min, q_abs, q_tupT, n_tup, n_int, n_bl, n_non, n_str, isi_ii, isi_ib, isi_tt, isi_itl, isi_btl, isi_ttl, isi_tl, isi_bb, u_bl, u_int, u_non, u_tup, g_name, g_tup, g_nil, g_cons, o_ret, o_nx, i_seq, List.set_cons_zero, List.set_cons_succ, decide_eq_true_eq, Bool.not_eq_true', decide_eq_false_iff_not, evP, Bool.false_eq_true, if_true, if_false, ite_true, ite_false, reduceIte, Bool.not_true, Bool.not_false, Option.some.injEq, q_pow10, Int.reduceToNat, Int.reducePow, Int.reduceAdd, Int.reduceSub, Int.reduceMul, Int.reduceNeg, Int.reduceLT, Int.reduceLE, Nat.reducePow, Nat.reduceLT, Nat.reduceLeDiff, Nat.reduceAdd, List.length_cons, List.length_nil, Int.neg_neg]
          simp only [ex, ev, M_bind, M_map, M_some, M_ite, t_eq, a_tup, al_eq, List.getElem?_cons_zero, List.getElem?_cons_succ, Option.bind_some, Option.map_some, q_add, q_sub, q_lt, q_le, q_gt, q_ge, q_eqI, q_neI, q_eqB, q_neB, q_isN, q_notN, isNon, q_ixT, q_ixR, atI_0, atI_1, atI_2, atI_3, atI_4, atI_5, atI_6, atI_7, q_slT, q_slR, q_revT, q_seqT, q_int, q_intB, q_max, q_min, q_abs, q_tupT, n_tup, n_int, n_bl, n_non, n_str, isi_ii, isi_ib, isi_tt, isi_itl, isi_btl, isi_ttl, isi_tl, isi_bb, u_bl, u_int, u_non, u_tup, g_name, g_tup, g_nil, g_cons, o_ret, o_nx, i_seq, List.set_cons_zero, List.set_cons_succ, decide_eq_true_eq, Bool.not_eq_true', decide_eq_false_iff_not, evP, Bool.false_eq_true, if_true, if_false, ite_true, ite_false, reduceIte, Bool.not_true, Bool.not_false, Option.some.injEq, q_pow10, Int.reduceToNat, Int.reducePow, Int.reduceAdd, Int.reduceSub, Int.reduceMul, Int.reduceNeg, Int.reduceLT, Int.reduceLE, Nat.reducePow, Nat.reduceLT, Nat.reduceLeDiff, Nat.reduceAdd, List.length_cons, List.length_nil, Int.neg_neg]
          exact ⟨trivial, trivial, trivial⟩
      rintro env6 _ ⟨rfl, e6⟩
      rw [e6]
      subst hE
      refine seq_M (fun env S6 => S5 = S6 ∧ env = [some (zoneD os sp), some (D.tup [.int off, .tup (js.map jumpD)]), some (.tup (os.map .int)), some (.int sp), some (.int j.2), some (.ref S2.length), some (.tup [.int j.1, .int j.2])]) ?_ ?_
      · simp only [ex, ev, M_bind, M_map, M_some, M_ite, t_eq, a_tup, al_eq, List.getElem?_cons_zero, List.getElem?_cons_succ, Option.bind_some, Option.map_some, q_add, q_sub, q_lt, q_le, q_gt, q_ge, q_eqI, q_neI, q_eqB, q_neB, q_isN, q_notN, isNon, q_ixT, q_ixR, atI_0, atI_1, atI_2, atI_3, atI_4, atI_5, atI_6, atI_7, q_slT, q_slR, q_revT, q_seqT, q_int, q_intB, q_max, q_min, q_abs, q_tupT, n_tup, n_int, n_bl, n_non, n_str, isi_ii, isi_ib, isi_tt, isi_itl, isi_btl, isi_ttl, isi_tl, isi_bb, u_bl, u_int, u_non, u_tup, g_name, g_tup, g_nil, g_cons, o_ret, o_nx, i_seq, List.set_cons_zero, List.set_cons_succ, decide_eq_true_eq, Bool.not_eq_true', decide_eq_false_iff_not, evP, Bool.false_eq_true, if_true, if_false, ite_true, ite_false, reduceIte, Bool.not_true, Bool.not_false, Option.some.injEq, q_pow10, Int.reduceToNat, Int.reducePow, Int.reduceAdd, Int.reduceSub, Int.reduceMul, Int.reduceNeg, Int.reduceLT, Int.reduceLE, Nat.reducePow, Nat.reduceLT, Nat.reduceLeDiff, Nat.reduceAdd, List.length_cons, List.length_nil, Int.neg_neg]
        exact ⟨trivial, trivial, trivial⟩
      rintro _ _ ⟨rfl, rfl⟩
      simp only [ex, ev, M_bind, M_map, M_some, M_ite, t_eq, a_tup, al_eq, List.getElem?_cons_zero, List.getElem?_cons_succ, Option.bind_some, Option.map_some, q_add, q_sub, q_lt, q_le, q_gt, q_ge, q_eqI, q_neI, q_eqB, q_neB, q_isN, q_notN, isNon, q_ixT, q_ixR, atI_0, atI_1, atI_2, atI_3, atI_4, atI_5, atI_6, atI_7, q_slT, q_slR, q_revT, q_seqT, q_int, q_intB, q_max, q_min, q_abs, q_tupT, n_tup, n_int, n_bl, n_non, n_str, isi_ii, isi_ib, isi_tt, isi_itl, isi_btl, isi_ttl, isi_tl, isi_bb, u_bl, u_int, u_non, u_tup, g_name, g_tup, g_nil, g_cons, o_ret, o_nx, i_seq, List.set_cons_zero, List.set_cons_succ, decide_eq_true_eq, Bool.not_eq_true', decide_eq_false_iff_not, evP, Bool.false_eq_true, if_true, if_false, ite_true, ite_false, reduceIte, Bool.not_true, Bool.not_false, Option.some.injEq, q_pow10, Int.reduceToNat, Int.reducePow, Int.reduceAdd, Int.reduceSub, Int.reduceMul, Int.reduceNeg, Int.reduceLT, Int.reduceLE, Nat.reducePow, Nat.reduceLT, Nat.reduceLeDiff, Nat.reduceAdd, List.length_cons, List.length_nil, Int.neg_neg, q_isL g5]
      rw [q_app g5 (by rw [List.length_map, List.length_map, List.length_take]; omega)]
      simp only [M_some]
      obtain ⟨f1, f2⟩ := fin S5 l5
      exact ⟨trivial, f1, j.2, _, f2, by rw [List.getElem?_map, hj]; rfl, rfl⟩
    · rintro env S3 ⟨l3, _⟩
      exact ⟨rfl, l2.trans l3⟩
  rintro env S3 l3
  simp only [ex, ev, M_bind, M_map, M_some, M_ite, t_eq, a_tup, al_eq, List.getElem?_cons_zero, List.getElem?_cons_succ, Option.bind_some, Option.map_some, q_add, q_sub, q_lt, q_le, q_gt, q_ge, q_eqI, q_neI, q_eqB, q_neB, q_isN, q_notN, isNon, q_ixT, q_ixR, atI_0, atI_1, atI_2, atI_3, atI_4, atI_5, atI_6, atI_7, q_slT, q_slR, q_revT, q_seqT, q_int, q_intB, q_max, q_min, q_abs, q_tupT, n_tup, n_int, n_bl, n_non, n_str, isi_ii, isi_ib, isi_tt, isi_itl, isi_btl, isi_ttl, isi_tl, isi_bb, u_bl, u_int, u_non, u_tup, g_name, g_tup, g_nil, g_cons, o_ret, o_nx, i_seq, List.set_cons_zero, List.set_cons_succ, decide_eq_true_eq, Bool.not_eq_true', decide_eq_false_iff_not, evP, Bool.false_eq_true, if_true, if_false, ite_true, ite_false, reduceIte, Bool.not_true, Bool.not_false, Option.some.injEq, q_pow10, Int.reduceToNat, Int.reducePow, Int.reduceAdd, Int.reduceSub, Int.reduceMul, Int.reduceNeg, Int.reduceLT, Int.reduceLE, Nat.reducePow, Nat.reduceLT, Nat.reduceLeDiff, Nat.reduceAdd, List.length_cons, List.length_nil, Int.neg_neg]
  exact ⟨trivial, l3⟩
end Lw

namespace Lw
open PySem L2 Ix
theorem early_chart_ok {n : Nat} {S : Hd} {os : List Int} {sp : Int} {ls : List (Int × Int)} (hz : Zone os sp) (hl : ls.length ≤ 900) : Pu (run T (n + 1) 47 [zoneD os sp, lookD ls] S) (chartD (offE os ls) (jumpsE sp ls)) S := by
  have hm := most_big
  refine Pu.run T_early_chart rfl ?_
  show M (ex (run T n) b_early_chart [some (zoneD os sp), some (lookD ls), none, none, none] S) _
  unfold b_early_chart
  have ez : ∀ S2, ixD (zoneD os sp) (.int 1) S2 = some (.int sp, S2) := fun _ => rfl
  have ez0 : ∀ S2, ixD (zoneD os sp) (.int 0) S2 = some (.tup (os.map .int), S2) := fun _ => rfl
  have el : ∀ S2 (i : Int), 0 ≤ i → i < ls.length → ixD (lookD ls) (.int i) S2 = some (.tup [.int (atL ls i.toNat).1, .int (atL ls i.toNat).2], S2) := fun S2 i h0 h1 => by
    unfold lookD
    rw [q_ixT, atI_look h0 h1]
    rfl
  have sl : ∀ S2, seqOf S2 (lookD ls) = some (ls.map jumpD) := fun _ => rfl
  refine seq_M (fun env S1 => S1 = S ++ [.lst []] ∧ env = [some (zoneD os sp), some (lookD ls), some (.ref S.length), none, none]) ?_ ?_
  · simp only [ex, ev, M_bind, M_map, M_some, M_ite, t_eq, a_tup, al_eq, List.getElem?_cons_zero, List.getElem?_cons_succ, Option.bind_some, Option.map_some, q_add, q_sub, q_lt, q_le, q_gt, q_ge, q_eqI, q_neI, q_eqB, q_neB, q_isN, q_notN, isNon, q_ixT, q_ixR, atI_0, atI_1, atI_2, atI_3, atI_4, atI_5, atI_6, atI_7, q_slT, q_slR, q_revT, q_seqT, q_int, q_intB, q_max, q_min, q_abs, q_tupT, n_tup, n_int, n_bl, n_non, n_str, isi_ii, isi_ib, isi_tt, isi_itl, isi_btl, isi_ttl, isi_tl, isi_bb, u_bl, u_int, u_non, u_tup, g_name, g_tup, g_nil, g_cons, o_ret, o_nx, i_seq, List.set_cons_zero, List.set_cons_succ, decide_eq_true_eq, Bool.not_eq_true', decide_eq_false_iff_not, evP, Bool.false_eq_true, if_true, if_false, ite_true, ite_false, reduceIte, Bool.not_true, Bool.not_false, Option.some.injEq, q_pow10, Int.reduceToNat, Int.reducePow, Int.reduceAdd, Int.reduceSub, Int.reduceMul, Int.reduceNeg, Int.reduceLT, Int.reduceLE, Nat.reducePow, Nat.reduceLT, Nat.reduceLeDiff, Nat.reduceAdd, List.length_cons, List.length_nil, Int.neg_neg, show (0 : Nat) ≤ most by decide]
    exact ⟨trivial, trivial, trivial⟩
  rintro _ _ ⟨rfl, rfl⟩
  refine seq_M (fun env S1 => ∃ v3 v4 : Option D, S1[S.length]? = some (.lst ((jumpsE sp ls).map jumpD)) ∧ Lq S S1 ∧ env = [some (zoneD os sp), some (lookD ls), some (.ref S.length), v3, v4]) ?_ ?_
  · refine for_M ?_
    simp only [ev, M_bind, M_map, M_some, M_ite, t_eq, a_tup, al_eq, List.getElem?_cons_zero, List.getElem?_cons_succ, Option.bind_some, Option.map_some, q_add, q_sub, q_lt, q_le, q_gt, q_ge, q_eqI, q_neI, q_eqB, q_neB, q_isN, q_notN, isNon, q_ixT, q_ixR, atI_0, atI_1, atI_2, atI_3, atI_4, atI_5, atI_6, atI_7, q_slT, q_slR, q_revT, q_seqT, q_int, q_intB, q_max, q_min, q_abs, q_tupT, n_tup, n_int, n_bl, n_non, n_str, isi_ii, isi_ib, isi_tt, isi_itl, isi_btl, isi_ttl, isi_tl, isi_bb, u_bl, u_int, u_non, u_tup, g_name, g_tup, g_nil, g_cons, o_ret, o_nx, i_seq, List.set_cons_zero, List.set_cons_succ, decide_eq_true_eq, Bool.not_eq_true', decide_eq_false_iff_not, evP, Bool.false_eq_true, if_true, if_false, ite_true, ite_false, reduceIte, Bool.not_true, Bool.not_false, Option.some.injEq, q_pow10, Int.reduceToNat, Int.reducePow, Int.reduceAdd, Int.reduceSub, Int.reduceMul, Int.reduceNeg, Int.reduceLT, Int.reduceLE, Nat.reducePow, Nat.reduceLT, Nat.reduceLeDiff, Nat.reduceAdd, List.length_cons, List.length_nil, Int.neg_neg, q_len (sl _), List.length_map]
    have ir : ∀ S2, items .range2 [.int 1, .int (ls.length : Int)] S2 = some ((List.range ((ls.length : Int) - 1).toNat).map fun (i : Nat) => .int (1 + (i : Int))) := fun S2 => i_rng2 (by decide) (by decide) (by omega) (by omega)
    refine ⟨_, _, rfl, ir _, ?_⟩
    refine M_loopS (m := 0) (fun i env S1 => ∃ v3 v4 : Option D, S1[S.length]? = some (.lst ((eaJ sp ls i).map jumpD)) ∧ Lq S S1 ∧ env = [some (zoneD os sp), some (lookD ls), some (.ref S.length), v3, v4]) ⟨none, none, get_new, Lq.app _ _, rfl⟩ ?_ ?_
    · rintro i d env S1 hi ⟨v3, v4, g, l, rfl⟩
      obtain ⟨im, rfl⟩ := rng_get hi
      have im : i + 1 < ls.length := by omega
      simp only [Nat.zero_add] at g ⊢
      simp only [asgG, Option.bind_some, List.set_cons_succ, List.set_cons_zero]
      rw [eaJ_succ]
      have e1 := el S1 (1 + (i : Int)) (by omega) (by omega)
      have e2 := el S1 (1 + (i : Int) - 1) (by omega) (by omega)
      rw [show (1 + (i : Int)).toNat = i + 1 by omega] at e1
      rw [show (1 + (i : Int) - 1).toNat = i by omega] at e2
      refine ite_M ?_
      simp only [ev, M_bind, M_map, M_some, M_ite, t_eq, a_tup, al_eq, List.getElem?_cons_zero, List.getElem?_cons_succ, Option.bind_some, Option.map_some, q_add, q_sub, q_lt, q_le, q_gt, q_ge, q_eqI, q_neI, q_eqB, q_neB, q_isN, q_notN, isNon, q_ixT, q_ixR, atI_0, atI_1, atI_2, atI_3, atI_4, atI_5, atI_6, atI_7, q_slT, q_slR, q_revT, q_seqT, q_int, q_intB, q_max, q_min, q_abs, q_tupT, n_tup, n_int, n_bl, n_non, n_str, isi_ii, isi_ib, isi_tt, isi_itl, isi_btl, isi_ttl, isi_tl, isi_bb, u_bl, u_int, u_non, u_tup, g_name, g_tup, g_nil, g_cons, o_ret, o_nx, i_seq, List.set_cons_zero, List.set_cons_succ, decide_eq_true_eq, Bool.not_eq_true', decide_eq_false_iff_not, evP, Bool.false_eq_true, if_true, if_false, ite_true, ite_false, reduceIte, Bool.not_true, Bool.not_false, Option.some.injEq, q_pow10, Int.reduceToNat, Int.reducePow, Int.reduceAdd, Int.reduceSub, Int.reduceMul, Int.reduceNeg, Int.reduceLT, Int.reduceLE, Nat.reducePow, Nat.reduceLT, Nat.reduceLeDiff, Nat.reduceAdd, List.length_cons, List.length_nil, Int.neg_neg, e1, e2]
      by_cases c : (atL ls (i + 1)).2 = (atL ls i).2
      · simp only [c, decide_true, Bool.not_true, Bool.false_eq_true, if_false, if_true]
        simp only [ex, ev, M_bind, M_map, M_some, M_ite, t_eq, a_tup, al_eq, List.getElem?_cons_zero, List.getElem?_cons_succ, Option.bind_some, Option.map_some, q_add, q_sub, q_lt, q_le, q_gt, q_ge, q_eqI, q_neI, q_eqB, q_neB, q_isN, q_notN, isNon, q_ixT, q_ixR, atI_0, atI_1, atI_2, atI_3, atI_4, atI_5, atI_6, atI_7, q_slT, q_slR, q_revT, q_seqT, q_int, q_intB, q_max, q_min, q_abs, q_tupT, n_tup, n_int, n_bl, n_non, n_str, isi_ii, isi_ib, isi_tt, isi_itl, isi_btl, isi_ttl, isi_tl, isi_bb, u_bl, u_int, u_non, u_tup, g_name, g_tup, g_nil, g_cons, o_ret, o_nx, i_seq, List.set_cons_zero, List.set_cons_succ, decide_eq_true_eq, Bool.not_eq_true', decide_eq_false_iff_not, evP, Bool.false_eq_true, if_true, if_false, ite_true, ite_false, reduceIte, Bool.not_true, Bool.not_false, Option.some.injEq, q_pow10, Int.reduceToNat, Int.reducePow, Int.reduceAdd, Int.reduceSub, Int.reduceMul, Int.reduceNeg, Int.reduceLT, Int.reduceLE, Nat.reducePow, Nat.reduceLT, Nat.reduceLeDiff, Nat.reduceAdd, List.length_cons, List.length_nil, Int.neg_neg]
        exact ⟨ir _, _, _, g, l, rfl⟩
      · simp only [c, decide_false, Bool.not_false, if_true, if_false]
        have he := eaJ_len (sp := sp) (ls := ls) i
        generalize hjs : eaJ sp ls i = js at g he ⊢
        refine seq_M (fun env S2 => S1 = S2 ∧ env = [some (zoneD os sp), some (lookD ls), some (.ref S.length), some (.int (1 + (i : Int))), some (.int ((atL ls i).1 + 1))]) ?_ ?_
        · simp only [ex, ev, M_bind, M_map, M_some, M_ite, t_eq, a_tup, al_eq, List.getElem?_cons_zero, List.getElem?_cons_succ, Option.bind_some, Option.map_some, q_add, q_sub, q_lt, q_le, q_gt, q_ge, q_eqI, q_neI, q_eqB, q_neB, q_isN, q_notN, isNon, q_ixT, q_ixR, atI_0, atI_1, atI_2, atI_3, atI_4, atI_5, atI_6, atI_7, q_slT, q_slR, q_revT, q_seqT, q_int, q_intB, q_max, q_min, q_abs, q_tupT, n_tup, n_int, n_bl, n_non, n_str, isi_ii, isi_ib, isi_tt, isi_itl, isi_btl, isi_ttl, isi_tl, isi_bb, u_bl, u_int, u_non, u_tup, g_name, g_tup, g_nil, g_cons, o_ret, o_nx, i_seq, List.set_cons_zero, List.set_cons_succ, decide_eq_true_eq, Bool.not_eq_true', decide_eq_false_iff_not, evP, Bool.false_eq_true, if_true, if_false, ite_true, ite_false, reduceIte, Bool.not_true, Bool.not_false, Option.some.injEq, q_pow10, Int.reduceToNat, Int.reducePow, Int.reduceAdd, Int.reduceSub, Int.reduceMul, Int.reduceNeg, Int.reduceLT, Int.reduceLE, Nat.reducePow, Nat.reduceLT, Nat.reduceLeDiff, Nat.reduceAdd, List.length_cons, List.length_nil, Int.neg_neg, e2]
          exact ⟨trivial, trivial, trivial⟩
        rintro _ _ ⟨rfl, rfl⟩
        refine seq_M (fun env S2 => S1 = S2 ∧ env = [some (zoneD os sp), some (lookD ls), some (.ref S.length), some (.int (1 + (i : Int))), some (.int (hourE sp js (atL ls i).1))]) ?_ ?_
        · refine ite_M ?_
          simp only [ev, M_bind, M_map, M_some, M_ite, t_eq, a_tup, al_eq, List.getElem?_cons_zero, List.getElem?_cons_succ, Option.bind_some, Option.map_some, q_add, q_sub, q_lt, q_le, q_gt, q_ge, q_eqI, q_neI, q_eqB, q_neB, q_isN, q_notN, isNon, q_ixT, q_ixR, atI_0, atI_1, atI_2, atI_3, atI_4, atI_5, atI_6, atI_7, q_slT, q_slR, q_revT, q_seqT, q_int, q_intB, q_max, q_min, q_abs, q_tupT, n_tup, n_int, n_bl, n_non, n_str, isi_ii, isi_ib, isi_tt, isi_itl, isi_btl, isi_ttl, isi_tl, isi_bb, u_bl, u_int, u_non, u_tup, g_name, g_tup, g_nil, g_cons, o_ret, o_nx, i_seq, List.set_cons_zero, List.set_cons_succ, decide_eq_true_eq, Bool.not_eq_true', decide_eq_false_iff_not, evP, Bool.false_eq_true, if_true, if_false, ite_true, ite_false, reduceIte, Bool.not_true, Bool.not_false, Option.some.injEq, q_pow10, Int.reduceToNat, Int.reducePow, Int.reduceAdd, Int.reduceSub, Int.reduceMul, Int.reduceNeg, Int.reduceLT, Int.reduceLE, Nat.reducePow, Nat.reduceLT, Nat.reduceLeDiff, Nat.reduceAdd, List.length_cons, List.length_nil, Int.neg_neg, q_len (q_seqL g), List.length_map]
          cases hj : js.getLast? with
          | none =>
            rw [List.getLast?_eq_none_iff] at hj
            subst hj
            simp only [List.length_nil, show ((0 : Int) < ((0 : Nat) : Int)) = False from eq_false (by decide), decide_false, Bool.false_eq_true, if_false]
            simp only [ex, ev, M_bind, M_map, M_some, M_ite, t_eq, a_tup, al_eq, List.getElem?_cons_zero, List.getElem?_cons_succ, Option.bind_some, Option.map_some, q_add, q_sub, q_lt, q_le, q_gt, q_ge, q_eqI, q_neI, q_eqB, q_neB, q_isN, q_notN, isNon, q_ixT, q_ixR, atI_0, atI_1, atI_2, atI_3, atI_4, atI_5, atI_6, atI_7, q_slT, q_slR, q_revT, q_seqT, q_int, q_intB, q_max, q_min, q_abs, q_tupT, n_tup, n_int, n_bl, n_non, n_str, isi_ii, isi_ib, isi_tt, isi_itl, isi_btl, isi_ttl, isi_tl, isi_bb, u_bl, u_int, u_non, u_tup, g_name, g_tup, g_nil, g_cons, o_ret, o_nx, i_seq, List.set_cons_zero, List.set_cons_succ, decide_eq_true_eq, Bool.not_eq_true', decide_eq_false_iff_not, evP, Bool.false_eq_true, if_true, if_false, ite_true, ite_false, reduceIte, Bool.not_true, Bool.not_false, Option.some.injEq, q_pow10, Int.reduceToNat, Int.reducePow, Int.reduceAdd, Int.reduceSub, Int.reduceMul, Int.reduceNeg, Int.reduceLT, Int.reduceLE, Nat.reducePow, Nat.reduceLT, Nat.reduceLeDiff, Nat.reduceAdd, List.length_cons, List.length_nil, Int.neg_neg]
            exact ⟨trivial, trivial, rfl⟩
          | some j =>
            have ne : ((0 : Int) < (js.length : Int)) = True := eq_true (by
              cases js with
              | nil => cases hj
              | cons a b => simp)
            simp only [ne, decide_true, if_true]
            simp only [ex, ev, M_bind, M_map, M_some, M_ite, t_eq, a_tup, al_eq, List.getElem?_cons_zero, List.getElem?_cons_succ, Option.bind_some, Option.map_some, q_add, q_sub, q_lt, q_le, q_gt, q_ge, q_eqI, q_neI, q_eqB, q_neB, q_isN, q_notN, isNon, q_ixT, q_ixR, atI_0, atI_1, atI_2, atI_3, atI_4, atI_5, atI_6, atI_7, q_slT, q_slR, q_revT, q_seqT, q_int, q_intB, q_max, q_min, q_abs, q_tupT, n_tup, n_int, n_bl, n_non, n_str, isi_ii, isi_ib, isi_tt, isi_itl, isi_btl, isi_ttl, isi_tl, isi_bb, u_bl, u_int, u_non, u_tup, g_name, g_tup, g_nil, g_cons, o_ret, o_nx, i_seq, List.set_cons_zero, List.set_cons_succ, decide_eq_true_eq, Bool.not_eq_true', decide_eq_false_iff_not, evP, Bool.false_eq_true, if_true, if_false, ite_true, ite_false, reduceIte, Bool.not_true, Bool.not_false, Option.some.injEq, q_pow10, Int.reduceToNat, Int.reducePow, Int.reduceAdd, Int.reduceSub, Int.reduceMul, Int.reduceNeg, Int.reduceLT, Int.reduceLE, Nat.reducePow, Nat.reduceLT, Nat.reduceLeDiff, Nat.reduceAdd, List.length_cons, List.length_nil, Int.neg_neg, q_ixL g, atI_lastJ hj, ez]
            refine ⟨trivial, trivial, ?_⟩
            unfold hourE
            rw [hj]
        rintro _ _ ⟨rfl, rfl⟩
        simp only [ex, ev, M_bind, M_map, M_some, M_ite, t_eq, a_tup, al_eq, List.getElem?_cons_zero, List.getElem?_cons_succ, Option.bind_some, Option.map_some, q_add, q_sub, q_lt, q_le, q_gt, q_ge, q_eqI, q_neI, q_eqB, q_neB, q_isN, q_notN, isNon, q_ixT, q_ixR, atI_0, atI_1, atI_2, atI_3, atI_4, atI_5, atI_6, atI_7, q_slT, q_slR, q_revT, q_seqT, q_int, q_intB, q_max, q_min, q_abs, q_tupT, n_tup, n_int, n_bl, n_non, n_str, isi_ii, isi_ib, isi_tt, isi_itl, isi_btl, isi_ttl, isi_tl, isi_bb, u_bl, u_int, u_non, u_tup, g_name, g_tup, g_nil, g_cons, o_ret, o_nx, i_seq, List.set_cons_zero, List.set_cons_succ, decide_eq_true_eq, Bool.not_eq_true', decide_eq_false_iff_not, evP, Bool.false_eq_true, if_true, if_false, ite_true, ite_false, reduceIte, Bool.not_true, Bool.not_false, Option.some.injEq, q_pow10, Int.reduceToNat, Int.reducePow, Int.reduceAdd, Int.reduceSub, Int.reduceMul, Int.reduceNeg, Int.reduceLT, Int.reduceLE, Nat.reducePow, Nat.reduceLT, Nat.reduceLeDiff, Nat.reduceAdd, List.length_cons, List.length_nil, Int.neg_neg, q_isL g, e1, show (2 : Nat) ≤ most by decide]
        rw [q_app g (by rw [List.length_map]; omega)]
        simp only [M_some]
        refine ⟨ir _, _, _, ?_, Lq.set l (Nat.le_refl _), rfl⟩
        rw [List.getElem?_set_self (lt_of_get g), List.map_append]
        rfl
    · rintro env S1 ⟨v3, v4, g, l, rfl⟩
      refine ⟨rfl, _, _, ?_, l, rfl⟩
      rw [g]
      unfold jumpsE
      congr 4
      simp
  rintro _ S1 ⟨v3, v4, g, l, rfl⟩
  by_cases h : ls = []
  · subst h
    refine seq_Mx (ite_M ?_)
    simp only [ev, M_bind, M_map, M_some, M_ite, t_eq, a_tup, al_eq, List.getElem?_cons_zero, List.getElem?_cons_succ, Option.bind_some, Option.map_some, q_add, q_sub, q_lt, q_le, q_gt, q_ge, q_eqI, q_neI, q_eqB, q_neB, q_isN, q_notN, isNon, q_ixT, q_ixR, atI_0, atI_1, atI_2, atI_3, atI_4, atI_5, atI_6, atI_7, q_slT, q_slR, q_revT, q_seqT, q_int, q_intB, q_max, q_min, q_abs, q_tupT, n_tup, n_int, n_bl, n_non, n_str, isi_ii, isi_ib, isi_tt, isi_itl, isi_btl, isi_ttl, isi_tl, isi_bb, u_bl, u_int, u_non, u_tup, g_name, g_tup, g_nil, g_cons, o_ret, o_nx, i_seq, List.set_cons_zero, List.set_cons_succ, decide_eq_true_eq, Bool.not_eq_true', decide_eq_false_iff_not, evP, Bool.false_eq_true, if_true, if_false, ite_true, ite_false, reduceIte, Bool.not_true, Bool.not_false, Option.some.injEq, q_pow10, Int.reduceToNat, Int.reducePow, Int.reduceAdd, Int.reduceSub, Int.reduceMul, Int.reduceNeg, Int.reduceLT, Int.reduceLE, Nat.reducePow, Nat.reduceLT, Nat.reduceLeDiff, Nat.reduceAdd, List.length_cons, List.length_nil, Int.neg_neg, q_len (sl _), List.map_nil, List.length_nil, show (((0 : Nat) : Int) = 0) = True from eq_true rfl, decide_true]
    simp only [ex, ev, M_bind, M_map, M_some, M_ite, t_eq, a_tup, al_eq, List.getElem?_cons_zero, List.getElem?_cons_succ, Option.bind_some, Option.map_some, q_add, q_sub, q_lt, q_le, q_gt, q_ge, q_eqI, q_neI, q_eqB, q_neB, q_isN, q_notN, isNon, q_ixT, q_ixR, atI_0, atI_1, atI_2, atI_3, atI_4, atI_5, atI_6, atI_7, q_slT, q_slR, q_revT, q_seqT, q_int, q_intB, q_max, q_min, q_abs, q_tupT, n_tup, n_int, n_bl, n_non, n_str, isi_ii, isi_ib, isi_tt, isi_itl, isi_btl, isi_ttl, isi_tl, isi_bb, u_bl, u_int, u_non, u_tup, g_name, g_tup, g_nil, g_cons, o_ret, o_nx, i_seq, List.set_cons_zero, List.set_cons_succ, decide_eq_true_eq, Bool.not_eq_true', decide_eq_false_iff_not, evP, Bool.false_eq_true, if_true, if_false, ite_true, ite_false, reduceIte, Bool.not_true, Bool.not_false, Option.some.injEq, q_pow10, Int.reduceToNat, Int.reducePow, Int.reduceAdd, Int.reduceSub, Int.reduceMul, Int.reduceNeg, Int.reduceLT, Int.reduceLE, Nat.reducePow, Nat.reduceLT, Nat.reduceLeDiff, Nat.reduceAdd, List.length_cons, List.length_nil, Int.neg_neg, ez0, (offE_0 hz.len1).1, show (2 : Nat) ≤ most by decide, show (0 : Nat) ≤ most by decide]
    exact ⟨rfl, l⟩
  · have hp : 0 < ls.length := List.length_pos_iff.mpr h
    refine seq_M (fun env S2 => S1 = S2 ∧ env = [some (zoneD os sp), some (lookD ls), some (.ref S.length), v3, v4]) ?_ ?_
    · refine ite_M ?_
      simp only [ev, M_bind, M_map, M_some, M_ite, t_eq, a_tup, al_eq, List.getElem?_cons_zero, List.getElem?_cons_succ, Option.bind_some, Option.map_some, q_add, q_sub, q_lt, q_le, q_gt, q_ge, q_eqI, q_neI, q_eqB, q_neB, q_isN, q_notN, isNon, q_ixT, q_ixR, atI_0, atI_1, atI_2, atI_3, atI_4, atI_5, atI_6, atI_7, q_slT, q_slR, q_revT, q_seqT, q_int, q_intB, q_max, q_min, q_abs, q_tupT, n_tup, n_int, n_bl, n_non, n_str, isi_ii, isi_ib, isi_tt, isi_itl, isi_btl, isi_ttl, isi_tl, isi_bb, u_bl, u_int, u_non, u_tup, g_name, g_tup, g_nil, g_cons, o_ret, o_nx, i_seq, List.set_cons_zero, List.set_cons_succ, decide_eq_true_eq, Bool.not_eq_true', decide_eq_false_iff_not, evP, Bool.false_eq_true, if_true, if_false, ite_true, ite_false, reduceIte, Bool.not_true, Bool.not_false, Option.some.injEq, q_pow10, Int.reduceToNat, Int.reducePow, Int.reduceAdd, Int.reduceSub, Int.reduceMul, Int.reduceNeg, Int.reduceLT, Int.reduceLE, Nat.reducePow, Nat.reduceLT, Nat.reduceLeDiff, Nat.reduceAdd, List.length_cons, List.length_nil, Int.neg_neg, q_len (sl _), List.length_map, show ((ls.length : Int) = 0) = False from eq_false (by omega), decide_false]
      simp only [ex, ev, M_bind, M_map, M_some, M_ite, t_eq, a_tup, al_eq, List.getElem?_cons_zero, List.getElem?_cons_succ, Option.bind_some, Option.map_some, q_add, q_sub, q_lt, q_le, q_gt, q_ge, q_eqI, q_neI, q_eqB, q_neB, q_isN, q_notN, isNon, q_ixT, q_ixR, atI_0, atI_1, atI_2, atI_3, atI_4, atI_5, atI_6, atI_7, q_slT, q_slR, q_revT, q_seqT, q_int, q_intB, q_max, q_min, q_abs, q_tupT, n_tup, n_int, n_bl, n_non, n_str, isi_ii, isi_ib, isi_tt, isi_itl, isi_btl, isi_ttl, isi_tl, isi_bb, u_bl, u_int, u_non, u_tup, g_name, g_tup, g_nil, g_cons, o_ret, o_nx, i_seq, List.set_cons_zero, List.set_cons_succ, decide_eq_true_eq, Bool.not_eq_true', decide_eq_false_iff_not, evP, Bool.false_eq_true, if_true, if_false, ite_true, ite_false, reduceIte, Bool.not_true, Bool.not_false, Option.some.injEq, q_pow10, Int.reduceToNat, Int.reducePow, Int.reduceAdd, Int.reduceSub, Int.reduceMul, Int.reduceNeg, Int.reduceLT, Int.reduceLE, Nat.reducePow, Nat.reduceLT, Nat.reduceLeDiff, Nat.reduceAdd, List.length_cons, List.length_nil, Int.neg_neg]
      exact ⟨trivial, trivial, trivial⟩
    rintro _ _ ⟨rfl, rfl⟩
    have e0 := el S1 0 (by omega) (by omega)
    simp only [ex, ev, M_bind, M_map, M_some, M_ite, t_eq, a_tup, al_eq, List.getElem?_cons_zero, List.getElem?_cons_succ, Option.bind_some, Option.map_some, q_add, q_sub, q_lt, q_le, q_gt, q_ge, q_eqI, q_neI, q_eqB, q_neB, q_isN, q_notN, isNon, q_ixT, q_ixR, atI_0, atI_1, atI_2, atI_3, atI_4, atI_5, atI_6, atI_7, q_slT, q_slR, q_revT, q_seqT, q_int, q_intB, q_max, q_min, q_abs, q_tupT, n_tup, n_int, n_bl, n_non, n_str, isi_ii, isi_ib, isi_tt, isi_itl, isi_btl, isi_ttl, isi_tl, isi_bb, u_bl, u_int, u_non, u_tup, g_name, g_tup, g_nil, g_cons, o_ret, o_nx, i_seq, List.set_cons_zero, List.set_cons_succ, decide_eq_true_eq, Bool.not_eq_true', decide_eq_false_iff_not, evP, Bool.false_eq_true, if_true, if_false, ite_true, ite_false, reduceIte, Bool.not_true, Bool.not_false, Option.some.injEq, q_pow10, Int.reduceToNat, Int.reducePow, Int.reduceAdd, Int.reduceSub, Int.reduceMul, Int.reduceNeg, Int.reduceLT, Int.reduceLE, Nat.reducePow, Nat.reduceLT, Nat.reduceLeDiff, Nat.reduceAdd, List.length_cons, List.length_nil, Int.neg_neg, e0, q_tupL g, show (2 : Nat) ≤ most by decide]
    refine ⟨?_, l⟩
    unfold chartD offE
    rw [if_neg h]
theorem sa_ref : ∀ {n : Nat} {S : Hd} {x : D}, Sa n S x x → Sa n S x x := fun h => h
theorem sa_chart {S : Hd} {off : Int} {js : List (Int × Int)} (hl : js.length ≤ 1000) : Sa 4 S (chartD off js) (chartD off js) := by
  refine ⟨rfl, by simp, fun i x y h1 h2 => ?_⟩
  rw [h1] at h2
  cases h2
  match i, h1 with
  | 0, h1 => cases h1; rfl
  | 1, h1 =>
    cases h1
    refine ⟨rfl, by simpa using hl, fun i x y h1 h2 => ?_⟩
    rw [h1] at h2
    cases h2
    obtain ⟨j, _, _, rfl⟩ := map_get h1
    refine ⟨rfl, by simp, fun i x y h1 h2 => ?_⟩
    rw [h1] at h2
    cases h2
    match i, h1 with
    | 0, h1 => cases h1; rfl
    | 1, h1 => cases h1; rfl
    | i + 2, h1 => simp at h1
  | i + 2, h1 => simp at h1
end Lw

namespace Lw
open PySem L2 Ix
theorem law_cell {S0 : Hd} {ns : List Int} {z : Int} {v2 v3 v4 v5 v6 v7 v8 v9 v10 : Option D} :
    M (ex (run T 11) (match b_law_k12 with | .seq (.for_ _ _ _ b) _ => b | _ => .skip) [some (.ro ns), some (.int z), v2, v3, v4, v5, v6, v7, v8, v9, v10] S0) fun r => r.1 = .nx ∧ (∃ v2 v3 v4 v5 v6 v7 v8 v9 v10 : Option D, r.2.1 = [some (.ro ns), some (.int z), v2, v3, v4, v5, v6, v7, v8, v9, v10]) ∧ Lq S0 r.2.2 := by
  unfold b_law_k12
  refine seq_M (fun env S1 => ∃ p : Nat, env = [some (.ro ns), some (.int z), some (.ref p), v3, v4, v5, v6, v7, v8, v9, v10] ∧ S0.length ≤ p ∧ Pot p S1 ∧ Lq S0 S1) ?_ ?_
  · simp only [ex, ev, M_bind, M_map, M_some, M_ite, t_eq, a_tup, al_eq, List.getElem?_cons_zero, List.getElem?_cons_succ, Option.bind_some, Option.map_some, q_add, q_sub, q_lt, q_le, q_gt, q_ge, q_eqI, q_neI, q_eqB, q_neB, q_isN, q_notN, isNon, q_ixT, q_ixR, atI_0, atI_1, atI_2, atI_3, atI_4, atI_5, atI_6, atI_7, q_slT, q_slR, q_revT, q_seqT, q_int, q_intB, q_max, q_min, q_abs, q_tupT, n_tup, n_int, n_bl, n_non, n_str, isi_ii, isi_ib, isi_tt, isi_itl, isi_btl, isi_ttl, isi_tl, isi_bb, u_bl, u_int, u_non, u_tup, g_name, g_tup, g_nil, g_cons, o_ret, o_nx, i_seq, List.set_cons_zero, List.set_cons_succ, decide_eq_true_eq, Bool.not_eq_true', decide_eq_false_iff_not, evP, Bool.false_eq_true, if_true, if_false, ite_true, ite_false, reduceIte, Bool.not_true, Bool.not_false, Option.some.injEq, q_pow10, Int.reduceToNat, Int.reducePow, Int.reduceAdd, Int.reduceSub, Int.reduceMul, Int.reduceNeg, Int.reduceLT, Int.reduceLE, Nat.reducePow, Nat.reduceLT, Nat.reduceLeDiff, Nat.reduceAdd, List.length_cons, List.length_nil, Int.neg_neg]
    refine (digits_ok z).imp ?_
    rintro _ ⟨p, S1, rfl, e, p1, l1⟩
    exact ⟨trivial, p, rfl, by omega, p1, l1⟩
  rintro _ S1 ⟨p, rfl, hp, p1, l1⟩
  refine seq_M (fun env S2 => ∃ c : Nat, env = [some (.ro ns), some (.int z), some (.ref p), some (.ref c), v4, v5, v6, v7, v8, v9, v10] ∧ S0.length ≤ c ∧ c ≠ p ∧ S2[c]? = some (.lst []) ∧ Pot p S2 ∧ Lq S0 S2) ?_ ?_
  · simp only [ex, ev, M_bind, M_map, M_some, M_ite, t_eq, a_tup, al_eq, List.getElem?_cons_zero, List.getElem?_cons_succ, Option.bind_some, Option.map_some, q_add, q_sub, q_lt, q_le, q_gt, q_ge, q_eqI, q_neI, q_eqB, q_neB, q_isN, q_notN, isNon, q_ixT, q_ixR, atI_0, atI_1, atI_2, atI_3, atI_4, atI_5, atI_6, atI_7, q_slT, q_slR, q_revT, q_seqT, q_int, q_intB, q_max, q_min, q_abs, q_tupT, n_tup, n_int, n_bl, n_non, n_str, isi_ii, isi_ib, isi_tt, isi_itl, isi_btl, isi_ttl, isi_tl, isi_bb, u_bl, u_int, u_non, u_tup, g_name, g_tup, g_nil, g_cons, o_ret, o_nx, i_seq, List.set_cons_zero, List.set_cons_succ, decide_eq_true_eq, Bool.not_eq_true', decide_eq_false_iff_not, evP, Bool.false_eq_true, if_true, if_false, ite_true, ite_false, reduceIte, Bool.not_true, Bool.not_false, Option.some.injEq, q_pow10, Int.reduceToNat, Int.reducePow, Int.reduceAdd, Int.reduceSub, Int.reduceMul, Int.reduceNeg, Int.reduceLT, Int.reduceLE, Nat.reducePow, Nat.reduceLT, Nat.reduceLeDiff, Nat.reduceAdd, List.length_cons, List.length_nil, Int.neg_neg, show (0 : Nat) ≤ most by decide]
    have : S0.length ≤ S1.length := by
      have := p1.lt
      rcases Nat.lt_or_ge S1.length S0.length with h | h
      · have e := l1 S1.length _ (List.getElem?_eq_getElem h)
        have := lt_of_get e
        omega
      · exact h
    exact ⟨trivial, S1.length, rfl, this, p1.ne, get_new, p1.app _, l1.trans (Lq.app _ _)⟩
  rintro _ S2 ⟨c, rfl, hc, hcp, gc, p2, l2⟩
  refine seq_M (fun env S3 => ∃ (v4 v5 v6 : Option D) (ps : List Pk), env = [some (.ro ns), some (.int z), some (.ref p), some (.ref c), v4, v5, v6, v7, v8, v9, v10] ∧ S3[c]? = some (.lst (ps.map pairL)) ∧ (∀ x ∈ ps, GoodL x) ∧ Pot p S3 ∧ Lq S0 S3 ∧ ps.length ≤ 2) ?_ ?_
  · refine for_M ?_
    simp only [ev, Option.bind_some, argsOf, Option.map_some, M_some]
    refine ⟨_, _, rfl, i_rng (by decide) (by decide), ?_⟩
    refine M_loopS (m := 0) (fun i env S3 => ∃ (v4 v5 v6 : Option D) (ps : List Pk), env = [some (.ro ns), some (.int z), some (.ref p), some (.ref c), v4, v5, v6, v7, v8, v9, v10] ∧ S3[c]? = some (.lst (ps.map pairL)) ∧ (∀ x ∈ ps, GoodL x) ∧ ps.length = i ∧ Pot p S3 ∧ Lq S0 S3) ⟨v4, v5, v6, [], rfl, gc, by simp, rfl, p2, l2⟩ ?_ ?_
    · rintro i d env S3 hi ⟨v4, v5, v6, ps, rfl, gc, hg, hl, p3, l3⟩
      obtain ⟨im, rfl⟩ := rng_get hi
      have im : i < 2 := im
      simp only [asgG, Option.bind_some, List.set_cons_succ, List.set_cons_zero]
      refine seq_M (fun env S4 => ∃ (os : List Int) (sp : Int), env = [some (.ro ns), some (.int z), some (.ref p), some (.ref c), some (.int (0 + (i : Int))), some (zoneD os sp), v6, v7, v8, v9, v10] ∧ Zone os sp ∧ Pot p S4 ∧ Le p S3 S4) ?_ ?_
      · simp only [ex, ev, M_bind, M_map, M_some, M_ite, t_eq, a_tup, al_eq, List.getElem?_cons_zero, List.getElem?_cons_succ, Option.bind_some, Option.map_some, q_add, q_sub, q_lt, q_le, q_gt, q_ge, q_eqI, q_neI, q_eqB, q_neB, q_isN, q_notN, isNon, q_ixT, q_ixR, atI_0, atI_1, atI_2, atI_3, atI_4, atI_5, atI_6, atI_7, q_slT, q_slR, q_revT, q_seqT, q_int, q_intB, q_max, q_min, q_abs, q_tupT, n_tup, n_int, n_bl, n_non, n_str, isi_ii, isi_ib, isi_tt, isi_itl, isi_btl, isi_ttl, isi_tl, isi_bb, u_bl, u_int, u_non, u_tup, g_name, g_tup, g_nil, g_cons, o_ret, o_nx, i_seq, List.set_cons_zero, List.set_cons_succ, decide_eq_true_eq, Bool.not_eq_true', decide_eq_false_iff_not, evP, Bool.false_eq_true, if_true, if_false, ite_true, ite_false, reduceIte, Bool.not_true, Bool.not_false, Option.some.injEq, q_pow10, Int.reduceToNat, Int.reducePow, Int.reduceAdd, Int.reduceSub, Int.reduceMul, Int.reduceNeg, Int.reduceLT, Int.reduceLE, Nat.reducePow, Nat.reduceLT, Nat.reduceLeDiff, Nat.reduceAdd, List.length_cons, List.length_nil, Int.neg_neg]
        refine (make_region_ok p3).imp ?_
        rintro _ ⟨os, sp, S4, rfl, hz, p4, l4⟩
        exact ⟨trivial, os, sp, rfl, hz, p4, l4⟩
      rintro _ S4 ⟨os, sp, rfl, hz, p4, l4⟩
      refine seq_M (fun env S5 => ∃ ls : List (Int × Int), env = [some (.ro ns), some (.int z), some (.ref p), some (.ref c), some (.int (0 + (i : Int))), some (zoneD os sp), some (lookD ls), v7, v8, v9, v10] ∧ Looks os ls ∧ ls.length ≤ 60 ∧ Pot p S5 ∧ Le p S3 S5) ?_ ?_
      · simp only [ex, ev, M_bind, M_map, M_some, M_ite, t_eq, a_tup, al_eq, List.getElem?_cons_zero, List.getElem?_cons_succ, Option.bind_some, Option.map_some, q_add, q_sub, q_lt, q_le, q_gt, q_ge, q_eqI, q_neI, q_eqB, q_neB, q_isN, q_notN, isNon, q_ixT, q_ixR, atI_0, atI_1, atI_2, atI_3, atI_4, atI_5, atI_6, atI_7, q_slT, q_slR, q_revT, q_seqT, q_int, q_intB, q_max, q_min, q_abs, q_tupT, n_tup, n_int, n_bl, n_non, n_str, isi_ii, isi_ib, isi_tt, isi_itl, isi_btl, isi_ttl, isi_tl, isi_bb, u_bl, u_int, u_non, u_tup, g_name, g_tup, g_nil, g_cons, o_ret, o_nx, i_seq, List.set_cons_zero, List.set_cons_succ, decide_eq_true_eq, Bool.not_eq_true', decide_eq_false_iff_not, evP, Bool.false_eq_true, if_true, if_false, ite_true, ite_false, reduceIte, Bool.not_true, Bool.not_false, Option.some.injEq, q_pow10, Int.reduceToNat, Int.reducePow, Int.reduceAdd, Int.reduceSub, Int.reduceMul, Int.reduceNeg, Int.reduceLT, Int.reduceLE, Nat.reducePow, Nat.reduceLT, Nat.reduceLeDiff, Nat.reduceAdd, List.length_cons, List.length_nil, Int.neg_neg, show (8 : Nat) ≤ most by decide]
        refine (draw_ok (p4.app _) (by decide) (by decide)).imp ?_
        rintro _ ⟨y, S5, rfl, y0, y1, p5, l5⟩
        obtain ⟨u, _, hu, hv⟩ := atI_ints (ns := [4, 9, 9, 60, 4, 9, 9, 20]) y0 y1
        simp only [List.map] at hv
        simp only [ex, ev, M_bind, M_map, M_some, M_ite, t_eq, a_tup, al_eq, List.getElem?_cons_zero, List.getElem?_cons_succ, Option.bind_some, Option.map_some, q_add, q_sub, q_lt, q_le, q_gt, q_ge, q_eqI, q_neI, q_eqB, q_neB, q_isN, q_notN, isNon, q_ixT, q_ixR, atI_0, atI_1, atI_2, atI_3, atI_4, atI_5, atI_6, atI_7, q_slT, q_slR, q_revT, q_seqT, q_int, q_intB, q_max, q_min, q_abs, q_tupT, n_tup, n_int, n_bl, n_non, n_str, isi_ii, isi_ib, isi_tt, isi_itl, isi_btl, isi_ttl, isi_tl, isi_bb, u_bl, u_int, u_non, u_tup, g_name, g_tup, g_nil, g_cons, o_ret, o_nx, i_seq, List.set_cons_zero, List.set_cons_succ, decide_eq_true_eq, Bool.not_eq_true', decide_eq_false_iff_not, evP, Bool.false_eq_true, if_true, if_false, ite_true, ite_false, reduceIte, Bool.not_true, Bool.not_false, Option.some.injEq, q_pow10, Int.reduceToNat, Int.reducePow, Int.reduceAdd, Int.reduceSub, Int.reduceMul, Int.reduceNeg, Int.reduceLT, Int.reduceLE, Nat.reducePow, Nat.reduceLT, Nat.reduceLeDiff, Nat.reduceAdd, List.length_cons, List.length_nil, Int.neg_neg, q_ixL (l5.at p4.ne get_new), hv]
        simp only [List.mem_cons, List.not_mem_nil, or_false] at hu
        refine (some_sights_ok p5 hz (u := u) (by omega) (by omega)).imp ?_
        rintro _ ⟨ls, S6, rfl, hch, hj, p6, l6⟩
        exact ⟨trivial, ls, rfl, hch, by omega, p6, ((l4.trans (Le.app _ _ _)).trans l5).trans l6⟩
      rintro _ S5 ⟨ls, rfl, hch, hj, p5, l5⟩
      have g5 := l5.at hcp gc
      simp only [ex, ev, M_bind, M_map, M_some, M_ite, t_eq, a_tup, al_eq, List.getElem?_cons_zero, List.getElem?_cons_succ, Option.bind_some, Option.map_some, q_add, q_sub, q_lt, q_le, q_gt, q_ge, q_eqI, q_neI, q_eqB, q_neB, q_isN, q_notN, isNon, q_ixT, q_ixR, atI_0, atI_1, atI_2, atI_3, atI_4, atI_5, atI_6, atI_7, q_slT, q_slR, q_revT, q_seqT, q_int, q_intB, q_max, q_min, q_abs, q_tupT, n_tup, n_int, n_bl, n_non, n_str, isi_ii, isi_ib, isi_tt, isi_itl, isi_btl, isi_ttl, isi_tl, isi_bb, u_bl, u_int, u_non, u_tup, g_name, g_tup, g_nil, g_cons, o_ret, o_nx, i_seq, List.set_cons_zero, List.set_cons_succ, decide_eq_true_eq, Bool.not_eq_true', decide_eq_false_iff_not, evP, Bool.false_eq_true, if_true, if_false, ite_true, ite_false, reduceIte, Bool.not_true, Bool.not_false, Option.some.injEq, q_pow10, Int.reduceToNat, Int.reducePow, Int.reduceAdd, Int.reduceSub, Int.reduceMul, Int.reduceNeg, Int.reduceLT, Int.reduceLE, Nat.reducePow, Nat.reduceLT, Nat.reduceLeDiff, Nat.reduceAdd, List.length_cons, List.length_nil, Int.neg_neg, q_isL g5, show (2 : Nat) ≤ most by decide]
      rw [q_app g5 (by have := most_big; simp; omega)]
      simp only [M_some]
      refine ⟨i_rng (by decide) (by decide), _, _, _, ps ++ [(os, sp, ls)], rfl, ?_, ?_, by simp [hl], ?_, ?_⟩
      · rw [List.getElem?_set_self (lt_of_get g5), List.map_append]
        rfl
      · intro x hx
        rcases List.mem_append.mp hx with q | q
        · exact hg x q
        · rw [List.mem_singleton.mp q]
          exact ⟨hz, hch, hj⟩
      · obtain ⟨q, e⟩ := p5
        exact ⟨q, by rw [List.getElem?_set_ne hcp]; exact e⟩
      · exact Lq.set (l3.ple l5 hp) hc
    · rintro env S3 ⟨v4, v5, v6, ps, rfl, gc, hg, pl, p3, l3⟩
      refine ⟨rfl, v4, v5, v6, ps, rfl, gc, hg, p3, l3, ?_⟩
      simp at pl
      omega
  rintro _ S3 ⟨v4, v5, v6, ps, rfl, gc, hg, p3, l3, pl⟩
  refine for_M ?_
  refine M.imp (P := fun x => ∃ e its S4, x = (.tup [.ref e], S4) ∧ S4[e]? = some (.lst its) ∧ (∀ d ∈ its, ∃ x ∈ ps, d = pairL x) ∧ Lq S3 S4) ?_ ?_
  · simp only [ex, ev, M_bind, M_map, M_some, M_ite, t_eq, a_tup, al_eq, List.getElem?_cons_zero, List.getElem?_cons_succ, Option.bind_some, Option.map_some, q_add, q_sub, q_lt, q_le, q_gt, q_ge, q_eqI, q_neI, q_eqB, q_neB, q_isN, q_notN, isNon, q_ixT, q_ixR, atI_0, atI_1, atI_2, atI_3, atI_4, atI_5, atI_6, atI_7, q_slT, q_slR, q_revT, q_seqT, q_int, q_intB, q_max, q_min, q_abs, q_tupT, n_tup, n_int, n_bl, n_non, n_str, isi_ii, isi_ib, isi_tt, isi_itl, isi_btl, isi_ttl, isi_tl, isi_bb, u_bl, u_int, u_non, u_tup, g_name, g_tup, g_nil, g_cons, o_ret, o_nx, i_seq, List.set_cons_zero, List.set_cons_succ, decide_eq_true_eq, Bool.not_eq_true', decide_eq_false_iff_not, evP, Bool.false_eq_true, if_true, if_false, ite_true, ite_false, reduceIte, Bool.not_true, Bool.not_false, Option.some.injEq, q_pow10, Int.reduceToNat, Int.reducePow, Int.reduceAdd, Int.reduceSub, Int.reduceMul, Int.reduceNeg, Int.reduceLT, Int.reduceLE, Nat.reducePow, Nat.reduceLT, Nat.reduceLeDiff, Nat.reduceAdd, List.length_cons, List.length_nil, Int.neg_neg, q_slL gc]
    rw [q_addL (Lq.app S3 _ _ _ gc) get_new (by have h1 := cut_len (xs := ps.map pairL) (l := none) (h := some 1); have h2 := most_big; rw [List.length_map] at h1 ⊢; omega)]
    simp only [al_eq, M_some]
    refine ⟨_, _, _, rfl, get_new, fun d hd => ?_, (Lq.app _ _).trans (Lq.app _ _)⟩
    have hd2 : d ∈ ps.map pairL := by
      rcases List.mem_append.mp hd with q | q
      · exact q
      · obtain ⟨j, hj⟩ := List.getElem?_of_mem q
        exact cut_mem hj
    obtain ⟨x, hx, rfl⟩ := List.mem_map.mp hd2
    exact ⟨x, hx, rfl⟩
  rintro _ ⟨e, its, S4, rfl, ge, hits, l4⟩
  refine ⟨[.ref e], its, rfl, q_seqL ge, ?_⟩
  refine M_loopS (m := 0) (fun i env S5 => ∃ (v5 v7 v8 v9 v10 : Option D), env = [some (.ro ns), some (.int z), some (.ref p), some (.ref c), v4, v5, v6, v7, v8, v9, v10] ∧ Lq S4 S5) ⟨_, _, _, _, _, rfl, Lq.refl _⟩ ?_ ?_
  · rintro i d env S5 hi ⟨v5, v7, v8, v9, v10, rfl, l5⟩
    obtain ⟨x, hx, rfl⟩ := hits d (List.mem_of_getElem? hi)
    obtain ⟨hz, hk, hj⟩ := hg x hx
    unfold pairL
    obtain ⟨os, sp, ls⟩ := x
    simp only at hz hk hj
    simp only [asgG, Option.bind_some, List.set_cons_succ, List.set_cons_zero]
    obtain ⟨_, _, co, hco⟩ := crowd_ok (n := 0) (S := []) (os := os) hz.pos hz.top (show ls.length ≤ 900 by omega) (Q := fun _ => ∃ c, Told sp ls c) fun c _ h _ => ⟨c, h⟩
    have hj9 : ls.length ≤ 900 := by omega
    refine seq_M (fun env S6 => Lq S5 S6 ∧ env = [some (.ro ns), some (.int z), some (.ref p), some (.ref c), v4, some (zoneD os sp), v6, some (lookD ls), some (if co.isNone then chartD (offE os ls) (jumpsE sp ls) else .non), v9, v10]) ?_ ?_
    · simp only [ex, ev, M_bind, M_map, M_some, M_ite, t_eq, a_tup, al_eq, List.getElem?_cons_zero, List.getElem?_cons_succ, Option.bind_some, Option.map_some, q_add, q_sub, q_lt, q_le, q_gt, q_ge, q_eqI, q_neI, q_eqB, q_neB, q_isN, q_notN, isNon, q_ixT, q_ixR, atI_0, atI_1, atI_2, atI_3, atI_4, atI_5, atI_6, atI_7, q_slT, q_slR, q_revT, q_seqT, q_int, q_intB, q_max, q_min, q_abs, q_tupT, n_tup, n_int, n_bl, n_non, n_str, isi_ii, isi_ib, isi_tt, isi_itl, isi_btl, isi_ttl, isi_tl, isi_bb, u_bl, u_int, u_non, u_tup, g_name, g_tup, g_nil, g_cons, o_ret, o_nx, i_seq, List.set_cons_zero, List.set_cons_succ, decide_eq_true_eq, Bool.not_eq_true', decide_eq_false_iff_not, evP, Bool.false_eq_true, if_true, if_false, ite_true, ite_false, reduceIte, Bool.not_true, Bool.not_false, Option.some.injEq, q_pow10, Int.reduceToNat, Int.reducePow, Int.reduceAdd, Int.reduceSub, Int.reduceMul, Int.reduceNeg, Int.reduceLT, Int.reduceLE, Nat.reducePow, Nat.reduceLT, Nat.reduceLeDiff, Nat.reduceAdd, List.length_cons, List.length_nil, Int.neg_neg]
      refine (early_table_ok hz hk hj9 hco).use fun S6 l6 => ?_
      exact ⟨trivial, l6, rfl⟩
    rintro _ S6 ⟨l6, rfl⟩
    refine ite_M ?_
    simp only [ev, M_bind, M_map, M_some, M_ite, t_eq, a_tup, al_eq, List.getElem?_cons_zero, List.getElem?_cons_succ, Option.bind_some, Option.map_some, q_add, q_sub, q_lt, q_le, q_gt, q_ge, q_eqI, q_neI, q_eqB, q_neB, q_isN, q_notN, q_ixT, q_ixR, atI_0, atI_1, atI_2, atI_3, atI_4, atI_5, atI_6, atI_7, q_slT, q_slR, q_revT, q_seqT, q_int, q_intB, q_max, q_min, q_abs, q_tupT, n_tup, n_int, n_bl, n_non, n_str, isi_ii, isi_ib, isi_tt, isi_itl, isi_btl, isi_ttl, isi_tl, isi_bb, u_bl, u_int, u_non, u_tup, g_name, g_tup, g_nil, g_cons, o_ret, o_nx, i_seq, List.set_cons_zero, List.set_cons_succ, decide_eq_true_eq, Bool.not_eq_true', decide_eq_false_iff_not, evP, Bool.false_eq_true, if_true, if_false, ite_true, ite_false, reduceIte, Bool.not_true, Bool.not_false, Option.some.injEq, q_pow10, Int.reduceToNat, Int.reducePow, Int.reduceAdd, Int.reduceSub, Int.reduceMul, Int.reduceNeg, Int.reduceLT, Int.reduceLE, Nat.reducePow, Nat.reduceLT, Nat.reduceLeDiff, Nat.reduceAdd, List.length_cons, List.length_nil, Int.neg_neg]
    refine crowd_ok hz.pos hz.top hj9 fun c2 S7 hc2 l7 => ?_
    rw [told_one hc2 hco]
    cases co with
    | some cc =>
      obtain ⟨a, b⟩ := cc
      simp only [ev, M_bind, M_map, M_some, M_ite, t_eq, a_tup, al_eq, List.getElem?_cons_zero, List.getElem?_cons_succ, Option.bind_some, Option.map_some, q_add, q_sub, q_lt, q_le, q_gt, q_ge, q_eqI, q_neI, q_eqB, q_neB, q_isN, q_notN, isNon, q_ixT, q_ixR, atI_0, atI_1, atI_2, atI_3, atI_4, atI_5, atI_6, atI_7, q_slT, q_slR, q_revT, q_seqT, q_int, q_intB, q_max, q_min, q_abs, q_tupT, n_tup, n_int, n_bl, n_non, n_str, isi_ii, isi_ib, isi_tt, isi_itl, isi_btl, isi_ttl, isi_tl, isi_bb, u_bl, u_int, u_non, u_tup, g_name, g_tup, g_nil, g_cons, o_ret, o_nx, i_seq, List.set_cons_zero, List.set_cons_succ, decide_eq_true_eq, Bool.not_eq_true', decide_eq_false_iff_not, evP, Bool.false_eq_true, if_true, if_false, ite_true, ite_false, reduceIte, Bool.not_true, Bool.not_false, Option.some.injEq, q_pow10, Int.reduceToNat, Int.reducePow, Int.reduceAdd, Int.reduceSub, Int.reduceMul, Int.reduceNeg, Int.reduceLT, Int.reduceLE, Nat.reducePow, Nat.reduceLT, Nat.reduceLeDiff, Nat.reduceAdd, List.length_cons, List.length_nil, Int.neg_neg, toldD, Option.isNone_some, Bool.true_eq_false]
      simp only [ex, ev, M_bind, M_map, M_some, M_ite, t_eq, a_tup, al_eq, List.getElem?_cons_zero, List.getElem?_cons_succ, Option.bind_some, Option.map_some, q_add, q_sub, q_lt, q_le, q_gt, q_ge, q_eqI, q_neI, q_eqB, q_neB, q_isN, q_notN, isNon, q_ixT, q_ixR, atI_0, atI_1, atI_2, atI_3, atI_4, atI_5, atI_6, atI_7, q_slT, q_slR, q_revT, q_seqT, q_int, q_intB, q_max, q_min, q_abs, q_tupT, n_tup, n_int, n_bl, n_non, n_str, isi_ii, isi_ib, isi_tt, isi_itl, isi_btl, isi_ttl, isi_tl, isi_bb, u_bl, u_int, u_non, u_tup, g_name, g_tup, g_nil, g_cons, o_ret, o_nx, i_seq, List.set_cons_zero, List.set_cons_succ, decide_eq_true_eq, Bool.not_eq_true', decide_eq_false_iff_not, evP, Bool.false_eq_true, if_true, if_false, ite_true, ite_false, reduceIte, Bool.not_true, Bool.not_false, Option.some.injEq, q_pow10, Int.reduceToNat, Int.reducePow, Int.reduceAdd, Int.reduceSub, Int.reduceMul, Int.reduceNeg, Int.reduceLT, Int.reduceLE, Nat.reducePow, Nat.reduceLT, Nat.reduceLeDiff, Nat.reduceAdd, List.length_cons, List.length_nil, Int.neg_neg, toldD, Option.isNone_some, permV, List.filterMap_cons, List.filterMap_nil, List.nil_append, List.cons_append]
      refine (early_table_ok hz hk hj9 hco).use fun S8 l8 => ?_
      simp only [ex, ev, M_bind, M_map, M_some, M_ite, t_eq, a_tup, al_eq, List.getElem?_cons_zero, List.getElem?_cons_succ, Option.bind_some, Option.map_some, q_add, q_sub, q_lt, q_le, q_gt, q_ge, q_eqI, q_neI, q_eqB, q_neB, q_isN, q_notN, isNon, q_ixT, q_ixR, atI_0, atI_1, atI_2, atI_3, atI_4, atI_5, atI_6, atI_7, q_slT, q_slR, q_revT, q_seqT, q_int, q_intB, q_max, q_min, q_abs, q_tupT, n_tup, n_int, n_bl, n_non, n_str, isi_ii, isi_ib, isi_tt, isi_itl, isi_btl, isi_ttl, isi_tl, isi_bb, u_bl, u_int, u_non, u_tup, g_name, g_tup, g_nil, g_cons, o_ret, o_nx, i_seq, List.set_cons_zero, List.set_cons_succ, decide_eq_true_eq, Bool.not_eq_true', decide_eq_false_iff_not, evP, Bool.false_eq_true, if_true, if_false, ite_true, ite_false, reduceIte, Bool.not_true, Bool.not_false, Option.some.injEq, q_pow10, Int.reduceToNat, Int.reducePow, Int.reduceAdd, Int.reduceSub, Int.reduceMul, Int.reduceNeg, Int.reduceLT, Int.reduceLE, Nat.reducePow, Nat.reduceLT, Nat.reduceLeDiff, Nat.reduceAdd, List.length_cons, List.length_nil, Int.neg_neg, Option.isNone_some]
      have ll : Lq S4 S8 := l5.trans (l6.trans (l7.trans l8))
      exact ⟨q_seqL (ll _ _ ge), _, _, _, _, _, rfl, ll⟩
    | none =>
      simp only [ev, M_bind, M_map, M_some, M_ite, t_eq, a_tup, al_eq, List.getElem?_cons_zero, List.getElem?_cons_succ, Option.bind_some, Option.map_some, q_add, q_sub, q_lt, q_le, q_gt, q_ge, q_eqI, q_neI, q_eqB, q_neB, q_isN, q_notN, isNon, q_ixT, q_ixR, atI_0, atI_1, atI_2, atI_3, atI_4, atI_5, atI_6, atI_7, q_slT, q_slR, q_revT, q_seqT, q_int, q_intB, q_max, q_min, q_abs, q_tupT, n_tup, n_int, n_bl, n_non, n_str, isi_ii, isi_ib, isi_tt, isi_itl, isi_btl, isi_ttl, isi_tl, isi_bb, u_bl, u_int, u_non, u_tup, g_name, g_tup, g_nil, g_cons, o_ret, o_nx, i_seq, List.set_cons_zero, List.set_cons_succ, decide_eq_true_eq, Bool.not_eq_true', decide_eq_false_iff_not, evP, Bool.false_eq_true, if_true, if_false, ite_true, ite_false, reduceIte, Bool.not_true, Bool.not_false, Option.some.injEq, q_pow10, Int.reduceToNat, Int.reducePow, Int.reduceAdd, Int.reduceSub, Int.reduceMul, Int.reduceNeg, Int.reduceLT, Int.reduceLE, Nat.reducePow, Nat.reduceLT, Nat.reduceLeDiff, Nat.reduceAdd, List.length_cons, List.length_nil, Int.neg_neg, toldD, Option.isNone_none, Bool.true_eq_false]
      have hch := early_is_chart hz hk
      have hjl : (jumpsE sp ls).length ≤ 900 := by
        have := eaJ_len (sp := sp) (ls := ls) (ls.length - 1)
        unfold jumpsE
        omega
      generalize hO : offE os ls = off at hch ⊢
      generalize hJ : jumpsE sp ls = js at hch hjl ⊢
      refine seq_M (fun env S8 => Lq S7 S8 ∧ env = [some (.ro ns), some (.int z), some (.ref p), some (.ref c), v4, some (zoneD os sp), v6, some (lookD ls), some (chartD off js), v9, v10]) ?_ ?_
      · refine ite_M ?_
        simp only [ev, M_bind, M_map, M_some, M_ite, t_eq, a_tup, al_eq, List.getElem?_cons_zero, List.getElem?_cons_succ, Option.bind_some, Option.map_some, q_add, q_sub, q_lt, q_le, q_gt, q_ge, q_eqI, q_neI, q_eqB, q_neB, q_isN, q_notN, isNon, q_ixT, q_ixR, atI_0, atI_1, atI_2, atI_3, atI_4, atI_5, atI_6, atI_7, q_slT, q_slR, q_revT, q_seqT, q_int, q_intB, q_max, q_min, q_abs, q_tupT, n_tup, n_int, n_bl, n_non, n_str, isi_ii, isi_ib, isi_tt, isi_itl, isi_btl, isi_ttl, isi_tl, isi_bb, u_bl, u_int, u_non, u_tup, g_name, g_tup, g_nil, g_cons, o_ret, o_nx, i_seq, List.set_cons_zero, List.set_cons_succ, decide_eq_true_eq, Bool.not_eq_true', decide_eq_false_iff_not, evP, Bool.false_eq_true, if_true, if_false, ite_true, ite_false, reduceIte, Bool.not_true, Bool.not_false, Option.some.injEq, q_pow10, Int.reduceToNat, Int.reducePow, Int.reduceAdd, Int.reduceSub, Int.reduceMul, Int.reduceNeg, Int.reduceLT, Int.reduceLE, Nat.reducePow, Nat.reduceLT, Nat.reduceLeDiff, Nat.reduceAdd, List.length_cons, List.length_nil, Int.neg_neg]
        refine (early_chart_ok hz hj9).use fun S8 l8 => ?_
        rw [hO, hJ]
        refine (same_ok (m := 10) (n := 4) (sa_chart (by omega)) (by decide)).use fun S9 l9 => ?_
        simp only [ev, M_bind, M_map, M_some, M_ite, t_eq, a_tup, al_eq, List.getElem?_cons_zero, List.getElem?_cons_succ, Option.bind_some, Option.map_some, q_add, q_sub, q_lt, q_le, q_gt, q_ge, q_eqI, q_neI, q_eqB, q_neB, q_isN, q_notN, isNon, q_ixT, q_ixR, atI_0, atI_1, atI_2, atI_3, atI_4, atI_5, atI_6, atI_7, q_slT, q_slR, q_revT, q_seqT, q_int, q_intB, q_max, q_min, q_abs, q_tupT, n_tup, n_int, n_bl, n_non, n_str, isi_ii, isi_ib, isi_tt, isi_itl, isi_btl, isi_ttl, isi_tl, isi_bb, u_bl, u_int, u_non, u_tup, g_name, g_tup, g_nil, g_cons, o_ret, o_nx, i_seq, List.set_cons_zero, List.set_cons_succ, decide_eq_true_eq, Bool.not_eq_true', decide_eq_false_iff_not, evP, Bool.false_eq_true, if_true, if_false, ite_true, ite_false, reduceIte, Bool.not_true, Bool.not_false, Option.some.injEq, q_pow10, Int.reduceToNat, Int.reducePow, Int.reduceAdd, Int.reduceSub, Int.reduceMul, Int.reduceNeg, Int.reduceLT, Int.reduceLE, Nat.reducePow, Nat.reduceLT, Nat.reduceLeDiff, Nat.reduceAdd, List.length_cons, List.length_nil, Int.neg_neg]
        refine (is_chart_ok hch hjl).use fun S10 l10 => ?_
        simp only [ev, M_bind, M_map, M_some, M_ite, t_eq, a_tup, al_eq, List.getElem?_cons_zero, List.getElem?_cons_succ, Option.bind_some, Option.map_some, q_add, q_sub, q_lt, q_le, q_gt, q_ge, q_eqI, q_neI, q_eqB, q_neB, q_isN, q_notN, isNon, q_ixT, q_ixR, atI_0, atI_1, atI_2, atI_3, atI_4, atI_5, atI_6, atI_7, q_slT, q_slR, q_revT, q_seqT, q_int, q_intB, q_max, q_min, q_abs, q_tupT, n_tup, n_int, n_bl, n_non, n_str, isi_ii, isi_ib, isi_tt, isi_itl, isi_btl, isi_ttl, isi_tl, isi_bb, u_bl, u_int, u_non, u_tup, g_name, g_tup, g_nil, g_cons, o_ret, o_nx, i_seq, List.set_cons_zero, List.set_cons_succ, decide_eq_true_eq, Bool.not_eq_true', decide_eq_false_iff_not, evP, Bool.false_eq_true, if_true, if_false, ite_true, ite_false, reduceIte, Bool.not_true, Bool.not_false, Option.some.injEq, q_pow10, Int.reduceToNat, Int.reducePow, Int.reduceAdd, Int.reduceSub, Int.reduceMul, Int.reduceNeg, Int.reduceLT, Int.reduceLE, Nat.reducePow, Nat.reduceLT, Nat.reduceLeDiff, Nat.reduceAdd, List.length_cons, List.length_nil, Int.neg_neg]
        simp only [ex, ev, M_bind, M_map, M_some, M_ite, t_eq, a_tup, al_eq, List.getElem?_cons_zero, List.getElem?_cons_succ, Option.bind_some, Option.map_some, q_add, q_sub, q_lt, q_le, q_gt, q_ge, q_eqI, q_neI, q_eqB, q_neB, q_isN, q_notN, isNon, q_ixT, q_ixR, atI_0, atI_1, atI_2, atI_3, atI_4, atI_5, atI_6, atI_7, q_slT, q_slR, q_revT, q_seqT, q_int, q_intB, q_max, q_min, q_abs, q_tupT, n_tup, n_int, n_bl, n_non, n_str, isi_ii, isi_ib, isi_tt, isi_itl, isi_btl, isi_ttl, isi_tl, isi_bb, u_bl, u_int, u_non, u_tup, g_name, g_tup, g_nil, g_cons, o_ret, o_nx, i_seq, List.set_cons_zero, List.set_cons_succ, decide_eq_true_eq, Bool.not_eq_true', decide_eq_false_iff_not, evP, Bool.false_eq_true, if_true, if_false, ite_true, ite_false, reduceIte, Bool.not_true, Bool.not_false, Option.some.injEq, q_pow10, Int.reduceToNat, Int.reducePow, Int.reduceAdd, Int.reduceSub, Int.reduceMul, Int.reduceNeg, Int.reduceLT, Int.reduceLE, Nat.reducePow, Nat.reduceLT, Nat.reduceLeDiff, Nat.reduceAdd, List.length_cons, List.length_nil, Int.neg_neg]
        exact ⟨trivial, l8.trans (l9.trans l10), trivial⟩
      rintro _ S8 ⟨l8, rfl⟩
      refine seq_M (fun env S9 => Lq S8 S9 ∧ env = [some (.ro ns), some (.int z), some (.ref p), some (.ref c), v4, some (zoneD os sp), v6, some (lookD ls), some (chartD off js), v9, v10]) ?_ ?_
      · refine ite_M ?_
        rw [show ∀ (e : E) (env : Sl) (S : Hd), tst (ev (run T 11) (.not_ e) env S) = (tst (ev (run T 11) e env S)).map fun x => (!x.1, x.2) from fun e env S => by
          simp only [ev, tst]
          cases ev (run T 11) e env S with
          | none => rfl
          | some x =>
            simp only [Option.bind_some]
            cases tru x.2 x.1 <;> rfl]
        simp only [M_map, t_eq, M_bind]
        refine M_allT (S1 := S8) (ds := [lookD ls]) (its := ls.map jumpD) (by decide) (by simp only [ev, M_bind, M_map, M_some, M_ite, t_eq, a_tup, al_eq, List.getElem?_cons_zero, List.getElem?_cons_succ, Option.bind_some, Option.map_some, q_add, q_sub, q_lt, q_le, q_gt, q_ge, q_eqI, q_neI, q_eqB, q_neB, q_isN, q_notN, isNon, q_ixT, q_ixR, atI_0, atI_1, atI_2, atI_3, atI_4, atI_5, atI_6, atI_7, q_slT, q_slR, q_revT, q_seqT, q_int, q_intB, q_max, q_min, q_abs, q_tupT, n_tup, n_int, n_bl, n_non, n_str, isi_ii, isi_ib, isi_tt, isi_itl, isi_btl, isi_ttl, isi_tl, isi_bb, u_bl, u_int, u_non, u_tup, g_name, g_tup, g_nil, g_cons, o_ret, o_nx, i_seq, List.set_cons_zero, List.set_cons_succ, decide_eq_true_eq, Bool.not_eq_true', decide_eq_false_iff_not, evP, Bool.false_eq_true, if_true, if_false, ite_true, ite_false, reduceIte, Bool.not_true, Bool.not_false, Option.some.injEq, q_pow10, Int.reduceToNat, Int.reducePow, Int.reduceAdd, Int.reduceSub, Int.reduceMul, Int.reduceNeg, Int.reduceLT, Int.reduceLE, Nat.reducePow, Nat.reduceLT, Nat.reduceLeDiff, Nat.reduceAdd, List.length_cons, List.length_nil, Int.neg_neg]) (Lq.refl _) rfl (by have := most_big; simp; omega) (fun i d S9 hi l9 => ?_) (fun _ _ => rfl) fun S9 l9 => ?_
        · obtain ⟨l, hl, hlm, rfl⟩ := map_get hi
          have il := (List.getElem?_eq_some_iff.mp hl).1
          refine ⟨_, rfl, ?_⟩
          have held := eaJ_held hk hco il
          rw [atL_of hl] at held
          have e1 : heldF off js l.1 = l.2 := by
            rw [← hO, ← hJ]
            unfold offE jumpsE
            rw [if_neg (fun e => by rw [e] at il; simp at il)]
            exact held
          simp only [wipeD, ex, ev, M_bind, M_map, M_some, M_ite, t_eq, a_tup, al_eq, List.getElem?_cons_zero, List.getElem?_cons_succ, Option.bind_some, Option.map_some, q_add, q_sub, q_lt, q_le, q_gt, q_ge, q_eqI, q_neI, q_eqB, q_neB, q_isN, q_notN, isNon, q_ixT, q_ixR, atI_0, atI_1, atI_2, atI_3, atI_4, atI_5, atI_6, atI_7, q_slT, q_slR, q_revT, q_seqT, q_int, q_intB, q_max, q_min, q_abs, q_tupT, n_tup, n_int, n_bl, n_non, n_str, isi_ii, isi_ib, isi_tt, isi_itl, isi_btl, isi_ttl, isi_tl, isi_bb, u_bl, u_int, u_non, u_tup, g_name, g_tup, g_nil, g_cons, o_ret, o_nx, i_seq, List.set_cons_zero, List.set_cons_succ, decide_eq_true_eq, Bool.not_eq_true', decide_eq_false_iff_not, evP, Bool.false_eq_true, if_true, if_false, ite_true, ite_false, reduceIte, Bool.not_true, Bool.not_false, Option.some.injEq, q_pow10, Int.reduceToNat, Int.reducePow, Int.reduceAdd, Int.reduceSub, Int.reduceMul, Int.reduceNeg, Int.reduceLT, Int.reduceLE, Nat.reducePow, Nat.reduceLT, Nat.reduceLeDiff, Nat.reduceAdd, List.length_cons, List.length_nil, Int.neg_neg]
          refine shift_at_ok.use fun S10 l10 => ?_
          simp only [ex, ev, M_bind, M_map, M_some, M_ite, t_eq, a_tup, al_eq, List.getElem?_cons_zero, List.getElem?_cons_succ, Option.bind_some, Option.map_some, q_add, q_sub, q_lt, q_le, q_gt, q_ge, q_eqI, q_neI, q_eqB, q_neB, q_isN, q_notN, isNon, q_ixT, q_ixR, atI_0, atI_1, atI_2, atI_3, atI_4, atI_5, atI_6, atI_7, q_slT, q_slR, q_revT, q_seqT, q_int, q_intB, q_max, q_min, q_abs, q_tupT, n_tup, n_int, n_bl, n_non, n_str, isi_ii, isi_ib, isi_tt, isi_itl, isi_btl, isi_ttl, isi_tl, isi_bb, u_bl, u_int, u_non, u_tup, g_name, g_tup, g_nil, g_cons, o_ret, o_nx, i_seq, List.set_cons_zero, List.set_cons_succ, decide_eq_true_eq, Bool.not_eq_true', decide_eq_false_iff_not, evP, Bool.false_eq_true, if_true, if_false, ite_true, ite_false, reduceIte, Bool.not_true, Bool.not_false, Option.some.injEq, q_pow10, Int.reduceToNat, Int.reducePow, Int.reduceAdd, Int.reduceSub, Int.reduceMul, Int.reduceNeg, Int.reduceLT, Int.reduceLE, Nat.reducePow, Nat.reduceLT, Nat.reduceLeDiff, Nat.reduceAdd, List.length_cons, List.length_nil, Int.neg_neg, e1, decide_true]
          exact ⟨trivial, l10⟩
        · simp only [ev, M_bind, M_map, M_some, M_ite, t_eq, a_tup, al_eq, List.getElem?_cons_zero, List.getElem?_cons_succ, Option.bind_some, Option.map_some, q_add, q_sub, q_lt, q_le, q_gt, q_ge, q_eqI, q_neI, q_eqB, q_neB, q_isN, q_notN, isNon, q_ixT, q_ixR, atI_0, atI_1, atI_2, atI_3, atI_4, atI_5, atI_6, atI_7, q_slT, q_slR, q_revT, q_seqT, q_int, q_intB, q_max, q_min, q_abs, q_tupT, n_tup, n_int, n_bl, n_non, n_str, isi_ii, isi_ib, isi_tt, isi_itl, isi_btl, isi_ttl, isi_tl, isi_bb, u_bl, u_int, u_non, u_tup, g_name, g_tup, g_nil, g_cons, o_ret, o_nx, i_seq, List.set_cons_zero, List.set_cons_succ, decide_eq_true_eq, Bool.not_eq_true', decide_eq_false_iff_not, evP, Bool.false_eq_true, if_true, if_false, ite_true, ite_false, reduceIte, Bool.not_true, Bool.not_false, Option.some.injEq, q_pow10, Int.reduceToNat, Int.reducePow, Int.reduceAdd, Int.reduceSub, Int.reduceMul, Int.reduceNeg, Int.reduceLT, Int.reduceLE, Nat.reducePow, Nat.reduceLT, Nat.reduceLeDiff, Nat.reduceAdd, List.length_cons, List.length_nil, Int.neg_neg]
          simp only [ex, ev, M_bind, M_map, M_some, M_ite, t_eq, a_tup, al_eq, List.getElem?_cons_zero, List.getElem?_cons_succ, Option.bind_some, Option.map_some, q_add, q_sub, q_lt, q_le, q_gt, q_ge, q_eqI, q_neI, q_eqB, q_neB, q_isN, q_notN, isNon, q_ixT, q_ixR, atI_0, atI_1, atI_2, atI_3, atI_4, atI_5, atI_6, atI_7, q_slT, q_slR, q_revT, q_seqT, q_int, q_intB, q_max, q_min, q_abs, q_tupT, n_tup, n_int, n_bl, n_non, n_str, isi_ii, isi_ib, isi_tt, isi_itl, isi_btl, isi_ttl, isi_tl, isi_bb, u_bl, u_int, u_non, u_tup, g_name, g_tup, g_nil, g_cons, o_ret, o_nx, i_seq, List.set_cons_zero, List.set_cons_succ, decide_eq_true_eq, Bool.not_eq_true', decide_eq_false_iff_not, evP, Bool.false_eq_true, if_true, if_false, ite_true, ite_false, reduceIte, Bool.not_true, Bool.not_false, Option.some.injEq, q_pow10, Int.reduceToNat, Int.reducePow, Int.reduceAdd, Int.reduceSub, Int.reduceMul, Int.reduceNeg, Int.reduceLT, Int.reduceLE, Nat.reducePow, Nat.reduceLT, Nat.reduceLeDiff, Nat.reduceAdd, List.length_cons, List.length_nil, Int.neg_neg]
          exact ⟨trivial, l9, trivial⟩
      rintro _ S9 ⟨l9, rfl⟩
      refine ite_M ?_
      simp only [ev, M_bind, M_map, M_some, M_ite, t_eq, a_tup, al_eq, List.getElem?_cons_zero, List.getElem?_cons_succ, Option.bind_some, Option.map_some, q_add, q_sub, q_lt, q_le, q_gt, q_ge, q_eqI, q_neI, q_eqB, q_neB, q_isN, q_notN, isNon, q_ixT, q_ixR, atI_0, atI_1, atI_2, atI_3, atI_4, atI_5, atI_6, atI_7, q_slT, q_slR, q_revT, q_seqT, q_int, q_intB, q_max, q_min, q_abs, q_tupT, n_tup, n_int, n_bl, n_non, n_str, isi_ii, isi_ib, isi_tt, isi_itl, isi_btl, isi_ttl, isi_tl, isi_bb, u_bl, u_int, u_non, u_tup, g_name, g_tup, g_nil, g_cons, o_ret, o_nx, i_seq, List.set_cons_zero, List.set_cons_succ, decide_eq_true_eq, Bool.not_eq_true', decide_eq_false_iff_not, evP, Bool.false_eq_true, if_true, if_false, ite_true, ite_false, reduceIte, Bool.not_true, Bool.not_false, Option.some.injEq, q_pow10, Int.reduceToNat, Int.reducePow, Int.reduceAdd, Int.reduceSub, Int.reduceMul, Int.reduceNeg, Int.reduceLT, Int.reduceLE, Nat.reducePow, Nat.reduceLT, Nat.reduceLeDiff, Nat.reduceAdd, List.length_cons, List.length_nil, Int.neg_neg, permV, List.filterMap_cons, List.filterMap_nil, List.nil_append, List.cons_append]
      refine (early_table_ok hz hk hj9 hco).use fun S10 l10 => ?_
      simp only [Option.isNone_none, if_true, hO, hJ]
      refine (same_ok (m := 10) (n := 4) (sa_chart (by omega)) (by decide)).use fun S11 l11 => ?_
      simp only [ev, M_bind, M_map, M_some, M_ite, t_eq, a_tup, al_eq, List.getElem?_cons_zero, List.getElem?_cons_succ, Option.bind_some, Option.map_some, q_add, q_sub, q_lt, q_le, q_gt, q_ge, q_eqI, q_neI, q_eqB, q_neB, q_isN, q_notN, isNon, q_ixT, q_ixR, atI_0, atI_1, atI_2, atI_3, atI_4, atI_5, atI_6, atI_7, q_slT, q_slR, q_revT, q_seqT, q_int, q_intB, q_max, q_min, q_abs, q_tupT, n_tup, n_int, n_bl, n_non, n_str, isi_ii, isi_ib, isi_tt, isi_itl, isi_btl, isi_ttl, isi_tl, isi_bb, u_bl, u_int, u_non, u_tup, g_name, g_tup, g_nil, g_cons, o_ret, o_nx, i_seq, List.set_cons_zero, List.set_cons_succ, decide_eq_true_eq, Bool.not_eq_true', decide_eq_false_iff_not, evP, Bool.false_eq_true, if_true, if_false, ite_true, ite_false, reduceIte, Bool.not_true, Bool.not_false, Option.some.injEq, q_pow10, Int.reduceToNat, Int.reducePow, Int.reduceAdd, Int.reduceSub, Int.reduceMul, Int.reduceNeg, Int.reduceLT, Int.reduceLE, Nat.reducePow, Nat.reduceLT, Nat.reduceLeDiff, Nat.reduceAdd, List.length_cons, List.length_nil, Int.neg_neg]
      simp only [ex, ev, M_bind, M_map, M_some, M_ite, t_eq, a_tup, al_eq, List.getElem?_cons_zero, List.getElem?_cons_succ, Option.bind_some, Option.map_some, q_add, q_sub, q_lt, q_le, q_gt, q_ge, q_eqI, q_neI, q_eqB, q_neB, q_isN, q_notN, isNon, q_ixT, q_ixR, atI_0, atI_1, atI_2, atI_3, atI_4, atI_5, atI_6, atI_7, q_slT, q_slR, q_revT, q_seqT, q_int, q_intB, q_max, q_min, q_abs, q_tupT, n_tup, n_int, n_bl, n_non, n_str, isi_ii, isi_ib, isi_tt, isi_itl, isi_btl, isi_ttl, isi_tl, isi_bb, u_bl, u_int, u_non, u_tup, g_name, g_tup, g_nil, g_cons, o_ret, o_nx, i_seq, List.set_cons_zero, List.set_cons_succ, decide_eq_true_eq, Bool.not_eq_true', decide_eq_false_iff_not, evP, Bool.false_eq_true, if_true, if_false, ite_true, ite_false, reduceIte, Bool.not_true, Bool.not_false, Option.some.injEq, q_pow10, Int.reduceToNat, Int.reducePow, Int.reduceAdd, Int.reduceSub, Int.reduceMul, Int.reduceNeg, Int.reduceLT, Int.reduceLE, Nat.reducePow, Nat.reduceLT, Nat.reduceLeDiff, Nat.reduceAdd, List.length_cons, List.length_nil, Int.neg_neg]
      have ll : Lq S4 S11 := l5.trans (l6.trans (l7.trans (l8.trans (l9.trans (l10.trans l11)))))
      exact ⟨q_seqL (ll _ _ ge), _, _, _, _, _, rfl, ll⟩
  · rintro env S5 ⟨v5, v7, v8, v9, v10, rfl, l5⟩
    exact ⟨rfl, ⟨_, _, _, _, _, _, _, _, _, rfl⟩, l3.trans (l4.trans l5)⟩
def lev : Nat := 12
theorem law_true (ns : List Int) (hl : ns.length ≤ 63) (hb : ∀ z ∈ ns, Builtin.Int.intBits z ≤ 1048576) : ∃ S', run T lev 48 [.ro ns] [] = some (.bl true, S') := by
  suffices h : M (run T lev 48 [.ro ns] []) fun r => r.1 = .bl true by
    obtain ⟨⟨d, S'⟩, e, q⟩ := h
    have q : d = .bl true := q
    subst q
    exact ⟨S', e⟩
  refine run_M T_law_k12 rfl ?_
  show M (ex (run T 11) b_law_k12 [some (.ro ns), none, none, none, none, none, none, none, none, none, none] []) _
  unfold b_law_k12
  have hm := most_big
  refine seq_M (fun env S => True) ?_ ?_
  · have hcl : (cutD (ns.map D.int) none (some 3)).length ≤ 63 := Nat.le_trans cut_len (by simpa using hl)
    refine for_M (M.imp (P := fun x => ∃ A B, x = (.tup [.ref 2], [A, B, O.lst ([D.int 1000000000000000000000000000000000000503392817744600295113878] ++ cutD (ns.map .int) none (some 3))])) ?_ ?_)
    · simp only [ex, ev, M_bind, M_map, M_some, M_ite, t_eq, a_tup, al_eq, List.getElem?_cons_zero, List.getElem?_cons_succ, Option.bind_some, Option.map_some, q_add, q_sub, q_lt, q_le, q_gt, q_ge, q_eqI, q_neI, q_eqB, q_neB, q_isN, q_notN, isNon, q_ixT, q_ixR, atI_0, atI_1, atI_2, atI_3, atI_4, atI_5, atI_6, atI_7, q_slT, q_slR, q_revT, q_seqT, q_int, q_intB, q_max, q_min, q_abs, q_tupT, n_tup, n_int, n_bl, n_non, n_str, isi_ii, isi_ib, isi_tt, isi_itl, isi_btl, isi_ttl, isi_tl, isi_bb, u_bl, u_int, u_non, u_tup, g_name, g_tup, g_nil, g_cons, o_ret, o_nx, i_seq, List.set_cons_zero, List.set_cons_succ, decide_eq_true_eq, Bool.not_eq_true', decide_eq_false_iff_not, evP, Bool.false_eq_true, if_true, if_false, ite_true, ite_false, reduceIte, Bool.not_true, Bool.not_false, Option.some.injEq, q_pow10, Int.reduceToNat, Int.reducePow, Int.reduceAdd, Int.reduceSub, Int.reduceMul, Int.reduceNeg, Int.reduceLT, Int.reduceLE, Nat.reducePow, Nat.reduceLT, Nat.reduceLeDiff, Nat.reduceAdd, List.length_cons, List.length_nil, Int.neg_neg, show (1 : Nat) ≤ most by decide, List.nil_append]
      rw [q_addL (xs := [.int 1000000000000000000000000000000000000503392817744600295113878]) (ys := cutD (ns.map .int) none (some 3)) rfl rfl (by simp; omega)]
      simp only [al_eq, M_some]
      exact ⟨_, _, rfl⟩
    rintro _ ⟨A, B, rfl⟩
    refine ⟨_, _, rfl, rfl, ?_⟩
    refine M_loopS (m := 0) (fun i env S => (∃ v1 v2 v3 v4 v5 v6 v7 v8 v9 v10 : Option D, env = [some (.ro ns), v1, v2, v3, v4, v5, v6, v7, v8, v9, v10]) ∧ S[2]? = some (O.lst ([D.int 1000000000000000000000000000000000000503392817744600295113878] ++ cutD (ns.map .int) none (some 3)))) ⟨⟨_, _, _, _, _, _, _, _, _, _, rfl⟩, rfl⟩ ?_ ?_
    · rintro i d env S hi ⟨⟨v1, v2, v3, v4, v5, v6, v7, v8, v9, v10, rfl⟩, g⟩
      obtain ⟨z, rfl⟩ := cell_get hi
      simp only [asgG, Option.bind_some, List.set_cons_succ, List.set_cons_zero]
      refine (law_cell (S0 := S) (ns := ns) (z := z)).imp ?_
      rintro ⟨o, env', S'⟩ ⟨e1, ⟨v2, v3, v4, v5, v6, v7, v8, v9, v10, e2⟩, l⟩
      have e1 : o = .nx := e1
      subst e1
      have e2 : env' = _ := e2
      subst e2
      exact ⟨q_seqL (l _ _ g), ⟨_, _, _, _, _, _, _, _, _, _, rfl⟩, l _ _ g⟩
    · rintro env S _
      exact ⟨rfl, trivial⟩
  · rintro env S _
    simp only [ex, ev, M_bind, M_map, M_some, M_ite, t_eq, a_tup, al_eq, List.getElem?_cons_zero, List.getElem?_cons_succ, Option.bind_some, Option.map_some, q_add, q_sub, q_lt, q_le, q_gt, q_ge, q_eqI, q_neI, q_eqB, q_neB, q_isN, q_notN, isNon, q_ixT, q_ixR, atI_0, atI_1, atI_2, atI_3, atI_4, atI_5, atI_6, atI_7, q_slT, q_slR, q_revT, q_seqT, q_int, q_intB, q_max, q_min, q_abs, q_tupT, n_tup, n_int, n_bl, n_non, n_str, isi_ii, isi_ib, isi_tt, isi_itl, isi_btl, isi_ttl, isi_tl, isi_bb, u_bl, u_int, u_non, u_tup, g_name, g_tup, g_nil, g_cons, o_ret, o_nx, i_seq, List.set_cons_zero, List.set_cons_succ, decide_eq_true_eq, Bool.not_eq_true', decide_eq_false_iff_not, evP, Bool.false_eq_true, if_true, if_false, ite_true, ite_false, reduceIte, Bool.not_true, Bool.not_false, Option.some.injEq, q_pow10, Int.reduceToNat, Int.reducePow, Int.reduceAdd, Int.reduceSub, Int.reduceMul, Int.reduceNeg, Int.reduceLT, Int.reduceLE, Nat.reducePow, Nat.reduceLT, Nat.reduceLeDiff, Nat.reduceAdd, List.length_cons, List.length_nil, Int.neg_neg]
end Lw

namespace Lw
open PySem L2 Ix
section
variable {P : Program} {w : World} {K : PySem.W.Frag} {mg : Str → Option Value} {base : Heap}
structure Fs0 (K : PySem.W.Frag) (mg : Str → Option Value) : Prop where
  f0 : ∃ fa fd, mg "is_number" = some (.ref fa) ∧ Fun K "is_number" "is_number" s_0 fa fd
  f1 : ∃ fa fd, mg "is_pair" = some (.ref fa) ∧ Fun K "is_pair" "is_pair" s_1 fa fd
  f6 : ∃ fa fd, mg "is_zone" = some (.ref fa) ∧ Fun K "is_zone" "is_zone" s_6 fa fd
  f7 : ∃ fa fd, mg "check_zone" = some (.ref fa) ∧ Fun K "check_zone" "check_zone" s_7 fa fd
  f9 : ∃ fa fd, mg "is_offset" = some (.ref fa) ∧ Fun K "is_offset" "is_offset" s_9 fa fd
  f11 : ∃ fa fd, mg "are_marks" = some (.ref fa) ∧ Fun K "are_marks" "are_marks" s_11 fa fd
  f3 : ∃ fa fd, mg "is_ascending" = some (.ref fa) ∧ Fun K "is_ascending" "is_ascending" s_3 fa fd
  f5 : ∃ fa fd, mg "_are_offsets" = some (.ref fa) ∧ Fun K "_are_offsets" "_are_offsets" s_5 fa fd
  f4 : ∃ fa fd, mg "_is_near" = some (.ref fa) ∧ Fun K "_is_near" "_is_near" s_4 fa fd
  f10 : ∃ fa fd, mg "_is_mark" = some (.ref fa) ∧ Fun K "_is_mark" "_is_mark" s_10 fa fd
  f44 : ∃ fa fd, mg "early_table" = some (.ref fa) ∧ Fun K "early_table" "early_table" s_44 fa fd
  f34 : ∃ fa fd, mg "check_looks" = some (.ref fa) ∧ Fun K "check_looks" "check_looks" s_34 fa fd
  f33 : ∃ fa fd, mg "fits_as_looks" = some (.ref fa) ∧ Fun K "fits_as_looks" "fits_as_looks" s_33 fa fd
  f36 : ∃ fa fd, mg "crowded_stretch" = some (.ref fa) ∧ Fun K "crowded_stretch" "crowded_stretch" s_36 fa fd
  f43 : ∃ fa fd, mg "earliest_table" = some (.ref fa) ∧ Fun K "earliest_table" "earliest_table" s_43 fa fd
  f35 : ∃ fa fd, mg "_loads" = some (.ref fa) ∧ Fun K "_loads" "_loads" s_35 fa fd
  f17 : ∃ fa fd, mg "_law_digits" = some (.ref fa) ∧ Fun K "_law_digits" "_law_digits" s_17 fa fd
  f18 : ∃ fa fd, mg "_law_draw" = some (.ref fa) ∧ Fun K "_law_draw" "_law_draw" s_18 fa fd
  f19 : ∃ fa fd, mg "_law_any_hour" = some (.ref fa) ∧ Fun K "_law_any_hour" "_law_any_hour" s_19 fa fd
  f20 : ∃ fa fd, mg "_law_make_region" = some (.ref fa) ∧ Fun K "_law_make_region" "_law_make_region" s_20 fa fd
  f22 : ∃ fa fd, mg "_law_shift_at" = some (.ref fa) ∧ Fun K "_law_shift_at" "_law_shift_at" s_22 fa fd
  f24 : ∃ fa fd, mg "_law_whole" = some (.ref fa) ∧ Fun K "_law_whole" "_law_whole" s_24 fa fd
  f25 : ∃ fa fd, mg "_law_same" = some (.ref fa) ∧ Fun K "_law_same" "_law_same" s_25 fa fd
  f45 : ∃ fa fd, mg "_law_among" = some (.ref fa) ∧ Fun K "_law_among" "_law_among" s_45 fa fd
  f46 : ∃ fa fd, mg "_law_is_chart" = some (.ref fa) ∧ Fun K "_law_is_chart" "_law_is_chart" s_46 fa fd
  f39 : ∃ fa fd, mg "_law_make_sights" = some (.ref fa) ∧ Fun K "_law_make_sights" "_law_make_sights" s_39 fa fd
  f40 : ∃ fa fd, mg "_law_crowd" = some (.ref fa) ∧ Fun K "_law_crowd" "_law_crowd" s_40 fa fd
  f47 : ∃ fa fd, mg "_law_early_chart" = some (.ref fa) ∧ Fun K "_law_early_chart" "_law_early_chart" s_47 fa fd
  f41 : ∃ fa fd, mg "_law_some_sights" = some (.ref fa) ∧ Fun K "_law_some_sights" "_law_some_sights" s_41 fa fd
  f48 : ∃ fa fd, mg "law" = some (.ref fa) ∧ Fun K "law" "law" s_48 fa fd
theorem bi_0 {fa : Addr} {fd : FuncData} (F : Fun K "is_number" "is_number" s_0 fa fd) : Binds K fd P_0 [] := F.binds fun _ _ _ _ _ _ us hl => match us, hl with | [_], _ => rfl
theorem bi_1 {fa : Addr} {fd : FuncData} (F : Fun K "is_pair" "is_pair" s_1 fa fd) : Binds K fd P_1 [] := F.binds fun _ _ _ _ _ _ us hl => match us, hl with | [_], _ => rfl
theorem bi_6 {fa : Addr} {fd : FuncData} (F : Fun K "is_zone" "is_zone" s_6 fa fd) : Binds K fd P_6 [] := F.binds fun _ _ _ _ _ _ us hl => match us, hl with | [_], _ => rfl
theorem bi_7 {fa : Addr} {fd : FuncData} (F : Fun K "check_zone" "check_zone" s_7 fa fd) : Binds K fd P_7 [] := F.binds fun _ _ _ _ _ _ us hl => match us, hl with | [_], _ => rfl
theorem bi_9 {fa : Addr} {fd : FuncData} (F : Fun K "is_offset" "is_offset" s_9 fa fd) : Binds K fd P_9 [] := F.binds fun _ _ _ _ _ _ us hl => match us, hl with | [_, _], _ => rfl
theorem bi_11 {fa : Addr} {fd : FuncData} (F : Fun K "are_marks" "are_marks" s_11 fa fd) : Binds K fd P_11 [] := F.binds fun _ _ _ _ _ _ us hl => match us, hl with | [_, _], _ => rfl
theorem bi_3 {fa : Addr} {fd : FuncData} (F : Fun K "is_ascending" "is_ascending" s_3 fa fd) : Binds K fd P_3 [] := F.binds fun _ _ _ _ _ _ us hl => match us, hl with | [_], _ => rfl
theorem bi_5 {fa : Addr} {fd : FuncData} (F : Fun K "_are_offsets" "_are_offsets" s_5 fa fd) : Binds K fd P_5 [] := F.binds fun _ _ _ _ _ _ us hl => match us, hl with | [_], _ => rfl
theorem bi_4 {fa : Addr} {fd : FuncData} (F : Fun K "_is_near" "_is_near" s_4 fa fd) : Binds K fd P_4 [] := F.binds fun _ _ _ _ _ _ us hl => match us, hl with | [_], _ => rfl
theorem bi_10 {fa : Addr} {fd : FuncData} (F : Fun K "_is_mark" "_is_mark" s_10 fa fd) : Binds K fd P_10 [] := F.binds fun _ _ _ _ _ _ us hl => match us, hl with | [_, _], _ => rfl
theorem bi_44 {fa : Addr} {fd : FuncData} (F : Fun K "early_table" "early_table" s_44 fa fd) : Binds K fd P_44 [] := F.binds fun _ _ _ _ _ _ us hl => match us, hl with | [_, _], _ => rfl
theorem bi_34 {fa : Addr} {fd : FuncData} (F : Fun K "check_looks" "check_looks" s_34 fa fd) : Binds K fd P_34 [] := F.binds fun _ _ _ _ _ _ us hl => match us, hl with | [_, _], _ => rfl
theorem bi_33 {fa : Addr} {fd : FuncData} (F : Fun K "fits_as_looks" "fits_as_looks" s_33 fa fd) : Binds K fd P_33 [] := F.binds fun _ _ _ _ _ _ us hl => match us, hl with | [_, _], _ => rfl
theorem bi_36 {fa : Addr} {fd : FuncData} (F : Fun K "crowded_stretch" "crowded_stretch" s_36 fa fd) : Binds K fd P_36 [] := F.binds fun _ _ _ _ _ _ us hl => match us, hl with | [_, _], _ => rfl
theorem bi_43 {fa : Addr} {fd : FuncData} (F : Fun K "earliest_table" "earliest_table" s_43 fa fd) : Binds K fd P_43 [] := F.binds fun _ _ _ _ _ _ us hl => match us, hl with | [_, _], _ => rfl
theorem bi_35 {fa : Addr} {fd : FuncData} (F : Fun K "_loads" "_loads" s_35 fa fd) : Binds K fd P_35 [] := F.binds fun _ _ _ _ _ _ us hl => match us, hl with | [_, _], _ => rfl
theorem bi_17 {fa : Addr} {fd : FuncData} (F : Fun K "_law_digits" "_law_digits" s_17 fa fd) : Binds K fd P_17 [] := F.binds fun _ _ _ _ _ _ us hl => match us, hl with | [_], _ => rfl
theorem bi_18 {fa : Addr} {fd : FuncData} (F : Fun K "_law_draw" "_law_draw" s_18 fa fd) : Binds K fd P_18 [] := F.binds fun _ _ _ _ _ _ us hl => match us, hl with | [_, _], _ => rfl
theorem bi_19 {fa : Addr} {fd : FuncData} (F : Fun K "_law_any_hour" "_law_any_hour" s_19 fa fd) : Binds K fd P_19 [] := F.binds fun _ _ _ _ _ _ us hl => match us, hl with | [_], _ => rfl
theorem bi_20 {fa : Addr} {fd : FuncData} (F : Fun K "_law_make_region" "_law_make_region" s_20 fa fd) : Binds K fd P_20 [] := F.binds fun _ _ _ _ _ _ us hl => match us, hl with | [_], _ => rfl
theorem bi_22 {fa : Addr} {fd : FuncData} (F : Fun K "_law_shift_at" "_law_shift_at" s_22 fa fd) : Binds K fd P_22 [] := F.binds fun _ _ _ _ _ _ us hl => match us, hl with | [_, _], _ => rfl
theorem bi_24 {fa : Addr} {fd : FuncData} (F : Fun K "_law_whole" "_law_whole" s_24 fa fd) : Binds K fd P_24 [] := F.binds fun _ _ _ _ _ _ us hl => match us, hl with | [_], _ => rfl
theorem bi_25 {fa : Addr} {fd : FuncData} (F : Fun K "_law_same" "_law_same" s_25 fa fd) : Binds K fd P_25 [] := F.binds fun _ _ _ _ _ _ us hl => match us, hl with | [_, _], _ => rfl
theorem bi_45 {fa : Addr} {fd : FuncData} (F : Fun K "_law_among" "_law_among" s_45 fa fd) : Binds K fd P_45 [] := F.binds fun _ _ _ _ _ _ us hl => match us, hl with | [_, _], _ => rfl
theorem bi_46 {fa : Addr} {fd : FuncData} (F : Fun K "_law_is_chart" "_law_is_chart" s_46 fa fd) : Binds K fd P_46 [] := F.binds fun _ _ _ _ _ _ us hl => match us, hl with | [_, _], _ => rfl
theorem bi_39 {fa : Addr} {fd : FuncData} (F : Fun K "_law_make_sights" "_law_make_sights" s_39 fa fd) : Binds K fd P_39 [] := F.binds fun _ _ _ _ _ _ us hl => match us, hl with | [_, _, _], _ => rfl
theorem bi_40 {fa : Addr} {fd : FuncData} (F : Fun K "_law_crowd" "_law_crowd" s_40 fa fd) : Binds K fd P_40 [] := F.binds fun _ _ _ _ _ _ us hl => match us, hl with | [_, _], _ => rfl
theorem bi_47 {fa : Addr} {fd : FuncData} (F : Fun K "_law_early_chart" "_law_early_chart" s_47 fa fd) : Binds K fd P_47 [] := F.binds fun _ _ _ _ _ _ us hl => match us, hl with | [_, _], _ => rfl
theorem bi_41 {fa : Addr} {fd : FuncData} (F : Fun K "_law_some_sights" "_law_some_sights" s_41 fa fd) : Binds K fd P_41 [] := F.binds fun _ _ _ _ _ _ us hl => match us, hl with | [_, _, _], _ => rfl
theorem bi_48 {fa : Addr} {fd : FuncData} (F : Fun K "law" "law" s_48 fa fd) : Binds K fd P_48 [] := F.binds fun _ _ _ _ _ _ us hl => match us, hl with | [_], _ => rfl
theorem all_ok (F : Fs0 K mg) (G : Gs K mg) : ∀ n, Al P w K mg base n
  | 0 => ⟨(let ⟨fa, fd, h1, h2⟩ := F.f0; ⟨fa, fd, h1, h2, fn_ok0 h2 sc_0, bi_0 h2⟩), (let ⟨fa, fd, h1, h2⟩ := F.f1; ⟨fa, fd, h1, h2, fn_ok0 h2 sc_1, bi_1 h2⟩), (let ⟨fa, fd, h1, h2⟩ := F.f6; ⟨fa, fd, h1, h2, fn_ok0 h2 sc_6, bi_6 h2⟩), (let ⟨fa, fd, h1, h2⟩ := F.f7; ⟨fa, fd, h1, h2, fn_ok0 h2 sc_7, bi_7 h2⟩), (let ⟨fa, fd, h1, h2⟩ := F.f9; ⟨fa, fd, h1, h2, fn_ok0 h2 sc_9, bi_9 h2⟩), (let ⟨fa, fd, h1, h2⟩ := F.f11; ⟨fa, fd, h1, h2, fn_ok0 h2 sc_11, bi_11 h2⟩), (let ⟨fa, fd, h1, h2⟩ := F.f3; ⟨fa, fd, h1, h2, fn_ok0 h2 sc_3, bi_3 h2⟩), (let ⟨fa, fd, h1, h2⟩ := F.f5; ⟨fa, fd, h1, h2, fn_ok0 h2 sc_5, bi_5 h2⟩), (let ⟨fa, fd, h1, h2⟩ := F.f4; ⟨fa, fd, h1, h2, fn_ok0 h2 sc_4, bi_4 h2⟩), (let ⟨fa, fd, h1, h2⟩ := F.f10; ⟨fa, fd, h1, h2, fn_ok0 h2 sc_10, bi_10 h2⟩), (let ⟨fa, fd, h1, h2⟩ := F.f44; ⟨fa, fd, h1, h2, fn_ok0 h2 sc_44, bi_44 h2⟩), (let ⟨fa, fd, h1, h2⟩ := F.f34; ⟨fa, fd, h1, h2, fn_ok0 h2 sc_34, bi_34 h2⟩), (let ⟨fa, fd, h1, h2⟩ := F.f33; ⟨fa, fd, h1, h2, fn_ok0 h2 sc_33, bi_33 h2⟩), (let ⟨fa, fd, h1, h2⟩ := F.f36; ⟨fa, fd, h1, h2, fn_ok0 h2 sc_36, bi_36 h2⟩), (let ⟨fa, fd, h1, h2⟩ := F.f43; ⟨fa, fd, h1, h2, fn_ok0 h2 sc_43, bi_43 h2⟩), (let ⟨fa, fd, h1, h2⟩ := F.f35; ⟨fa, fd, h1, h2, fn_ok0 h2 sc_35, bi_35 h2⟩), (let ⟨fa, fd, h1, h2⟩ := F.f17; ⟨fa, fd, h1, h2, fn_ok0 h2 sc_17, bi_17 h2⟩), (let ⟨fa, fd, h1, h2⟩ := F.f18; ⟨fa, fd, h1, h2, fn_ok0 h2 sc_18, bi_18 h2⟩), (let ⟨fa, fd, h1, h2⟩ := F.f19; ⟨fa, fd, h1, h2, fn_ok0 h2 sc_19, bi_19 h2⟩), (let ⟨fa, fd, h1, h2⟩ := F.f20; ⟨fa, fd, h1, h2, fn_ok0 h2 sc_20, bi_20 h2⟩), (let ⟨fa, fd, h1, h2⟩ := F.f22; ⟨fa, fd, h1, h2, fn_ok0 h2 sc_22, bi_22 h2⟩), (let ⟨fa, fd, h1, h2⟩ := F.f24; ⟨fa, fd, h1, h2, fn_ok0 h2 sc_24, bi_24 h2⟩), (let ⟨fa, fd, h1, h2⟩ := F.f25; ⟨fa, fd, h1, h2, fn_ok0 h2 sc_25, bi_25 h2⟩), (let ⟨fa, fd, h1, h2⟩ := F.f45; ⟨fa, fd, h1, h2, fn_ok0 h2 sc_45, bi_45 h2⟩), (let ⟨fa, fd, h1, h2⟩ := F.f46; ⟨fa, fd, h1, h2, fn_ok0 h2 sc_46, bi_46 h2⟩), (let ⟨fa, fd, h1, h2⟩ := F.f39; ⟨fa, fd, h1, h2, fn_ok0 h2 sc_39, bi_39 h2⟩), (let ⟨fa, fd, h1, h2⟩ := F.f40; ⟨fa, fd, h1, h2, fn_ok0 h2 sc_40, bi_40 h2⟩), (let ⟨fa, fd, h1, h2⟩ := F.f47; ⟨fa, fd, h1, h2, fn_ok0 h2 sc_47, bi_47 h2⟩), (let ⟨fa, fd, h1, h2⟩ := F.f41; ⟨fa, fd, h1, h2, fn_ok0 h2 sc_41, bi_41 h2⟩), (let ⟨fa, fd, h1, h2⟩ := F.f48; ⟨fa, fd, h1, h2, fn_ok0 h2 sc_48, bi_48 h2⟩)⟩
  | n + 1 => have A := all_ok F G n; ⟨(let ⟨fa, fd, h1, h2⟩ := F.f0; ⟨fa, fd, h1, h2, fn_ok h2 sc_0 rfl rfl rfl (fun cdv Ar outer s H E hr => d_0 A G fa cdv Ar outer s H E hr), bi_0 h2⟩),
    (let ⟨fa, fd, h1, h2⟩ := F.f1; ⟨fa, fd, h1, h2, fn_ok h2 sc_1 rfl rfl rfl (fun cdv Ar outer s H E hr => d_1 A G fa cdv Ar outer s H E hr), bi_1 h2⟩),
    (let ⟨fa, fd, h1, h2⟩ := F.f6; ⟨fa, fd, h1, h2, fn_ok h2 sc_6 rfl rfl rfl (fun cdv Ar outer s H E hr => d_6 A G fa cdv Ar outer s H E hr), bi_6 h2⟩),
    (let ⟨fa, fd, h1, h2⟩ := F.f7; ⟨fa, fd, h1, h2, fn_ok h2 sc_7 rfl rfl rfl (fun cdv Ar outer s H E hr => d_7 A G fa cdv Ar outer s H E hr), bi_7 h2⟩),
    (let ⟨fa, fd, h1, h2⟩ := F.f9; ⟨fa, fd, h1, h2, fn_ok h2 sc_9 rfl rfl rfl (fun cdv Ar outer s H E hr => d_9 A G fa cdv Ar outer s H E hr), bi_9 h2⟩),
    (let ⟨fa, fd, h1, h2⟩ := F.f11; ⟨fa, fd, h1, h2, fn_ok h2 sc_11 rfl rfl rfl (fun cdv Ar outer s H E hr => d_11 A G fa cdv Ar outer s H E hr), bi_11 h2⟩),
    (let ⟨fa, fd, h1, h2⟩ := F.f3; ⟨fa, fd, h1, h2, fn_ok h2 sc_3 rfl rfl rfl (fun cdv Ar outer s H E hr => d_3 A G fa cdv Ar outer s H E hr), bi_3 h2⟩),
    (let ⟨fa, fd, h1, h2⟩ := F.f5; ⟨fa, fd, h1, h2, fn_ok h2 sc_5 rfl rfl rfl (fun cdv Ar outer s H E hr => d_5 A G fa cdv Ar outer s H E hr), bi_5 h2⟩),
    (let ⟨fa, fd, h1, h2⟩ := F.f4; ⟨fa, fd, h1, h2, fn_ok h2 sc_4 rfl rfl rfl (fun cdv Ar outer s H E hr => d_4 A G fa cdv Ar outer s H E hr), bi_4 h2⟩),
    (let ⟨fa, fd, h1, h2⟩ := F.f10; ⟨fa, fd, h1, h2, fn_ok h2 sc_10 rfl rfl rfl (fun cdv Ar outer s H E hr => d_10 A G fa cdv Ar outer s H E hr), bi_10 h2⟩),
    (let ⟨fa, fd, h1, h2⟩ := F.f44; ⟨fa, fd, h1, h2, fn_ok h2 sc_44 rfl rfl rfl (fun cdv Ar outer s H E hr => d_44 A G fa cdv Ar outer s H E hr), bi_44 h2⟩),
    (let ⟨fa, fd, h1, h2⟩ := F.f34; ⟨fa, fd, h1, h2, fn_ok h2 sc_34 rfl rfl rfl (fun cdv Ar outer s H E hr => d_34 A G fa cdv Ar outer s H E hr), bi_34 h2⟩),
    (let ⟨fa, fd, h1, h2⟩ := F.f33; ⟨fa, fd, h1, h2, fn_ok h2 sc_33 rfl rfl rfl (fun cdv Ar outer s H E hr => d_33 A G fa cdv Ar outer s H E hr), bi_33 h2⟩),
    (let ⟨fa, fd, h1, h2⟩ := F.f36; ⟨fa, fd, h1, h2, fn_ok h2 sc_36 rfl rfl rfl (fun cdv Ar outer s H E hr => d_36 A G fa cdv Ar outer s H E hr), bi_36 h2⟩),
    (let ⟨fa, fd, h1, h2⟩ := F.f43; ⟨fa, fd, h1, h2, fn_ok h2 sc_43 rfl rfl rfl (fun cdv Ar outer s H E hr => d_43 A G fa cdv Ar outer s H E hr), bi_43 h2⟩),
    (let ⟨fa, fd, h1, h2⟩ := F.f35; ⟨fa, fd, h1, h2, fn_ok h2 sc_35 rfl rfl rfl (fun cdv Ar outer s H E hr => d_35 A G fa cdv Ar outer s H E hr), bi_35 h2⟩),
    (let ⟨fa, fd, h1, h2⟩ := F.f17; ⟨fa, fd, h1, h2, fn_ok h2 sc_17 rfl rfl rfl (fun cdv Ar outer s H E hr => d_17 A G fa cdv Ar outer s H E hr), bi_17 h2⟩),
    (let ⟨fa, fd, h1, h2⟩ := F.f18; ⟨fa, fd, h1, h2, fn_ok h2 sc_18 rfl rfl rfl (fun cdv Ar outer s H E hr => d_18 A G fa cdv Ar outer s H E hr), bi_18 h2⟩),
    (let ⟨fa, fd, h1, h2⟩ := F.f19; ⟨fa, fd, h1, h2, fn_ok h2 sc_19 rfl rfl rfl (fun cdv Ar outer s H E hr => d_19 A G fa cdv Ar outer s H E hr), bi_19 h2⟩),
    (let ⟨fa, fd, h1, h2⟩ := F.f20; ⟨fa, fd, h1, h2, fn_ok h2 sc_20 rfl rfl rfl (fun cdv Ar outer s H E hr => d_20 A G fa cdv Ar outer s H E hr), bi_20 h2⟩),
    (let ⟨fa, fd, h1, h2⟩ := F.f22; ⟨fa, fd, h1, h2, fn_ok h2 sc_22 rfl rfl rfl (fun cdv Ar outer s H E hr => d_22 A G fa cdv Ar outer s H E hr), bi_22 h2⟩),
    (let ⟨fa, fd, h1, h2⟩ := F.f24; ⟨fa, fd, h1, h2, fn_ok h2 sc_24 rfl rfl rfl (fun cdv Ar outer s H E hr => d_24 A G fa cdv Ar outer s H E hr), bi_24 h2⟩),
    (let ⟨fa, fd, h1, h2⟩ := F.f25; ⟨fa, fd, h1, h2, fn_ok h2 sc_25 rfl rfl rfl (fun cdv Ar outer s H E hr => d_25 A G fa cdv Ar outer s H E hr), bi_25 h2⟩),
    (let ⟨fa, fd, h1, h2⟩ := F.f45; ⟨fa, fd, h1, h2, fn_ok h2 sc_45 rfl rfl rfl (fun cdv Ar outer s H E hr => d_45 A G fa cdv Ar outer s H E hr), bi_45 h2⟩),
    (let ⟨fa, fd, h1, h2⟩ := F.f46; ⟨fa, fd, h1, h2, fn_ok h2 sc_46 rfl rfl rfl (fun cdv Ar outer s H E hr => d_46 A G fa cdv Ar outer s H E hr), bi_46 h2⟩),
    (let ⟨fa, fd, h1, h2⟩ := F.f39; ⟨fa, fd, h1, h2, fn_ok h2 sc_39 rfl rfl rfl (fun cdv Ar outer s H E hr => d_39 A G fa cdv Ar outer s H E hr), bi_39 h2⟩),
    (let ⟨fa, fd, h1, h2⟩ := F.f40; ⟨fa, fd, h1, h2, fn_ok h2 sc_40 rfl rfl rfl (fun cdv Ar outer s H E hr => d_40 A G fa cdv Ar outer s H E hr), bi_40 h2⟩),
    (let ⟨fa, fd, h1, h2⟩ := F.f47; ⟨fa, fd, h1, h2, fn_ok h2 sc_47 rfl rfl rfl (fun cdv Ar outer s H E hr => d_47 A G fa cdv Ar outer s H E hr), bi_47 h2⟩),
    (let ⟨fa, fd, h1, h2⟩ := F.f41; ⟨fa, fd, h1, h2, fn_ok h2 sc_41 rfl rfl rfl (fun cdv Ar outer s H E hr => d_41 A G fa cdv Ar outer s H E hr), bi_41 h2⟩),
    (let ⟨fa, fd, h1, h2⟩ := F.f48; ⟨fa, fd, h1, h2, fn_ok h2 sc_48 rfl rfl rfl (fun cdv Ar outer s H E hr => d_48 A G fa cdv Ar outer s H E hr), bi_48 h2⟩)⟩
end
theorem all_mk {l : PySem.W.OpenLaw} {w : World} {K : PySem.W.Frag} {h : Heap} {mg : Str → Option Value} {fa f0 f1 f6 f7 f9 f11 f3 f5 f4 f10 f44 f34 f33 f36 f43 f35 f17 f18 f19 f20 f22 f24 f25 f45 f46 f39 f40 f47 f41 f48 : Addr} (X : K.In h) (G : h.Ns mainGlobals mg) (hfa : mg "law" = some (.ref fa))
    {od0 an0 od1 an1 od6 an6 od7 an7 od9 an9 od11 an11 od3 an3 od5 an5 od4 an4 od10 an10 od44 an44 od34 an34 od33 an33 od36 an36 od43 an43 od35 an35 od17 an17 od18 an18 od19 an19 od20 an20 od22 an22 od24 an24 od25 an25 od45 an45 od46 an46 od39 an39 od40 an40 od47 an47 od41 an41 od48 an48 : Option Addr} {sl0 sl1 sl6 sl7 sl9 sl11 sl3 sl5 sl4 sl10 sl44 sl34 sl33 sl36 sl43 sl35 sl17 sl18 sl19 sl20 sl22 sl24 sl25 sl45 sl46 sl39 sl40 sl47 sl41 sl48 : Array (Option Value)} {oc0 kV0 dc0 pm0 cd0 ct0 oc1 kV1 dc1 pm1 cd1 ct1 oc6 kV6 dc6 pm6 cd6 ct6 oc7 kV7 dc7 pm7 cd7 ct7 oc9 kV9 dc9 pm9 cd9 ct9 oc11 kV11 dc11 pm11 cd11 ct11 oc3 kV3 dc3 pm3 cd3 ct3 oc5 kV5 dc5 pm5 cd5 ct5 oc4 kV4 dc4 pm4 cd4 ct4 oc10 kV10 dc10 pm10 cd10 ct10 oc44 kV44 dc44 pm44 cd44 ct44 oc34 kV34 dc34 pm34 cd34 ct34 oc33 kV33 dc33 pm33 cd33 ct33 oc36 kV36 dc36 pm36 cd36 ct36 oc43 kV43 dc43 pm43 cd43 ct43 oc35 kV35 dc35 pm35 cd35 ct35 oc17 kV17 dc17 pm17 cd17 ct17 oc18 kV18 dc18 pm18 cd18 ct18 oc19 kV19 dc19 pm19 cd19 ct19 oc20 kV20 dc20 pm20 cd20 ct20 oc22 kV22 dc22 pm22 cd22 ct22 oc24 kV24 dc24 pm24 cd24 ct24 oc25 kV25 dc25 pm25 cd25 ct25 oc45 kV45 dc45 pm45 cd45 ct45 oc46 kV46 dc46 pm46 cd46 ct46 oc39 kV39 dc39 pm39 cd39 ct39 oc40 kV40 dc40 pm40 cd40 ct40 oc47 kV47 dc47 pm47 cd47 ct47 oc41 kV41 dc41 pm41 cd41 ct41 oc48 kV48 dc48 pm48 cd48 ct48 : Value}
    (a0 : PySem.W.nsIn K mainGlobals "is_number" = some (some (.ref f0))) (l0 : K.lookup f0 = some ⟨oc0, od0, .func (PySem.W.fnOf "is_number" "is_number" (defArgs s_0) (defBody s_0) (defScope s_0) .none kV0 dc0 pm0 an0 cd0 ct0), sl0⟩) (c0 : PySem.W.codeIn K cd0 "is_number" = true) (k0 : PySem.W.keepIn K (.ref f0) = true)
    (a1 : PySem.W.nsIn K mainGlobals "is_pair" = some (some (.ref f1))) (l1 : K.lookup f1 = some ⟨oc1, od1, .func (PySem.W.fnOf "is_pair" "is_pair" (defArgs s_1) (defBody s_1) (defScope s_1) .none kV1 dc1 pm1 an1 cd1 ct1), sl1⟩) (c1 : PySem.W.codeIn K cd1 "is_pair" = true) (k1 : PySem.W.keepIn K (.ref f1) = true)
    (a6 : PySem.W.nsIn K mainGlobals "is_zone" = some (some (.ref f6))) (l6 : K.lookup f6 = some ⟨oc6, od6, .func (PySem.W.fnOf "is_zone" "is_zone" (defArgs s_6) (defBody s_6) (defScope s_6) .none kV6 dc6 pm6 an6 cd6 ct6), sl6⟩) (c6 : PySem.W.codeIn K cd6 "is_zone" = true) (k6 : PySem.W.keepIn K (.ref f6) = true)
    (a7 : PySem.W.nsIn K mainGlobals "check_zone" = some (some (.ref f7))) (l7 : K.lookup f7 = some ⟨oc7, od7, .func (PySem.W.fnOf "check_zone" "check_zone" (defArgs s_7) (defBody s_7) (defScope s_7) .none kV7 dc7 pm7 an7 cd7 ct7), sl7⟩) (c7 : PySem.W.codeIn K cd7 "check_zone" = true) (k7 : PySem.W.keepIn K (.ref f7) = true)
    (a9 : PySem.W.nsIn K mainGlobals "is_offset" = some (some (.ref f9))) (l9 : K.lookup f9 = some ⟨oc9, od9, .func (PySem.W.fnOf "is_offset" "is_offset" (defArgs s_9) (defBody s_9) (defScope s_9) .none kV9 dc9 pm9 an9 cd9 ct9), sl9⟩) (c9 : PySem.W.codeIn K cd9 "is_offset" = true) (k9 : PySem.W.keepIn K (.ref f9) = true)
    (a11 : PySem.W.nsIn K mainGlobals "are_marks" = some (some (.ref f11))) (l11 : K.lookup f11 = some ⟨oc11, od11, .func (PySem.W.fnOf "are_marks" "are_marks" (defArgs s_11) (defBody s_11) (defScope s_11) .none kV11 dc11 pm11 an11 cd11 ct11), sl11⟩) (c11 : PySem.W.codeIn K cd11 "are_marks" = true) (k11 : PySem.W.keepIn K (.ref f11) = true)
    (a3 : PySem.W.nsIn K mainGlobals "is_ascending" = some (some (.ref f3))) (l3 : K.lookup f3 = some ⟨oc3, od3, .func (PySem.W.fnOf "is_ascending" "is_ascending" (defArgs s_3) (defBody s_3) (defScope s_3) .none kV3 dc3 pm3 an3 cd3 ct3), sl3⟩) (c3 : PySem.W.codeIn K cd3 "is_ascending" = true) (k3 : PySem.W.keepIn K (.ref f3) = true)
    (a5 : PySem.W.nsIn K mainGlobals "_are_offsets" = some (some (.ref f5))) (l5 : K.lookup f5 = some ⟨oc5, od5, .func (PySem.W.fnOf "_are_offsets" "_are_offsets" (defArgs s_5) (defBody s_5) (defScope s_5) .none kV5 dc5 pm5 an5 cd5 ct5), sl5⟩) (c5 : PySem.W.codeIn K cd5 "_are_offsets" = true) (k5 : PySem.W.keepIn K (.ref f5) = true)
    (a4 : PySem.W.nsIn K mainGlobals "_is_near" = some (some (.ref f4))) (l4 : K.lookup f4 = some ⟨oc4, od4, .func (PySem.W.fnOf "_is_near" "_is_near" (defArgs s_4) (defBody s_4) (defScope s_4) .none kV4 dc4 pm4 an4 cd4 ct4), sl4⟩) (c4 : PySem.W.codeIn K cd4 "_is_near" = true) (k4 : PySem.W.keepIn K (.ref f4) = true)
    (a10 : PySem.W.nsIn K mainGlobals "_is_mark" = some (some (.ref f10))) (l10 : K.lookup f10 = some ⟨oc10, od10, .func (PySem.W.fnOf "_is_mark" "_is_mark" (defArgs s_10) (defBody s_10) (defScope s_10) .none kV10 dc10 pm10 an10 cd10 ct10), sl10⟩) (c10 : PySem.W.codeIn K cd10 "_is_mark" = true) (k10 : PySem.W.keepIn K (.ref f10) = true)
    (a44 : PySem.W.nsIn K mainGlobals "early_table" = some (some (.ref f44))) (l44 : K.lookup f44 = some ⟨oc44, od44, .func (PySem.W.fnOf "early_table" "early_table" (defArgs s_44) (defBody s_44) (defScope s_44) .none kV44 dc44 pm44 an44 cd44 ct44), sl44⟩) (c44 : PySem.W.codeIn K cd44 "early_table" = true) (k44 : PySem.W.keepIn K (.ref f44) = true)
    (a34 : PySem.W.nsIn K mainGlobals "check_looks" = some (some (.ref f34))) (l34 : K.lookup f34 = some ⟨oc34, od34, .func (PySem.W.fnOf "check_looks" "check_looks" (defArgs s_34) (defBody s_34) (defScope s_34) .none kV34 dc34 pm34 an34 cd34 ct34), sl34⟩) (c34 : PySem.W.codeIn K cd34 "check_looks" = true) (k34 : PySem.W.keepIn K (.ref f34) = true)
    (a33 : PySem.W.nsIn K mainGlobals "fits_as_looks" = some (some (.ref f33))) (l33 : K.lookup f33 = some ⟨oc33, od33, .func (PySem.W.fnOf "fits_as_looks" "fits_as_looks" (defArgs s_33) (defBody s_33) (defScope s_33) .none kV33 dc33 pm33 an33 cd33 ct33), sl33⟩) (c33 : PySem.W.codeIn K cd33 "fits_as_looks" = true) (k33 : PySem.W.keepIn K (.ref f33) = true)
    (a36 : PySem.W.nsIn K mainGlobals "crowded_stretch" = some (some (.ref f36))) (l36 : K.lookup f36 = some ⟨oc36, od36, .func (PySem.W.fnOf "crowded_stretch" "crowded_stretch" (defArgs s_36) (defBody s_36) (defScope s_36) .none kV36 dc36 pm36 an36 cd36 ct36), sl36⟩) (c36 : PySem.W.codeIn K cd36 "crowded_stretch" = true) (k36 : PySem.W.keepIn K (.ref f36) = true)
    (a43 : PySem.W.nsIn K mainGlobals "earliest_table" = some (some (.ref f43))) (l43 : K.lookup f43 = some ⟨oc43, od43, .func (PySem.W.fnOf "earliest_table" "earliest_table" (defArgs s_43) (defBody s_43) (defScope s_43) .none kV43 dc43 pm43 an43 cd43 ct43), sl43⟩) (c43 : PySem.W.codeIn K cd43 "earliest_table" = true) (k43 : PySem.W.keepIn K (.ref f43) = true)
    (a35 : PySem.W.nsIn K mainGlobals "_loads" = some (some (.ref f35))) (l35 : K.lookup f35 = some ⟨oc35, od35, .func (PySem.W.fnOf "_loads" "_loads" (defArgs s_35) (defBody s_35) (defScope s_35) .none kV35 dc35 pm35 an35 cd35 ct35), sl35⟩) (c35 : PySem.W.codeIn K cd35 "_loads" = true) (k35 : PySem.W.keepIn K (.ref f35) = true)
    (a17 : PySem.W.nsIn K mainGlobals "_law_digits" = some (some (.ref f17))) (l17 : K.lookup f17 = some ⟨oc17, od17, .func (PySem.W.fnOf "_law_digits" "_law_digits" (defArgs s_17) (defBody s_17) (defScope s_17) .none kV17 dc17 pm17 an17 cd17 ct17), sl17⟩) (c17 : PySem.W.codeIn K cd17 "_law_digits" = true) (k17 : PySem.W.keepIn K (.ref f17) = true)
    (a18 : PySem.W.nsIn K mainGlobals "_law_draw" = some (some (.ref f18))) (l18 : K.lookup f18 = some ⟨oc18, od18, .func (PySem.W.fnOf "_law_draw" "_law_draw" (defArgs s_18) (defBody s_18) (defScope s_18) .none kV18 dc18 pm18 an18 cd18 ct18), sl18⟩) (c18 : PySem.W.codeIn K cd18 "_law_draw" = true) (k18 : PySem.W.keepIn K (.ref f18) = true)
    (a19 : PySem.W.nsIn K mainGlobals "_law_any_hour" = some (some (.ref f19))) (l19 : K.lookup f19 = some ⟨oc19, od19, .func (PySem.W.fnOf "_law_any_hour" "_law_any_hour" (defArgs s_19) (defBody s_19) (defScope s_19) .none kV19 dc19 pm19 an19 cd19 ct19), sl19⟩) (c19 : PySem.W.codeIn K cd19 "_law_any_hour" = true) (k19 : PySem.W.keepIn K (.ref f19) = true)
    (a20 : PySem.W.nsIn K mainGlobals "_law_make_region" = some (some (.ref f20))) (l20 : K.lookup f20 = some ⟨oc20, od20, .func (PySem.W.fnOf "_law_make_region" "_law_make_region" (defArgs s_20) (defBody s_20) (defScope s_20) .none kV20 dc20 pm20 an20 cd20 ct20), sl20⟩) (c20 : PySem.W.codeIn K cd20 "_law_make_region" = true) (k20 : PySem.W.keepIn K (.ref f20) = true)
    (a22 : PySem.W.nsIn K mainGlobals "_law_shift_at" = some (some (.ref f22))) (l22 : K.lookup f22 = some ⟨oc22, od22, .func (PySem.W.fnOf "_law_shift_at" "_law_shift_at" (defArgs s_22) (defBody s_22) (defScope s_22) .none kV22 dc22 pm22 an22 cd22 ct22), sl22⟩) (c22 : PySem.W.codeIn K cd22 "_law_shift_at" = true) (k22 : PySem.W.keepIn K (.ref f22) = true)
    (a24 : PySem.W.nsIn K mainGlobals "_law_whole" = some (some (.ref f24))) (l24 : K.lookup f24 = some ⟨oc24, od24, .func (PySem.W.fnOf "_law_whole" "_law_whole" (defArgs s_24) (defBody s_24) (defScope s_24) .none kV24 dc24 pm24 an24 cd24 ct24), sl24⟩) (c24 : PySem.W.codeIn K cd24 "_law_whole" = true) (k24 : PySem.W.keepIn K (.ref f24) = true)
    (a25 : PySem.W.nsIn K mainGlobals "_law_same" = some (some (.ref f25))) (l25 : K.lookup f25 = some ⟨oc25, od25, .func (PySem.W.fnOf "_law_same" "_law_same" (defArgs s_25) (defBody s_25) (defScope s_25) .none kV25 dc25 pm25 an25 cd25 ct25), sl25⟩) (c25 : PySem.W.codeIn K cd25 "_law_same" = true) (k25 : PySem.W.keepIn K (.ref f25) = true)
    (a45 : PySem.W.nsIn K mainGlobals "_law_among" = some (some (.ref f45))) (l45 : K.lookup f45 = some ⟨oc45, od45, .func (PySem.W.fnOf "_law_among" "_law_among" (defArgs s_45) (defBody s_45) (defScope s_45) .none kV45 dc45 pm45 an45 cd45 ct45), sl45⟩) (c45 : PySem.W.codeIn K cd45 "_law_among" = true) (k45 : PySem.W.keepIn K (.ref f45) = true)
    (a46 : PySem.W.nsIn K mainGlobals "_law_is_chart" = some (some (.ref f46))) (l46 : K.lookup f46 = some ⟨oc46, od46, .func (PySem.W.fnOf "_law_is_chart" "_law_is_chart" (defArgs s_46) (defBody s_46) (defScope s_46) .none kV46 dc46 pm46 an46 cd46 ct46), sl46⟩) (c46 : PySem.W.codeIn K cd46 "_law_is_chart" = true) (k46 : PySem.W.keepIn K (.ref f46) = true)
    (a39 : PySem.W.nsIn K mainGlobals "_law_make_sights" = some (some (.ref f39))) (l39 : K.lookup f39 = some ⟨oc39, od39, .func (PySem.W.fnOf "_law_make_sights" "_law_make_sights" (defArgs s_39) (defBody s_39) (defScope s_39) .none kV39 dc39 pm39 an39 cd39 ct39), sl39⟩) (c39 : PySem.W.codeIn K cd39 "_law_make_sights" = true) (k39 : PySem.W.keepIn K (.ref f39) = true)
    (a40 : PySem.W.nsIn K mainGlobals "_law_crowd" = some (some (.ref f40))) (l40 : K.lookup f40 = some ⟨oc40, od40, .func (PySem.W.fnOf "_law_crowd" "_law_crowd" (defArgs s_40) (defBody s_40) (defScope s_40) .none kV40 dc40 pm40 an40 cd40 ct40), sl40⟩) (c40 : PySem.W.codeIn K cd40 "_law_crowd" = true) (k40 : PySem.W.keepIn K (.ref f40) = true)
    (a47 : PySem.W.nsIn K mainGlobals "_law_early_chart" = some (some (.ref f47))) (l47 : K.lookup f47 = some ⟨oc47, od47, .func (PySem.W.fnOf "_law_early_chart" "_law_early_chart" (defArgs s_47) (defBody s_47) (defScope s_47) .none kV47 dc47 pm47 an47 cd47 ct47), sl47⟩) (c47 : PySem.W.codeIn K cd47 "_law_early_chart" = true) (k47 : PySem.W.keepIn K (.ref f47) = true)
    (a41 : PySem.W.nsIn K mainGlobals "_law_some_sights" = some (some (.ref f41))) (l41 : K.lookup f41 = some ⟨oc41, od41, .func (PySem.W.fnOf "_law_some_sights" "_law_some_sights" (defArgs s_41) (defBody s_41) (defScope s_41) .none kV41 dc41 pm41 an41 cd41 ct41), sl41⟩) (c41 : PySem.W.codeIn K cd41 "_law_some_sights" = true) (k41 : PySem.W.keepIn K (.ref f41) = true)
    (a48 : PySem.W.nsIn K mainGlobals "law" = some (some (.ref f48))) (l48 : K.lookup f48 = some ⟨oc48, od48, .func (PySem.W.fnOf "law" "law" (defArgs s_48) (defBody s_48) (defScope s_48) .none kV48 dc48 pm48 an48 cd48 ct48), sl48⟩) (c48 : PySem.W.codeIn K cd48 "law" = true) (k48 : PySem.W.keepIn K (.ref f48) = true)
    (n_all : PySem.W.nsIn K mainGlobals "all" = some none)
    (n_bool : PySem.W.nsIn K mainGlobals "bool" = some none)
    (n_enumerate : PySem.W.nsIn K mainGlobals "enumerate" = some none)
    (n_int : PySem.W.nsIn K mainGlobals "int" = some none)
    (n_isinstance : PySem.W.nsIn K mainGlobals "isinstance" = some none)
    (n_len : PySem.W.nsIn K mainGlobals "len" = some none)
    (n_list : PySem.W.nsIn K mainGlobals "list" = some none)
    (n_max : PySem.W.nsIn K mainGlobals "max" = some none)
    (n_range : PySem.W.nsIn K mainGlobals "range" = some none)
    (n_str : PySem.W.nsIn K mainGlobals "str" = some none)
    (n_tuple : PySem.W.nsIn K mainGlobals "tuple" = some none)
    (n_zip : PySem.W.nsIn K mainGlobals "zip" = some none)
    {t_MOST_SPACING : Tok} (c_MOST_SPACING : PySem.W.nsIn K mainGlobals "MOST_SPACING" = some (some (.int 1000000 t_MOST_SPACING)))
    {t_MOST_OFFSETS : Tok} (c_MOST_OFFSETS : PySem.W.nsIn K mainGlobals "MOST_OFFSETS" = some (some (.int 3 t_MOST_OFFSETS)))
    {t_FARTHEST_OFFSET : Tok} (c_FARTHEST_OFFSET : PySem.W.nsIn K mainGlobals "FARTHEST_OFFSET" = some (some (.int 900 t_FARTHEST_OFFSET)))
    (n : Nat) : ∃ fd : FuncData, (∀ (s : Shared) (v : Value), BindsTo s fd ⟨[v], []⟩ [("_law_script", v)]) ∧ ∀ base : Heap, K.In base → base.Ns mainGlobals mg → FnOk l.prog w K mg base CX0 n fa fd P_48 (spF K (run T n) 48) := by
  have F : Fs0 K mg := ⟨⟨f0, _, PySem.W.mg_of X G a0, fun_mk (st := s_0) l0 c0 k0⟩, ⟨f1, _, PySem.W.mg_of X G a1, fun_mk (st := s_1) l1 c1 k1⟩, ⟨f6, _, PySem.W.mg_of X G a6, fun_mk (st := s_6) l6 c6 k6⟩, ⟨f7, _, PySem.W.mg_of X G a7, fun_mk (st := s_7) l7 c7 k7⟩, ⟨f9, _, PySem.W.mg_of X G a9, fun_mk (st := s_9) l9 c9 k9⟩, ⟨f11, _, PySem.W.mg_of X G a11, fun_mk (st := s_11) l11 c11 k11⟩, ⟨f3, _, PySem.W.mg_of X G a3, fun_mk (st := s_3) l3 c3 k3⟩, ⟨f5, _, PySem.W.mg_of X G a5, fun_mk (st := s_5) l5 c5 k5⟩, ⟨f4, _, PySem.W.mg_of X G a4, fun_mk (st := s_4) l4 c4 k4⟩, ⟨f10, _, PySem.W.mg_of X G a10, fun_mk (st := s_10) l10 c10 k10⟩, ⟨f44, _, PySem.W.mg_of X G a44, fun_mk (st := s_44) l44 c44 k44⟩, ⟨f34, _, PySem.W.mg_of X G a34, fun_mk (st := s_34) l34 c34 k34⟩, ⟨f33, _, PySem.W.mg_of X G a33, fun_mk (st := s_33) l33 c33 k33⟩, ⟨f36, _, PySem.W.mg_of X G a36, fun_mk (st := s_36) l36 c36 k36⟩, ⟨f43, _, PySem.W.mg_of X G a43, fun_mk (st := s_43) l43 c43 k43⟩, ⟨f35, _, PySem.W.mg_of X G a35, fun_mk (st := s_35) l35 c35 k35⟩, ⟨f17, _, PySem.W.mg_of X G a17, fun_mk (st := s_17) l17 c17 k17⟩, ⟨f18, _, PySem.W.mg_of X G a18, fun_mk (st := s_18) l18 c18 k18⟩, ⟨f19, _, PySem.W.mg_of X G a19, fun_mk (st := s_19) l19 c19 k19⟩, ⟨f20, _, PySem.W.mg_of X G a20, fun_mk (st := s_20) l20 c20 k20⟩, ⟨f22, _, PySem.W.mg_of X G a22, fun_mk (st := s_22) l22 c22 k22⟩, ⟨f24, _, PySem.W.mg_of X G a24, fun_mk (st := s_24) l24 c24 k24⟩, ⟨f25, _, PySem.W.mg_of X G a25, fun_mk (st := s_25) l25 c25 k25⟩, ⟨f45, _, PySem.W.mg_of X G a45, fun_mk (st := s_45) l45 c45 k45⟩, ⟨f46, _, PySem.W.mg_of X G a46, fun_mk (st := s_46) l46 c46 k46⟩, ⟨f39, _, PySem.W.mg_of X G a39, fun_mk (st := s_39) l39 c39 k39⟩, ⟨f40, _, PySem.W.mg_of X G a40, fun_mk (st := s_40) l40 c40 k40⟩, ⟨f47, _, PySem.W.mg_of X G a47, fun_mk (st := s_47) l47 c47 k47⟩, ⟨f41, _, PySem.W.mg_of X G a41, fun_mk (st := s_41) l41 c41 k41⟩, ⟨f48, _, PySem.W.mg_of X G a48, fun_mk (st := s_48) l48 c48 k48⟩⟩
  have Gx : Gs K mg := ⟨PySem.W.mg_none_of X G n_all, PySem.W.mg_none_of X G n_bool, PySem.W.mg_none_of X G n_enumerate, PySem.W.mg_none_of X G n_int, PySem.W.mg_none_of X G n_isinstance, PySem.W.mg_none_of X G n_len, PySem.W.mg_none_of X G n_list, PySem.W.mg_none_of X G n_max, PySem.W.mg_none_of X G n_range, PySem.W.mg_none_of X G n_str, PySem.W.mg_none_of X G n_tuple, PySem.W.mg_none_of X G n_zip, ⟨t_MOST_SPACING, PySem.W.mg_of X G c_MOST_SPACING⟩, ⟨t_MOST_OFFSETS, PySem.W.mg_of X G c_MOST_OFFSETS⟩, ⟨t_FARTHEST_OFFSET, PySem.W.mg_of X G c_FARTHEST_OFFSET⟩⟩
  have e := hfa.symm.trans (PySem.W.mg_of X G a48)
  cases e
  refine ⟨PySem.W.fnOf "law" "law" (defArgs s_48) (defBody s_48) (defScope s_48) .none kV48 dc48 pm48 an48 cd48 ct48, fun s v => .of_eq rfl, fun base _ _ => ?_⟩
  obtain ⟨fa', fd', h1, h2, h3, h4⟩ := (all_ok (P := l.prog) (w := w) (base := base) F Gx n).f48.ex
  have e2 := h1.symm.trans (PySem.W.mg_of X G a48)
  cases e2
  obtain ⟨oc, od, kV, doc, pm, an, cdv, ct, osl, e3, lk, hcd⟩ := h2.ex
  rw [lk] at l48
  have e4 := Option.some.inj l48
  injection e4 with e5 e6 e7 e8
  injection e7 with e9
  rw [← e9]
  exact h3
theorem walk {l : PySem.W.OpenLaw} {q : Program} {loose : List Str} {XP : (Str → Option Value) → Heap → Prop} {YP : World → Heap → Prop} {d : DefRec} {K : Params → PySem.W.Frag} (hn : l.most = some 63) (hdf : d.params.defaults = [])
    (hY : ∀ (w : World) (h : Heap), YP w h → (K w.params).In h)
    (F : ∀ (w : World) (mg : Str → Option Value) (fa : Addr) (h : Heap), (K w.params).In h → h.Ns mainGlobals mg → mg d.name = some (.ref fa) →
      ∃ fd : FuncData, (∀ (s : Shared) (u : Value), BindsTo s fd ⟨[u], []⟩ [("_law_script", u)]) ∧ ∀ base : Heap, (K w.params).In base → base.Ns mainGlobals mg → FnOk l.prog w (K w.params) mg base CX0 lev fa fd P_48 (spF (K w.params) (run T lev) 48)) :
    PySem.W.WalkO q loose XP YP l.row.toRowW d [] (fun f vs => PySem.call f vs) :=
  L2.walk_ofB (n := 63) (k := lev) (x := "_law_script") (CX := fun _ => CX0) (sp := fun w => spF (K w.params) (run T lev) 48) hn (by decide) hdf ⟨rfl, by decide, by decide⟩ hY F
    (fun w H a ns hl hb hO hS => by
      obtain ⟨S', e⟩ := law_true ns hl hb
      refine ⟨[], [], [.ro ns], .bl true, S', ⟨rfl, fun i j a h => by simp at h, fun k o a h => by simp at h⟩, Rps.one (.ro ?_), e, fun α' H' v _ _ r => by cases r; rfl⟩
      rcases hS with (h | h) | h
      · rcases hO a with z | ⟨o, xs, z⟩
        · rw [z] at h; cases h
        · rw [z] at h; cases h
      · exact .inl h
      · exact .inr h) fun _ _ _ _ _ z => z
end Lw

open PySem PySem.W PyProof.Rows in
set_option maxRecDepth 100000 in
set_option maxHeartbeats 0 in
theorem PySem.Challenge.cw_hoursmeant_k12_early_tables_holds : PySem.Challenge.rw_hoursmeant_k12_early_tables.Holds := by
  w_on; o_law; k_head; (case hw => w_witness2)
  k_fill
  refine Lw.walk (l := PySem.Challenge.rw_hoursmeant_k12_early_tables) rfl rfl (fun w h Y => PySem.W.kIn_of Y) ?F
  case F =>
    intro w mg fa h KX G hmg
    refine' Lw.all_mk KX G hmg ?a0 ?l0 ?c0 ?k0 ?a1 ?l1 ?c1 ?k1 ?a6 ?l6 ?c6 ?k6 ?a7 ?l7 ?c7 ?k7 ?a9 ?l9 ?c9 ?k9 ?a11 ?l11 ?c11 ?k11 ?a3 ?l3 ?c3 ?k3 ?a5 ?l5 ?c5 ?k5 ?a4 ?l4 ?c4 ?k4 ?a10 ?l10 ?c10 ?k10 ?a44 ?l44 ?c44 ?k44 ?a34 ?l34 ?c34 ?k34 ?a33 ?l33 ?c33 ?k33 ?a36 ?l36 ?c36 ?k36 ?a43 ?l43 ?c43 ?k43 ?a35 ?l35 ?c35 ?k35 ?a17 ?l17 ?c17 ?k17 ?a18 ?l18 ?c18 ?k18 ?a19 ?l19 ?c19 ?k19 ?a20 ?l20 ?c20 ?k20 ?a22 ?l22 ?c22 ?k22 ?a24 ?l24 ?c24 ?k24 ?a25 ?l25 ?c25 ?k25 ?a45 ?l45 ?c45 ?k45 ?a46 ?l46 ?c46 ?k46 ?a39 ?l39 ?c39 ?k39 ?a40 ?l40 ?c40 ?k40 ?a47 ?l47 ?c47 ?k47 ?a41 ?l41 ?c41 ?k41 ?a48 ?l48 ?c48 ?k48 ?n_all ?n_bool ?n_enumerate ?n_int ?n_isinstance ?n_len ?n_list ?n_max ?n_range ?n_str ?n_tuple ?n_zip ?c_MOST_SPACING ?c_MOST_OFFSETS ?c_FARTHEST_OFFSET Lw.lev
    (case a0 => k_is)
    (case l0 => k_is)
    (case c0 => k_is)
    (case k0 => k_is)
    (case a1 => k_is)
    (case l1 => k_is)
    (case c1 => k_is)
    (case k1 => k_is)
    (case a6 => k_is)
    (case l6 => k_is)
    (case c6 => k_is)
    (case k6 => k_is)
    (case a7 => k_is)
    (case l7 => k_is)
    (case c7 => k_is)
    (case k7 => k_is)
    (case a9 => k_is)
    (case l9 => k_is)
    (case c9 => k_is)
    (case k9 => k_is)
    (case a11 => k_is)
    (case l11 => k_is)
    (case c11 => k_is)
    (case k11 => k_is)
    (case a3 => k_is)
    (case l3 => k_is)
    (case c3 => k_is)
    (case k3 => k_is)
    (case a5 => k_is)
    (case l5 => k_is)
    (case c5 => k_is)
    (case k5 => k_is)
    (case a4 => k_is)
    (case l4 => k_is)
    (case c4 => k_is)
    (case k4 => k_is)
    (case a10 => k_is)
    (case l10 => k_is)
    (case c10 => k_is)
    (case k10 => k_is)
    (case a44 => k_is)
    (case l44 => k_is)
    (case c44 => k_is)
    (case k44 => k_is)
    (case a34 => k_is)
    (case l34 => k_is)
    (case c34 => k_is)
    (case k34 => k_is)
    (case a33 => k_is)
    (case l33 => k_is)
    (case c33 => k_is)
    (case k33 => k_is)
    (case a36 => k_is)
    (case l36 => k_is)
    (case c36 => k_is)
    (case k36 => k_is)
    (case a43 => k_is)
    (case l43 => k_is)
    (case c43 => k_is)
    (case k43 => k_is)
    (case a35 => k_is)
    (case l35 => k_is)
    (case c35 => k_is)
    (case k35 => k_is)
    (case a17 => k_is)
    (case l17 => k_is)
    (case c17 => k_is)
    (case k17 => k_is)
    (case a18 => k_is)
    (case l18 => k_is)
    (case c18 => k_is)
    (case k18 => k_is)
    (case a19 => k_is)
    (case l19 => k_is)
    (case c19 => k_is)
    (case k19 => k_is)
    (case a20 => k_is)
    (case l20 => k_is)
    (case c20 => k_is)
    (case k20 => k_is)
    (case a22 => k_is)
    (case l22 => k_is)
    (case c22 => k_is)
    (case k22 => k_is)
    (case a24 => k_is)
    (case l24 => k_is)
    (case c24 => k_is)
    (case k24 => k_is)
    (case a25 => k_is)
    (case l25 => k_is)
    (case c25 => k_is)
    (case k25 => k_is)
    (case a45 => k_is)
    (case l45 => k_is)
    (case c45 => k_is)
    (case k45 => k_is)
    (case a46 => k_is)
    (case l46 => k_is)
    (case c46 => k_is)
    (case k46 => k_is)
    (case a39 => k_is)
    (case l39 => k_is)
    (case c39 => k_is)
    (case k39 => k_is)
    (case a40 => k_is)
    (case l40 => k_is)
    (case c40 => k_is)
    (case k40 => k_is)
    (case a47 => k_is)
    (case l47 => k_is)
    (case c47 => k_is)
    (case k47 => k_is)
    (case a41 => k_is)
    (case l41 => k_is)
    (case c41 => k_is)
    (case k41 => k_is)
    (case a48 => k_is)
    (case l48 => k_is)
    (case c48 => k_is)
    (case k48 => k_is)
    (case n_all => k_is)
    (case n_bool => k_is)
    (case n_enumerate => k_is)
    (case n_int => k_is)
    (case n_isinstance => k_is)
    (case n_len => k_is)
    (case n_list => k_is)
    (case n_max => k_is)
    (case n_range => k_is)
    (case n_str => k_is)
    (case n_tuple => k_is)
    (case n_zip => k_is)
    (case c_MOST_SPACING => k_is)
    (case c_MOST_OFFSETS => k_is)
    (case c_FARTHEST_OFFSET => k_is)


import PyProof.Rows.All
import Wide.All
import OpenK.AllK
import Wide.FinOn
import HandS.ForMost
import HandS.Wide
import HandS.IsInst
import HandS.TupAny
import HandS.Zip
import HandS.Walk
import HandS.Style
import HandS.EndBits
import HandS.Defaults
import HandS.Flow
import HandS.SortInts
import HandS.RaiseMore
import KE.GoesEnum
import KE.GoesMore
import HandS.MakeKwOnly
import HandS.SortRule
import HandS.SetFor
import HandS.Conv
import HandS.Strs
import HandS.NoneIn
import HandS.Deep
import HandS.More
import KE.KExcSuper
import KE.KExcIs
import HandS.Nested
import HandS.ExcInit
import HandS.ExcValue
import HandS.ExcIs
import HandS.FStr
import PySem.Challenge.RW_hoursmeant_k03_tables_looked_at
set_option Elab.async false
set_option linter.all false
set_option maxRecDepth 100000
set_option maxHeartbeats 4000000
/-! A small language of data: its meaning as a function, and that the text's own code means it. -/
namespace Ix
open PySem L2

/-! ### data -/
inductive D where
  | non | bl (b : Bool) | int (i : Int) | str (x : Str) | ty (n : String) | ref (k : Nat) | tup (xs : List D) | ro (xs : List Int) | xcp (c : Str) (ns : List Str) (xs : List D)
inductive O where
  | lst (xs : List D) | dct (kvs : List (Key × D))
abbrev Hd := List O
abbrev Sl := List (Option D)

/-! ### how data lies in the heap -/
/-- a list that stands for good: the script, a list of the module -/
def SqR (K : PySem.W.Frag) (H : Hp) (a : Addr) (xs : List V) : Prop := (∃ o, H a = some (.frz o (.lst xs))) ∨
    ∃ (o : Obj) (its : Array Value) (n : Nat), K.lookup a = some o ∧ o.cls = .type "list" ∧ o.dict = none ∧ o.data = .seq its n ∧ its.size ≤ sizeLine ∧ Vals xs its.toList
/-- what the written part says of an own error class C of the name c -/
structure XCl (K : PySem.W.Frag) (C : Addr) (c : Str) : Prop where
  exc : ExcC K C
  ty : PySem.W.typeIn K (.ref C) = some (.type "type")
  kit : ∀ T ∈ ["int", "bool", "str", "tuple", "list"], PySem.W.subIn K (.ref C) (.type T) = some false
  glob : PySem.W.nsIn K mainGlobals c = some (some (.ref C))
  nm : ∃ cd HE, PySem.W.clsIn K C = some cd ∧ cd.name = c ∧ PySem.W.nsIn K mainGlobals "HourError" = some (some (.ref HE)) ∧ cd.mro = .ref C :: ((if c = "HourError" then [] else [.ref HE]) ++ [.type "ValueError", .type "Exception", .type "BaseException", .type "object"])
/-- an error object at a, of the class at C, with what it keeps -/
inductive XcA (H : Hp) (C a : Addr) : List (Str × V) → Prop where
  | bare (h : H a = some (exo a C none)) : XcA H C a []
  | dict {d : Addr} {fs : List (Str × V)} (h : H a = some (exo a C (some d))) (hd : H d = some (exd d fs)) : XcA H C a fs
inductive Rp (K : PySem.W.Frag) (α : List Addr) (H : Hp) : D → V → Prop where
  | non : Rp K α H .non .non
  | bl (b : Bool) : Rp K α H (.bl b) (.bl b)
  | int (i : Int) : Rp K α H (.int i) (.int i)
  | str (x : Str) : Rp K α H (.str x) (.str x)
  | ty (n : String) : Rp K α H (.ty n) (.ty n)
  | ref {k : Nat} {a : Addr} (h : α[k]? = some a) : Rp K α H (.ref k) (.ref a)
  | tup {xs : List D} {a : Addr} {vs : List V} (h : SqT K H a vs) (l : vs.length = xs.length) (r : ∀ (i : Nat) (x : D) (v : V), xs[i]? = some x → vs[i]? = some v → Rp K α H x v) : Rp K α H (.tup xs) (.ref a)
  | ro {xs : List Int} {a : Addr} (h : SqR K H a (xs.map V.int)) : Rp K α H (.ro xs) (.ref a)
  | xcp {c : Str} {ns : List Str} {xs : List D} {C a : Addr} {vs : List V} (k : XCl K C c) (h : XcA H C a (ns.zip vs)) (ln : ns.length = xs.length) (l : vs.length = xs.length) (r : ∀ (i : Nat) (x : D) (v : V), xs[i]? = some x → vs[i]? = some v → Rp K α H x v) : Rp K α H (.xcp c ns xs) (.ref a)

structure Rps (K : PySem.W.Frag) (α : List Addr) (H : Hp) (xs : List D) (vs : List V) : Prop where
  len : vs.length = xs.length
  at_ : ∀ (i : Nat) (x : D) (v : V), xs[i]? = some x → vs[i]? = some v → Rp K α H x v

/-- what an object is -/
def Ob (K : PySem.W.Frag) (α : List Addr) (H : Hp) : O → HO → Prop
  | .lst xs, .lst vs => Rps K α H xs vs
  | .dct ks, .dK vs => vs.map (·.1) = ks.map (·.1) ∧ Rps K α H (ks.map (·.2)) (vs.map (·.2))
  | _, _ => False
structure Ok (K : PySem.W.Frag) (α : List Addr) (S : Hd) (H : Hp) : Prop where
  len : α.length = S.length
  nd : ∀ (i j : Nat) (a : Addr), α[i]? = some a → α[j]? = some a → i = j
  at_ : ∀ (k : Nat) (o : O) (a : Addr), S[k]? = some o → α[k]? = some a → ∃ u, H a = some u ∧ Ob K α H o u
structure En (K : PySem.W.Frag) (α : List Addr) (H : Hp) (env : Sl) (σ : L2.St) : Prop where
  len : σ.length = env.length
  at_ : ∀ (i : Nat) (d : D), env[i]? = some (some d) → ∃ v, σ[i]? = some (some v) ∧ Rp K α H d v
/-- what lasts -/
structure Xt (K : PySem.W.Frag) (α : List Addr) (H : Hp) (α' : List Addr) (H' : Hp) : Prop where
  pre : ∀ (k : Nat) (a : Addr), α[k]? = some a → α'[k]? = some a
  tup : ∀ (a : Addr) (vs : List V), SqT K H a vs → SqT K H' a vs
  frz : ∀ (a : Addr) (o : Obj) (u : HO), H a = some (.frz o u) → H' a = some (.frz o u)
  ext : ∀ (a : Addr) (φ : Heap → Prop), H a = some (.ext φ) → H' a = some (.ext φ)

section
variable {K : PySem.W.Frag} {α α1 α2 : List Addr} {H H1 H2 : Hp} {d : D} {v : V} {xs : List D} {vs : List V} {S : Hd} {env : Sl} {σ : L2.St}
theorem Xt.refl : Xt K α H α H := ⟨fun _ _ h => h, fun _ _ h => h, fun _ _ _ h => h, fun _ _ h => h⟩
theorem Xt.trans (a : Xt K α H α1 H1) (b : Xt K α1 H1 α2 H2) : Xt K α H α2 H2 := ⟨fun k x h => b.pre k x (a.pre k x h), fun x y h => b.tup x y (a.tup x y h), fun x y z h => b.frz x y z (a.frz x y z h), fun x y h => b.ext x y (a.ext x y h)⟩
theorem Rp.mono (e : Xt K α H α1 H1) (h : Rp K α H d v) : Rp K α1 H1 d v := by
  induction h with
  | non => exact .non
  | bl b => exact .bl b
  | int i => exact .int i
  | str x => exact .str x
  | ty n => exact .ty n
  | ref h => exact .ref (e.pre _ _ h)
  | tup h l r ih => exact .tup (e.tup _ _ h) l ih
  | ro h =>
    rcases h with ⟨o, h⟩ | h
    · exact .ro (.inl ⟨o, e.frz _ _ _ h⟩)
    · exact .ro (.inr h)
  | xcp k h ln l r ih =>
    refine .xcp k ?_ ln l ih
    generalize List.zip _ _ = fs at h ⊢
    cases h with
    | bare h => exact .bare (e.ext _ _ h)
    | dict h hd => exact .dict (e.ext _ _ h) (e.ext _ _ hd)
theorem Rps.mono (e : Xt K α H α1 H1) (h : Rps K α H xs vs) : Rps K α1 H1 xs vs := ⟨h.len, fun i x v a b => (h.at_ i x v a b).mono e⟩
theorem En.mono (e : Xt K α H α1 H1) (h : En K α H env σ) : En K α1 H1 env σ := ⟨h.len, fun i d a => let ⟨v, b, c⟩ := h.at_ i d a; ⟨v, b, c.mono e⟩⟩
theorem Rps.nil : Rps K α H [] [] := ⟨rfl, fun i x v h => by simp at h⟩
theorem Rps.cons (h : Rp K α H d v) (r : Rps K α H xs vs) : Rps K α H (d :: xs) (v :: vs) := by
  refine ⟨by simp [r.len], fun i x w a b => ?_⟩
  cases i with
  | zero =>
    simp at a b
    subst a b
    exact h
  | succ i => exact r.at_ i x w (by simpa using a) (by simpa using b)
theorem Rps.append {ys : List D} {ws : List V} (h : Rps K α H xs vs) (r : Rps K α H ys ws) : Rps K α H (xs ++ ys) (vs ++ ws) := by
  refine ⟨by simp [h.len, r.len], fun i x w a b => ?_⟩
  by_cases hi : i < xs.length
  · rw [List.getElem?_append_left hi] at a
    rw [List.getElem?_append_left (by rw [h.len]; exact hi)] at b
    exact h.at_ i x w a b
  · rw [List.getElem?_append_right (by omega)] at a
    rw [List.getElem?_append_right (by rw [h.len]; omega), h.len] at b
    exact r.at_ _ x w a b
theorem Rps.one (h : Rp K α H d v) : Rps K α H [d] [v] := .cons h .nil
theorem Rps.uncons (h : Rps K α H (d :: xs) vs) : ∃ w ws, vs = w :: ws ∧ Rp K α H d w ∧ Rps K α H xs ws := by
  cases vs with
  | nil =>
    have := h.len
    simp at this
  | cons w ws => exact ⟨w, ws, rfl, h.at_ 0 d w rfl rfl, by have := h.len; simpa using this, fun i x v a b => h.at_ (i + 1) x v (by simpa using a) (by simpa using b)⟩
theorem Rps.unnil (h : Rps K α H [] vs) : vs = [] := List.eq_nil_of_length_eq_zero h.len
theorem Rps.take (h : Rps K α H xs vs) (n : Nat) : Rps K α H (xs.take n) (vs.take n) := by
  refine ⟨by simp [h.len], fun i x w a b => ?_⟩
  rw [List.getElem?_take] at a b
  split at a
  · rw [if_pos (by assumption)] at b
    exact h.at_ i x w a b
  · cases a
theorem Rps.drop (h : Rps K α H xs vs) (n : Nat) : Rps K α H (xs.drop n) (vs.drop n) := by
  refine ⟨by simp [h.len], fun i x w a b => ?_⟩
  rw [List.getElem?_drop] at a b
  exact h.at_ _ x w a b
theorem Rps.set (h : Rps K α H xs vs) (j : Nat) (r : Rp K α H d v) : Rps K α H (xs.set j d) (vs.set j v) := by
  refine ⟨by simp [h.len], fun i x w a b => ?_⟩
  by_cases e : j = i
  · subst e
    rw [List.getElem?_set] at a b
    simp only [if_true] at a b
    split at a
    · split at b
      · cases a
        cases b
        exact r
      · cases b
    · cases a
  · rw [List.getElem?_set_ne e] at a b
    exact h.at_ i x w a b
theorem Rps.reverse (h : Rps K α H xs vs) : Rps K α H xs.reverse vs.reverse := by
  refine ⟨by simp [h.len], fun i x w a b => ?_⟩
  by_cases hi : i < xs.length
  · rw [List.getElem?_reverse hi] at a
    rw [List.getElem?_reverse (by rw [h.len]; exact hi), h.len] at b
    exact h.at_ _ x w a b
  · rw [List.getElem?_eq_none (by simpa using hi)] at a
    cases a
theorem Rps.get (h : Rps K α H xs vs) {i : Nat} {x : D} (a : xs[i]? = some x) : ∃ v, vs[i]? = some v ∧ Rp K α H x v := by
  have hi : i < xs.length := (List.getElem?_eq_some_iff.mp a).1
  have hv : i < vs.length := by rw [h.len]; exact hi
  exact ⟨vs[i], by simp [hv], h.at_ i x _ a (by simp [hv])⟩
theorem Rps.getV (h : Rps K α H xs vs) {i : Nat} {v : V} (b : vs[i]? = some v) : ∃ x, xs[i]? = some x ∧ Rp K α H x v := by
  have hv : i < vs.length := (List.getElem?_eq_some_iff.mp b).1
  have hi : i < xs.length := by rw [← h.len]; exact hv
  exact ⟨xs[i], by simp [hi], h.at_ i _ v (by simp [hi]) b⟩
theorem En.set (h : En K α H env σ) (i : Nat) (r : Rp K α H d v) : En K α H (env.set i (some d)) (σ.set i (some v)) := by
  refine ⟨by simp [h.len], fun j x a => ?_⟩
  by_cases e : i = j
  · subst e
    rw [List.getElem?_set] at a
    simp only [if_true] at a
    split at a
    · cases a
      exact ⟨v, by rw [List.getElem?_set]; simp [h.len, *], r⟩
    · cases a
  · rw [List.getElem?_set_ne e] at a
    obtain ⟨w, b, c⟩ := h.at_ j x a
    exact ⟨w, by rw [List.getElem?_set_ne e]; exact b, c⟩
theorem Ob.mono (e : Xt K α H α1 H1) {o : O} {u : HO} (h : Ob K α H o u) : Ob K α1 H1 o u := by
  cases o with
  | lst xs =>
    cases u with
    | lst vs => exact Rps.mono e h
    | _ => exact h.elim
  | dct xs =>
    cases u with
    | dK vs => exact ⟨h.1, h.2.mono e⟩
    | _ => exact h.elim

/-- a new object that data knows -/
theorem Xt.fresh {p : Addr} {u : HO} (hp : H p = none) : Xt K α H α (upd H p u) :=
  ⟨fun _ _ h => h, fun a vs h => by
    rcases h with (h | ⟨o, h⟩) | h
    · exact .inl (.inl (by rw [upd_ne (ne_of_none h hp)]; exact h))
    · exact .inl (.inr ⟨o, by rw [upd_ne (ne_of_none h hp)]; exact h⟩)
    · exact .inr h, fun a o u h => by rw [upd_ne (ne_of_none h hp)]; exact h, fun a φ h => by rw [upd_ne (ne_of_none h hp)]; exact h⟩
theorem Ok.fresh {p : Addr} {u : HO} (ok : Ok K α S H) (hp : H p = none) : Ok K α S (upd H p u) :=
  ⟨ok.len, ok.nd, fun k o a h1 h2 => by
    obtain ⟨w, e, b⟩ := ok.at_ k o a h1 h2
    exact ⟨w, by rw [upd_ne (ne_of_none e hp)]; exact e, b.mono (Xt.fresh hp)⟩⟩
theorem Xt.snoc {p : Addr} (hp : H p = none) {u : HO} : Xt K α H (α ++ [p]) (upd H p u) :=
  ⟨fun k a h => by rw [List.getElem?_append_left (List.getElem?_eq_some_iff.mp h).1]; exact h, (Xt.fresh (K := K) (α := α) hp).tup, (Xt.fresh (K := K) (α := α) hp).frz, (Xt.fresh (K := K) (α := α) hp).ext⟩
theorem Ok.snoc {p : Addr} {o : O} {u : HO} (ok : Ok K α S H) (hp : H p = none) (b : Ob K α H o u) : Ok K (α ++ [p]) (S ++ [o]) (upd H p u) := by
  have old : ∀ (i : Nat) (a : Addr), α[i]? = some a → a ≠ p := fun i a h => by
    have hi : i < S.length := by rw [← ok.len]; exact (List.getElem?_eq_some_iff.mp h).1
    obtain ⟨w, e, _⟩ := ok.at_ i _ a (List.getElem?_eq_getElem hi) h
    exact ne_of_none e hp
  have spl : ∀ (i : Nat) (a : Addr), (α ++ [p])[i]? = some a → (i < α.length ∧ α[i]? = some a) ∨ (i = α.length ∧ a = p) := fun i a h => by
    by_cases hi : i < α.length
    · rw [List.getElem?_append_left hi] at h
      exact .inl ⟨hi, h⟩
    · rw [List.getElem?_append_right (by omega)] at h
      have h0 : i - α.length = 0 := by
        have := (List.getElem?_eq_some_iff.mp h).1
        simp at this
        omega
      rw [h0] at h
      simp at h
      exact .inr ⟨by omega, h.symm⟩
  refine ⟨by simp [ok.len], fun i j a h1 h2 => ?_, fun k q a h1 h2 => ?_⟩
  · rcases spl i a h1 with ⟨_, q1⟩ | ⟨e1, f1⟩
    · rcases spl j a h2 with ⟨_, q2⟩ | ⟨_, f2⟩
      · exact ok.nd i j a q1 q2
      · exact absurd f2 (old i a q1)
    · rcases spl j a h2 with ⟨_, q2⟩ | ⟨e2, _⟩
      · exact absurd f1 (old j a q2)
      · omega
  · rcases spl k a h2 with ⟨hk, q2⟩ | ⟨e1, f1⟩
    · rw [List.getElem?_append_left (by rw [← ok.len]; exact hk)] at h1
      obtain ⟨w, e, c⟩ := ok.at_ k q a h1 q2
      exact ⟨w, by rw [upd_ne (old k a q2)]; exact e, c.mono (Xt.snoc hp)⟩
    · subst f1
      rw [List.getElem?_append_right (by rw [← ok.len]; omega), e1, ok.len, Nat.sub_self] at h1
      have e : o = q := by simpa using h1
      subst e
      exact ⟨u, upd_same, b.mono (Xt.snoc hp)⟩
theorem Rp.snoc {p : Addr} (hl : α.length = S.length) {H' : Hp} : Rp K (α ++ [p]) H' (.ref S.length) (.ref p) := .ref (by rw [← hl]; simp)
/-- a list of ours is changed -/
theorem Xt.write {p : Addr} {ws : List V} {u : HO} (hp : H p = some (.lst ws)) : Xt K α H α (upd H p u) :=
  ⟨fun _ _ h => h, fun a vs h => by
    rcases h with (h | ⟨o, h⟩) | h
    · exact .inl (.inl (by rw [upd_ne (ne_of h hp (by intro z; cases z))]; exact h))
    · exact .inl (.inr ⟨o, by rw [upd_ne (ne_of h hp (by intro z; cases z))]; exact h⟩)
    · exact .inr h, fun a o u h => by rw [upd_ne (ne_of h hp (by intro z; cases z))]; exact h, fun a φ h => by rw [upd_ne (ne_of h hp (by intro z; cases z))]; exact h⟩
theorem Ok.write {p : Addr} {ws : List V} {o : O} {u : HO} {k : Nat} (ok : Ok K α S H) (hk : α[k]? = some p) (hp : H p = some (.lst ws)) (b : Ob K α H o u) : Ok K α (S.set k o) (upd H p u) := by
  refine ⟨by simp [ok.len], ok.nd, fun j q a h1 h2 => ?_⟩
  by_cases e : k = j
  · subst e
    rw [hk] at h2
    cases h2
    rw [List.getElem?_set] at h1
    simp only [if_true] at h1
    split at h1
    · cases h1
      exact ⟨u, upd_same, b.mono (Xt.write hp)⟩
    · cases h1
  · rw [List.getElem?_set_ne e] at h1
    obtain ⟨w, f, c⟩ := ok.at_ j q a h1 h2
    exact ⟨w, by rw [upd_ne (fun z => e (ok.nd k j a (by rw [z]; exact hk) h2))]; exact f, c.mono (Xt.write hp)⟩
/-- a dict of ours is changed -/
theorem Xt.writeD {p : Addr} {ws : List (Key × V)} {u : HO} (hp : H p = some (.dK ws)) : Xt K α H α (upd H p u) :=
  ⟨fun _ _ h => h, fun a vs h => by
    rcases h with (h | ⟨o, h⟩) | h
    · exact .inl (.inl (by rw [upd_ne (ne_of h hp (by intro z; cases z))]; exact h))
    · exact .inl (.inr ⟨o, by rw [upd_ne (ne_of h hp (by intro z; cases z))]; exact h⟩)
    · exact .inr h, fun a o u h => by rw [upd_ne (ne_of h hp (by intro z; cases z))]; exact h, fun a φ h => by rw [upd_ne (ne_of h hp (by intro z; cases z))]; exact h⟩
theorem Ok.writeD {p : Addr} {ws : List (Key × V)} {o : O} {u : HO} {k : Nat} (ok : Ok K α S H) (hk : α[k]? = some p) (hp : H p = some (.dK ws)) (b : Ob K α H o u) : Ok K α (S.set k o) (upd H p u) := by
  refine ⟨by simp [ok.len], ok.nd, fun j q a h1 h2 => ?_⟩
  by_cases e : k = j
  · subst e
    rw [hk] at h2
    cases h2
    rw [List.getElem?_set] at h1
    simp only [if_true] at h1
    split at h1
    · cases h1
      exact ⟨u, upd_same, b.mono (Xt.writeD hp)⟩
    · cases h1
  · rw [List.getElem?_set_ne e] at h1
    obtain ⟨w, f, c⟩ := ok.at_ j q a h1 h2
    exact ⟨w, by rw [upd_ne (fun z => e (ok.nd k j a (by rw [z]; exact hk) h2))]; exact f, c.mono (Xt.writeD hp)⟩
theorem Ok.dct {k : Nat} {ks : List (Key × D)} {v : V} (ok : Ok K α S H) (h : S[k]? = some (.dct ks)) (r : Rp K α H (.ref k) v) : ∃ a vs, v = .ref a ∧ α[k]? = some a ∧ H a = some (.dK vs) ∧ vs.map (·.1) = ks.map (·.1) ∧ Rps K α H (ks.map (·.2)) (vs.map (·.2)) := by
  cases r with
  | ref e =>
    obtain ⟨u, e2, b⟩ := ok.at_ k _ _ h e
    cases u with
    | dK vs => exact ⟨_, vs, rfl, e, e2, b.1, b.2⟩
    | _ => exact b.elim
theorem Ok.get {k : Nat} {o : O} (ok : Ok K α S H) (h : S[k]? = some o) : ∃ a u, α[k]? = some a ∧ H a = some u ∧ Ob K α H o u := by
  have hk : k < α.length := by rw [ok.len]; exact (List.getElem?_eq_some_iff.mp h).1
  obtain ⟨u, e, b⟩ := ok.at_ k o _ h (List.getElem?_eq_getElem hk)
  exact ⟨_, u, List.getElem?_eq_getElem hk, e, b⟩
theorem Ok.lst {k : Nat} {xs : List D} {v : V} (ok : Ok K α S H) (h : S[k]? = some (.lst xs)) (r : Rp K α H (.ref k) v) : ∃ a vs, v = .ref a ∧ α[k]? = some a ∧ H a = some (.lst vs) ∧ Rps K α H xs vs := by
  cases r with
  | ref e =>
    obtain ⟨u, e2, b⟩ := ok.at_ k _ _ h e
    cases u with
    | lst vs => exact ⟨_, vs, rfl, e, e2, b⟩
    | _ => exact b.elim
end
end Ix

namespace Ix
open PySem L2
/-! ### the language -/
inductive Bo where | add | sub | mul | fdiv | mod | pow
inductive Co where | eq | ne | lt | le | gt | ge | is_ | isnot | in_ | notin
inductive Cd where | eq | ne | in_ | notin
inductive Bl where | len | int_ | max_ | min_ | abs_ | all_ | any_ | tuple_ | list_ | isi | str_ | sum_ | sorted_ | sortp_ | ssort_ | lrange_ | slen | sint
inductive Ik where | seq | range1 | range2 | zip | enum | chars
inductive Mt where | append | clear
inductive G where | name (i : Nat) | tup (g : G) | nil | cons (g h : G)
inductive E where
  | var (i : Nat) | c (d : D) | nop
  | bin (o : Bo) (a b : E) | neg (a : E) | not_ (a : E)
  | cmp (o : Co) (a b : E) | cmpd (o : Cd) (a b : E) | chain (o p : Co) (a b c : E)
  | and_ (a b : E) | or_ (a b : E) | orv (a b : E) | ite (c a b : E)
  | ix (a i : E) | sl (l h : Bool) (a lo hi : E) | rev (a : E)
  | tup (es : E) | lst (es : E) | nil | cons (e es : E)
  | dct (es : E) | dget (a i : E)
  | cix (t : List (Str × D)) (a : E) | cget (t : List (Str × D)) (a : E) | cnts (a b : E) | rpr (a : E)
  | call (f : Nat) (es : E) | callK (f : Nat) (es ks : E) (perm : List Nat)
  | blt (b : Bl) (es : E) | meth (m : Mt) (o es : E)
  | lc (k : Ik) (es : E) (g : G) (ifs elt : E) (own : List Nat)
  | getd (a i d : E) | din (a b : E) | joinS (z : Str) (a : E) | cin (neg : Bool) (t : List (Str × D)) (a : E) | sgn (a b : E) | stw (a : E) (z : Str) | split (a : E) (z : Str)
  | mkx (c : Str) (ns : List Str) (own : Bool) (es : E) | isx (a : E) (c : Str) | attr (a : E) (c n : Str) | mkxK (c : Str) (ns : List Str) (perm : List Nat) (ks : E)
inductive Sx where
  | skip | seq (s t : Sx) | asg (g : G) (e : E) | asgL (g : G) (e : E) | setix (o i e : E) | drop (e : E) | ret (e : E) | retN
  | ite (c : E) (s t : Sx) | for_ (k : Ik) (es : E) (g : G) (b : Sx) | brk | cont | stuck | aug (i : Nat) (o : Bo) (e : E) | while_ (c : E) (b : Sx)
inductive Out where | nx | ret (d : D) | brk | cont

/-! ### operations -/
def most : Nat := 100000
def seqOf (S : Hd) : D → Option (List D)
  | .tup xs => some xs
  | .ref k => match S[k]? with | some (.lst xs) => some xs | _ => none
  | .ro ns => some (ns.map .int)
  | _ => none
def isTup : D → Bool
  | .tup _ => true
  | _ => false
def tru (S : Hd) : D → Option Bool
  | .non => some false
  | .bl b => some b
  | .int i => some (i != 0)
  | .str _ => none
  | .ty _ => none
  | d => (seqOf S d).map fun xs => !xs.isEmpty
def flat : D → Bool
  | .non => true | .bl _ => true | .int _ => true | .str _ => true | _ => false
def eqF : D → D → Bool
  | .non, .non => true
  | .bl a, .bl b => a == b
  | .bl a, .int b => (if a then 1 else 0) == b
  | .int a, .bl b => a == (if b then 1 else 0)
  | .int a, .int b => a == b
  | .str a, .str b => a == b
  | _, _ => false
def alloc (S : Hd) (xs : List D) : D × Hd := (.ref S.length, S ++ [.lst xs])
def binD : Bo → D → D → Hd → Option (D × Hd)
  | .add, .int i, .int j, S => some (.int (i + j), S)
  | .add, .str x, .str y, S => if x.length + y.length ≤ most then some (.str (x ++ y), S) else none
  | .add, .tup xs, .tup ys, S => if xs.length + ys.length ≤ most then some (.tup (xs ++ ys), S) else none
  | .add, .ref a, .ref b, S => match S[a]?, S[b]? with
    | some (.lst xs), some (.lst ys) => if xs.length + ys.length ≤ most then some (alloc S (xs ++ ys)) else none
    | _, _ => none
  | .add, .ro ns, .ref b, S => match S[b]? with
    | some (.lst ys) => if ns.length + ys.length ≤ most then some (alloc S (ns.map .int ++ ys)) else none
    | _ => none
  | .sub, .int i, .int j, S => some (.int (i - j), S)
  | .mul, .int i, .int j, S => if i.natAbs.log2 + j.natAbs.log2 < 1000000 then some (.int (i * j), S) else none
  | .mul, .ref a, .int k, S => match S[a]? with
    | some (.lst xs) => if -(2 ^ 63) ≤ k ∧ k < 2 ^ 63 ∧ xs.length * k.toNat ≤ most then some (alloc S (List.replicate k.toNat xs).flatten) else none
    | _ => none
  | .fdiv, .int i, .int j, S => if 0 < j ∧ j.natAbs.log2 < 9000 then some (.int (i / j), S) else none
  | .mod, .int i, .int j, S => if 0 < j then some (.int (i % j), S) else none
  | .pow, .int i, .int j, S => if 0 ≤ j ∧ j ≤ 1000000 ∧ i.natAbs < 2 ^ 64 then some (.int (i ^ j.toNat), S) else none
  | _, _, _, _ => none
/-- what == tells of scalars alike -/
def scalD : D → D → Option Bool
  | .non, .non => some true | .int i, .int j => some (decide (i = j)) | .bl i, .bl j => some (decide (i = j)) | .str i, .str j => some (decide (i = j))
  | .non, .int _ => some false | .int _, .non => some false | .non, .bl _ => some false | .bl _, .non => some false | .non, .str _ => some false | .str _, .non => some false
  | .int _, .str _ => some false | .str _, .int _ => some false | .bl _, .str _ => some false | .str _, .bl _ => some false
  | _, _ => none
def isNon : D → Bool
  | .non => true | _ => false
def cmpD : Co → D → D → Hd → Option (D × Hd)
  | .eq, x, y, S => (scalD x y).map fun b => (.bl b, S)
  | .ne, x, y, S => (scalD x y).map fun b => (.bl (!b), S)
  | .lt, .int i, .int j, S => some (.bl (decide (i < j)), S)
  | .le, .int i, .int j, S => some (.bl (decide (i ≤ j)), S)
  | .gt, .int i, .int j, S => some (.bl (decide (j < i)), S)
  | .ge, .int i, .int j, S => some (.bl (decide (j ≤ i)), S)
  | .is_, x, .non, S => some (.bl (isNon x), S)
  | .is_, .bl i, .bl j, S => some (.bl (decide (i = j)), S)
  | .isnot, .bl i, .bl j, S => some (.bl (!decide (i = j)), S)
  | .isnot, x, .non, S => some (.bl (!isNon x), S)
  | .in_, x, y, S => if flat x then (seqOf S y).bind fun xs => if xs.all flat then some (.bl (xs.any fun z => eqF z x), S) else none else none
  | .notin, x, y, S => if flat x then (seqOf S y).bind fun xs => if xs.all flat then some (.bl (!xs.any fun z => eqF z x), S) else none else none
  | _, _, _, _ => none
/-- keys and what stands beside them -/
def keyD : D → Option Key
  | .int i => some (.inl i)
  | .str x => some (.inr x)
  | _ => none
def pairUp : List D → Option (List (Key × D))
  | [] => some []
  | k :: v :: ds => (keyD k).bind fun x => (pairUp ds).map ((x, v) :: ·)
  | _ => none
def lookC (t : List (Str × D)) (z : Str) : Option D := (t.find? fun p => decide (p.1 = z)).map (·.2)
def strsD : List D → Option (List Str)
  | [] => some []
  | .str z :: ds => (strsD ds).map (z :: ·)
  | _ => none
def cntD (x y : D) (S : Hd) : Option (D × Hd) := match x, y with
  | .ref k, .str z => match S[k]? with
    | some (.lst xs) => (strsD xs).map fun ys => (.int (PySem.Spec.countIn (.str z) (ys.map PySem.PyData.str)), S)
    | _ => none
  | _, _ => none
def isDct (S : Hd) : D → Bool
  | .ref k => match S[k]? with
    | some (.dct _) => true
    | _ => false
  | _ => false
def joinD (z : Str) (x : D) (S : Hd) : Option (D × Hd) := ((seqOf S x).bind strsD).bind fun ys => if (ys.map (·.length)).sum + ys.length * z.length ≤ 16777216 then some (.str (Txt.join z ys), S) else none
def isE : Option O → Bool
  | some (.dct []) => true
  | _ => false
def findK (ks : List (Key × D)) (k : Key) : Option D := (ks.find? fun kv => decide (kv.1 = k)).map (·.2)
def dgetD (x i : D) (S : Hd) : Option (D × Hd) := match x with
  | .ref k => match S[k]? with
    | some (.dct ks) => (keyD i).bind fun y => (findK ks y).map fun d => (d, S)
    | _ => none
  | _ => none
def getdD (x i d : D) (S : Hd) : Option (D × Hd) := match x with
  | .ref k => match S[k]? with
    | some (.dct ks) => (keyD i).map fun y => ((findK ks y).getD d, S)
    | _ => none
  | _ => none
def dinD (x y : D) (S : Hd) : Option (D × Hd) := match y with
  | .ref k => match S[k]? with
    | some (.dct ks) => (keyD x).map fun z => (.bl (findK ks z).isSome, S)
    | _ => none
  | _ => none
/-- data of which a text can be made -/
def txtD : D → Bool
  | .str y => decide (y.length ≤ 100000)
  | .int i => decide (i.natAbs.log2 < 1920)
  | .bl _ => true
  | .non => true
  | _ => false
def mkxD (c : Str) (ns : List Str) (own : Bool) (ds : List D) : Option D :=
  if own = true then (if ds.length = ns.length ∧ ds.all txtD = true then some (.xcp c ns.reverse ds.reverse) else none) else if ds.length = 1 then some (.xcp c [] []) else none
def isxD (t : Str) : D → Option D
  | .xcp c _ _ => some (.bl (decide (c = t) || decide (t = "HourError") || decide (t = "ValueError")))
  | _ => none
def attrD (c n : Str) : D → Option D
  | .xcp k ns xs => if k = c then (ns.zip xs).lookup n else none
  | _ => none
/-- data as the library compares it -/
def pyL (f : D → Option PyData) : List D → Option (List PyData)
  | [] => some []
  | d :: ds => (f d).bind fun x => (pyL f ds).map (x :: ·)
def py : Nat → Hd → D → Option PyData
  | 0, _, _ => none
  | _ + 1, _, .non => some .none
  | _ + 1, _, .bl b => some (.bool b)
  | _ + 1, _, .int i => some (.int i)
  | _ + 1, _, .str x => some (.str x)
  | n + 1, S, .tup xs => (pyL (py n S) xs).map .tuple
  | n + 1, S, .ref k => match S[k]? with
    | some (.lst xs) => (pyL (py n S) xs).map .list
    | _ => none
  | _ + 1, _, _ => none
def rprD (x : D) (S : Hd) : Option (D × Hd) := match x with
  | .int _ | .bl _ | .str _ | .non | .ro _ | .ty _ | .xcp _ _ _ => none
  | x => (py 9 S x).bind fun d => if PySem.PyData.showable d = true ∧ PySem.PyData.hasDict d = false ∧ PySem.PyData.depth d ≤ 64 ∧ (PySem.PyData.shown d).length ≤ PySem.sizeLine then some (.str (PySem.PyData.shown d), S) else none
def cmpdD : Cd → D → D → Hd → Option (D × Hd)
  | .eq, x, y, S => (py 9 S x).bind fun d => (py 9 S y).bind fun e => if SeqAt.shaped d = true ∧ SeqAt.shaped e = true then some (.bl (PyData.eqv d e), S) else none
  | .ne, x, y, S => (py 9 S x).bind fun d => (py 9 S y).bind fun e => if SeqAt.shaped d = true ∧ SeqAt.shaped e = true then some (.bl (!PyData.eqv d e), S) else none
  | .in_, x, y, S => (py 9 S x).bind fun d => (py 9 S y).bind fun e => match e with
    | .list ds => if SeqAt.shaped d = true ∧ SeqAt.shaped (.list ds) = true then some (.bl (ds.any fun z => PyData.eqv z d), S) else none
    | _ => none
  | .notin, x, y, S => (py 9 S x).bind fun d => (py 9 S y).bind fun e => match e with
    | .list ds => if SeqAt.shaped d = true ∧ SeqAt.shaped (.list ds) = true then some (.bl (!ds.any fun z => PyData.eqv z d), S) else none
    | _ => none
def ixD (x i : D) (S : Hd) : Option (D × Hd) := match i with
  | .int k => (seqOf S x).bind fun xs => (atI xs k).map fun d => (d, S)
  | _ => none
def cutD (xs : List D) (lo hi : Option Int) : List D := (xs.drop (HT.sIx xs.length 0 lo)).take (HT.sIx xs.length xs.length hi - HT.sIx xs.length 0 lo)
def evP (b : Bool) (r : Option (D × Hd)) (S : Hd) : Option (Option Int × Hd) := if b = true then r.bind fun x => match x.1 with
    | .int i => some (some i, x.2)
    | _ => none
  else some (none, S)
def slD (x : D) (l h : Option Int) (S : Hd) : Option (D × Hd) := match x with
  | .str z => if z.length ≤ most then some (.str (cutS z l h), S) else none
  | .tup xs => some (.tup (cutD xs l h), S)
  | x => (seqOf S x).map fun xs => alloc S (cutD xs l h)
def revD (x : D) (S : Hd) : Option (D × Hd) := match x with
  | .tup xs => some (.tup xs.reverse, S)
  | x => (seqOf S x).map fun xs => alloc S xs.reverse
def tyName (S : Hd) : D → Option String
  | .non => some "NoneType" | .bl _ => some "bool" | .int _ => some "int" | .str _ => some "str" | .tup _ => some "tuple" | .ro _ => some "list" | .xcp _ _ _ => some "HourError"
  | .ref k => match S[k]? with | some (.lst _) => some "list" | _ => none
  | .ty _ => none
def isaN (n c : String) : Bool := n == c || (n == "bool" && c == "int")
def plainTy (c : String) : Bool := ["int", "bool", "str", "tuple", "list"].contains c
def bools : List D → Option (List Bool)
  | [] => some []
  | .bl b :: ds => (bools ds).map (b :: ·)
  | _ => none
def intsD : List D → Option (List Int)
  | [] => some []
  | .int i :: ds => (intsD ds).map (i :: ·)
  | _ => none
def maxL : List Int → Option Int
  | [] => none
  | i :: is => some (is.foldl (fun a b => if b > a then b else a) i)
def insI (i : Int) : List Int → List Int
  | [] => [i]
  | j :: js => if i ≤ j then i :: j :: js else j :: insI i js
def srtI : List Int → List Int
  | [] => []
  | i :: is => insI i (srtI is)
/-- the numbers of a list -/
def intsAt (S : Hd) (x : D) : Option (List Int) := if isTup x = true then none else (seqOf S x).bind intsD
def pairsD : List D → Option (List (Int × Int))
  | [] => some []
  | .tup [.int i, .int j] :: ds => (pairsD ds).map ((i, j) :: ·)
  | _ => none
def lexLe (p q : Int × Int) : Prop := p.1 < q.1 ∨ (p.1 = q.1 ∧ p.2 ≤ q.2)
instance (p q : Int × Int) : Decidable (lexLe p q) := by unfold lexLe; infer_instance
def insP (p : Int × Int) : List (Int × Int) → List (Int × Int)
  | [] => [p]
  | q :: qs => if lexLe p q then p :: q :: qs else q :: insP p qs
def srtP : List (Int × Int) → List (Int × Int)
  | [] => []
  | p :: ps => insP p (srtP ps)
def pairD (p : Int × Int) : D := .tup [.int p.1, .int p.2]
def pairsAt (S : Hd) (x : D) : Option (List (Int × Int)) := if isTup x = true then none else (seqOf S x).bind pairsD
/-- each number once -/
def insU (i : Int) : List Int → List Int
  | [] => [i]
  | j :: js => if i < j then i :: j :: js else if i = j then j :: js else j :: insU i js
def srtU : List Int → List Int
  | [] => []
  | i :: is => insU i (srtU is)
def tysOf : List D → Option (List String)
  | [] => some []
  | .ty c :: ds => if plainTy c then (tysOf ds).map (c :: ·) else none
  | _ => none
def bltD : Bl → List D → Hd → Option (D × Hd)
  | .len, [x], S => (seqOf S x).map fun xs => (.int xs.length, S)
  | .int_, [.int i], S => some (.int i, S)
  | .int_, [.bl b], S => some (.int (if b then 1 else 0), S)
  | .abs_, [.int i], S => some (.int (if i < 0 then -i else i), S)
  | .max_, [.int i, .int j], S => some (.int (if j > i then j else i), S)
  | .max_, [x], S => ((intsAt S x).bind maxL).map fun m => (.int m, S)
  | .sum_, [x], S => (intsAt S x).map fun ns => (.int ns.sum, S)
  | .sorted_, [x], S => (intsAt S x).map fun ns => alloc S ((srtI ns).map .int)
  | .sortp_, [x], S => (pairsAt S x).map fun ps => alloc S ((srtP ps).map pairD)
  | .ssort_, [x], S => (intsAt S x).bind fun ns => if ns.length ≤ 4000 ∧ (srtU ns).length < 64 then some (alloc S ((srtU ns).map .int)) else none
  | .lrange_, [.int a, .int b], S => if -(2 ^ 62) ≤ a ∧ a < 2 ^ 62 ∧ -(2 ^ 62) ≤ b ∧ b < 2 ^ 62 ∧ (b - a).toNat ≤ most then some (alloc S ((List.range (b - a).toNat).map fun (i : Nat) => .int (a + (i : Int)))) else none
  | .min_, [.int i, .int j], S => some (.int (if j < i then j else i), S)
  | .all_, [x], S => if isTup x then none else ((seqOf S x).bind bools).map fun bs => (.bl (bs.all id), S)
  | .any_, [x], S => if isTup x then none else ((seqOf S x).bind bools).map fun bs => (.bl (bs.any id), S)
  | .tuple_, [x], S => (seqOf S x).map fun xs => (.tup xs, S)
  | .list_, [x], S => (seqOf S x).map fun xs => alloc S xs
  | .slen, [.str z], S => if z.length ≤ most then some (.int z.length, S) else none
  | .sint, [.str z], S => if z.length ≤ 640 then (PySem.intText? z).map fun n => (.int n, S) else none
  | .str_, [.str z], S => some (.str z, S)
  | .str_, [.int i], S => if i.natAbs.log2 < 1920 then some (.str (toString i), S) else none
  | .isi, [x, .ty c], S => if plainTy c then (tyName S x).map fun n => (.bl (isaN n c), S) else none
  | .isi, [x, .tup cs], S => (tysOf cs).bind fun ts => (tyName S x).map fun n => (.bl (ts.any (isaN n)), S)
  | _, _, _ => none
def methD : Mt → D → List D → Hd → Option (D × Hd)
  | .clear, .ref k, [], S => match S[k]? with
    | some (.lst _) => some (.non, S.set k (.lst []))
    | _ => none
  | .append, .ref k, [x], S => match S[k]? with
    | some (.lst xs) => if xs.length < most then some (.non, S.set k (.lst (xs ++ [x]))) else none
    | _ => none
  | _, _, _, _ => none
def setD (o i x : D) (S : Hd) : Option Hd := match o, i with
  | .ref k, .int j => match S[k]? with
    | some (.lst xs) => (ixN xs.length j).map fun m => S.set k (.lst (xs.set m x))
    | _ => none
  | _, _ => none
def items : Ik → List D → Hd → Option (List D)
  | .chars, [.str z], _ => some (z.cps.toList.map fun c => .str ⟨#[c]⟩)
  | .seq, [x], S => seqOf S x
  | .range1, [.int n], _ => if -(2 ^ 62) ≤ n ∧ n < 2 ^ 62 then some ((List.range n.toNat).map fun (i : Nat) => .int (0 + (i : Int))) else none
  | .range2, [.int a, .int b], _ => if -(2 ^ 62) ≤ a ∧ a < 2 ^ 62 ∧ -(2 ^ 62) ≤ b ∧ b < 2 ^ 62 then some ((List.range (b - a).toNat).map fun (i : Nat) => .int (a + (i : Int))) else none
  | .enum, [x], S => (seqOf S x).map fun xs => xs.mapIdx fun i d => .tup [.int (i : Int), d]
  | .zip, [x, y], S => if isTup x = isTup y ∨ isTup x = true then (seqOf S x).bind fun xs => (seqOf S y).map fun ys => List.zipWith (fun a b => .tup [a, b]) xs ys else none
  | _, _, _ => none
mutual
  def gOk (own : List Nat) : G → Bool
    | .name i => own.contains i
    | .tup g => gOk own g
    | .nil => true
    | .cons g h => gOk own g && gOk own h
end
def gLen : G → Option Nat
  | .nil => some 0
  | .cons _ h => (gLen h).map (· + 1)
  | _ => none
/-- targets: a name, or a tuple of targets; .nil and .cons read the items of a tuple -/
def asgG : G → D → Sl → Option Sl
  | .name i, d, env => some (env.set i (some d))
  | .tup g, .tup xs, env => asgG g (.tup xs) env
  | .nil, .tup [], env => some env
  | .cons g h, .tup (x :: xs), env => (asgG g x env).bind fun env1 => asgG h (.tup xs) env1
  | _, _, _ => none
def wipeD (env : Sl) : List Nat → Sl
  | [] => env
  | v :: vs => (wipeD env vs).set v none
open Classical in
noncomputable def loopH (turn : D → Hd → Option Hd) (still : Hd → Prop) : List D → Hd → Option Hd
  | [], S => some S
  | d :: ds, S => (turn d S).bind fun S1 => if still S1 then loopH turn still ds S1 else none
open Classical in
noncomputable def loopS (turn : D → Sl → Hd → Option (Out × Sl × Hd)) (still : Hd → Prop) : List D → Sl → Hd → Option (Out × Sl × Hd)
  | [], env, S => some (.nx, env, S)
  | d :: ds, env, S => (turn d env S).bind fun r => match r.1 with
    | .brk => some (.nx, r.2)
    | .ret x => some (.ret x, r.2)
    | _ => if still r.2.2 then loopS turn still ds r.2.1 r.2.2 else none
open Classical in
noncomputable def loopW (test : Sl → Hd → Option (Bool × Hd)) (body : Sl → Hd → Option (Out × Sl × Hd)) : Nat → Sl → Hd → Option (Out × Sl × Hd)
  | 0, _, _ => none
  | n + 1, env, S => (test env S).bind fun t => if t.1 = true then (body env t.2).bind fun r => match r.1 with
    | .brk => some (.nx, r.2)
    | .ret x => some (.ret x, r.2)
    | _ => loopW test body n r.2.1 r.2.2
    else some (.nx, env, t.2)
def argsOf : D → Option (List D)
  | .tup ds => some ds
  | _ => none
def tst (r : Option (D × Hd)) : Option (Bool × Hd) := r.bind fun x => (tru x.2 x.1).map fun b => (b, x.2)
def pushD (k : Nat) (x : D) (S : Hd) : Option Hd := match S[k]? with
  | some (.lst xs) => if xs.length < most then some (S.set k (.lst (xs ++ [x]))) else none
  | _ => none
def isLst (S : Hd) : D → Bool
  | .ref k => match S[k]? with
    | some (.lst _) => true
    | _ => false
  | _ => false
abbrev Fs := Nat → List D → Hd → Option (D × Hd)
def permV {β : Type} (perm : List Nat) (zs : List β) : List β := perm.filterMap fun i => zs[i]?
open Classical in
noncomputable def ev (Γ : Fs) : E → Sl → Hd → Option (D × Hd)
  | .var i, env, S => match env[i]? with
    | some (some d) => some (d, S)
    | _ => none
  | .c d, _, S => some (d, S)
  | .nop, _, S => some (.ty "nop", S)
  | .bin o a b, env, S => (ev Γ a env S).bind fun x => (ev Γ b env x.2).bind fun y => binD o x.1 y.1 y.2
  | .neg a, env, S => (ev Γ a env S).bind fun x => match x.1 with
    | .int i => some (.int (-i), x.2)
    | _ => none
  | .not_ a, env, S => (tst (ev Γ a env S)).map fun x => (.bl (!x.1), x.2)
  | .cmp o a b, env, S => (ev Γ a env S).bind fun x => (ev Γ b env x.2).bind fun y => cmpD o x.1 y.1 y.2
  | .cmpd o a b, env, S => (ev Γ a env S).bind fun x => (ev Γ b env x.2).bind fun y => cmpdD o x.1 y.1 y.2
  | .chain o p a b c, env, S => (ev Γ a env S).bind fun x => (ev Γ b env x.2).bind fun y => (cmpD o x.1 y.1 y.2).bind fun z => match z.1 with
    | .bl true => (ev Γ c env z.2).bind fun u => cmpD p y.1 u.1 u.2
    | .bl false => some z
    | _ => none
  | .and_ a b, env, S => (ev Γ a env S).bind fun x => match x.1 with
    | .bl true => ev Γ b env x.2
    | .bl false => some x
    | _ => none
  | .or_ a b, env, S => (ev Γ a env S).bind fun x => match x.1 with
    | .bl false => ev Γ b env x.2
    | .bl true => some x
    | _ => none
  | .orv a b, env, S => (ev Γ a env S).bind fun x => (tru x.2 x.1).bind fun k => if k = true then some x else ev Γ b env x.2
  | .ite c a b, env, S => (tst (ev Γ c env S)).bind fun x => if x.1 = true then ev Γ a env x.2 else ev Γ b env x.2
  | .ix a b, env, S => (ev Γ a env S).bind fun x => (ev Γ b env x.2).bind fun y => ixD x.1 y.1 y.2
  | .sl bl bh a l h, env, S => (ev Γ a env S).bind fun x => (evP bl (ev Γ l env x.2) x.2).bind fun y => (evP bh (ev Γ h env y.2) y.2).bind fun z => slD x.1 y.1 z.1 z.2
  | .rev a, env, S => (ev Γ a env S).bind fun x => revD x.1 x.2
  | .tup es, env, S => (ev Γ es env S).bind fun x => (argsOf x.1).bind fun ds => if ds.length ≤ most then some (.tup ds, x.2) else none
  | .lst es, env, S => (ev Γ es env S).bind fun x => (argsOf x.1).bind fun ds => if ds.length ≤ most then some (alloc x.2 ds) else none
  | .nil, _, S => some (.tup [], S)
  | .cons e es, env, S => (ev Γ e env S).bind fun x => (ev Γ es env x.2).bind fun y => (argsOf y.1).map fun ds => (.tup (x.1 :: ds), y.2)
  | .dct es, env, S => (ev Γ es env (S ++ [.dct []])).bind fun x => (argsOf x.1).bind fun ds => (pairUp ds).bind fun ks => if (ks.map (·.1)).Nodup ∧ ks.length ≤ 15 ∧ isE (x.2[S.length]?) = true then some (.ref S.length, x.2.set S.length (.dct ks)) else none
  | .cix t a, env, S => (ev Γ a env S).bind fun x => match x.1 with
    | .str z => (lookC t z).map fun d => (d, x.2)
    | _ => none
  | .cget t a, env, S => (ev Γ a env S).bind fun x => match x.1 with
    | .str z => some ((lookC t z).getD .non, x.2)
    | _ => none
  | .rpr a, env, S => (ev Γ a env S).bind fun x => rprD x.1 x.2
  | .cnts a b, env, S => (ev Γ a env S).bind fun x => if isLst x.2 x.1 = true then (ev Γ b env x.2).bind fun y => cntD x.1 y.1 y.2 else none
  | .getd a i e, env, S => (ev Γ a env S).bind fun x => if isDct x.2 x.1 = true then (ev Γ i env x.2).bind fun y => (ev Γ e env y.2).bind fun z => getdD x.1 y.1 z.1 z.2 else none
  | .din a b, env, S => (ev Γ a env S).bind fun x => (ev Γ b env x.2).bind fun y => dinD x.1 y.1 y.2
  | .cin neg t a, env, S => (ev Γ a env S).bind fun x => match x.1 with
    | .str z => some (.bl (if neg then !(lookC t z).isSome else (lookC t z).isSome), x.2)
    | _ => none
  | .sgn a b, env, S => (ev Γ a env S).bind fun x => (ev Γ b env x.2).bind fun y => match x.1, y.1 with
    | .str u, .str z => if u.cps.size = 1 then some (.bl (decide (u.cps.getD 0 0 ∈ z.cps.toList)), y.2) else none
    | _, _ => none
  | .stw a z, env, S => (ev Γ a env S).bind fun x => match x.1 with
    | .str u => some (.bl (Txt.startswith u z), x.2)
    | _ => none
  | .split a z, env, S => (ev Γ a env S).bind fun x => match x.1 with
    | .str u => if (z.length == 0) = false ∧ u.length ≤ most ∧ (Txt.split u z).length ≤ most then some (alloc x.2 ((Txt.split u z).map .str)) else none
    | _ => none
  | .mkx c ns own es, env, S => (ev Γ es env S).bind fun x => (argsOf x.1).bind fun ds => (mkxD c ns own ds).map fun d => (d, x.2)
  | .isx a t, env, S => (ev Γ a env S).bind fun x => (isxD t x.1).map fun d => (d, x.2)
  | .attr a c n, env, S => (ev Γ a env S).bind fun x => (attrD c n x.1).map fun d => (d, x.2)
  | .mkxK c ns perm ks, env, S => (ev Γ ks env S).bind fun x => (argsOf x.1).bind fun ds => (mkxD c ns true (permV perm ds)).map fun d => (d, x.2)
  | .joinS z a, env, S => (ev Γ a env S).bind fun x => joinD z x.1 x.2
  | .dget a i, env, S => (ev Γ a env S).bind fun x => (ev Γ i env x.2).bind fun y => dgetD x.1 y.1 y.2
  | .call f es, env, S => (ev Γ es env S).bind fun x => (argsOf x.1).bind fun ds => Γ f ds x.2
  | .callK f es ks perm, env, S => (ev Γ es env S).bind fun x => (argsOf x.1).bind fun ds => (ev Γ ks env x.2).bind fun y => (argsOf y.1).bind fun zs => Γ f (permV perm (ds ++ zs)) y.2
  | .blt b es, env, S => (ev Γ es env S).bind fun x => (argsOf x.1).bind fun ds => bltD b ds x.2
  | .meth m o es, env, S => (ev Γ o env S).bind fun x => if isLst x.2 x.1 = true then (ev Γ es env x.2).bind fun y => (argsOf y.1).bind fun ds => methD m x.1 ds y.2 else none
  | .lc k es g ifs elt own, env, S => if gOk own g = true then (ev Γ es env S).bind fun x => (argsOf x.1).bind fun ds => (items k ds x.2).bind fun its =>
      (loopH (fun d S1 => (asgG g d (wipeD env own)).bind fun env1 => (tst (ev Γ ifs env1 S1)).bind fun t => if t.1 = true then (ev Γ elt env1 t.2).bind fun y => pushD x.2.length y.1 y.2 else some t.2)
        (fun S1 => items k ds S1 = some its) its (x.2 ++ [.lst []])).map fun S2 => (.ref x.2.length, S2)
    else none
noncomputable def ex (Γ : Fs) : Sx → Sl → Hd → Option (Out × Sl × Hd)
  | .skip, env, S => some (.nx, env, S)
  | .seq s t, env, S => (ex Γ s env S).bind fun r => match r.1 with
    | .nx => ex Γ t r.2.1 r.2.2
    | _ => some r
  | .asg g e, env, S => (ev Γ e env S).bind fun x => (asgG g x.1 env).map fun env1 => (.nx, env1, x.2)
  | .asgL g e, env, S => (ev Γ e env S).bind fun x => (if isTup x.1 = true then none else seqOf x.2 x.1).bind fun xs => (asgG g (.tup xs) env).map fun env1 => (.nx, env1, x.2)
  | .setix o i e, env, S => (ev Γ e env S).bind fun x => (ev Γ o env x.2).bind fun y => (ev Γ i env y.2).bind fun z => (setD y.1 z.1 x.1 z.2).map fun S1 => (.nx, env, S1)
  | .drop e, env, S => (ev Γ e env S).map fun x => (.nx, env, x.2)
  | .ret e, env, S => (ev Γ e env S).map fun x => (.ret x.1, env, x.2)
  | .retN, env, S => some (.ret .non, env, S)
  | .ite c s t, env, S => (tst (ev Γ c env S)).bind fun x => if x.1 = true then ex Γ s env x.2 else ex Γ t env x.2
  | .for_ k es g b, env, S => (ev Γ es env S).bind fun x => (argsOf x.1).bind fun ds => (items k ds x.2).bind fun its =>
      loopS (fun d env1 S1 => (asgG g d env1).bind fun env2 => ex Γ b env2 S1) (fun S1 => items k ds S1 = some its) its env x.2
  | .brk, env, S => some (.brk, env, S)
  | .cont, env, S => some (.cont, env, S)
  | .stuck, _, _ => none
  | .while_ c b, env, S => loopW (fun e S1 => tst (ev Γ c e S1)) (fun e S1 => ex Γ b e S1) most env S
  | .aug i o e, env, S => match env[i]? with
    | some (some (.int a)) => (ev Γ e env S).bind fun x => match o, x.1 with
      | .add, .int b => some (.nx, env.set i (some (.int (a + b))), x.2)
      | .sub, .int b => some (.nx, env.set i (some (.int (a - b))), x.2)
      | _, _ => none
    | _ => none
structure Fd where
  np : Nat
  m : Nat
  body : Sx
noncomputable def outD (r : Option (Out × Sl × Hd)) : Option (D × Hd) := r.bind fun r => match r.1 with
  | .ret d => some (d, r.2.2)
  | .nx => some (.non, r.2.2)
  | _ => none
noncomputable def runV (T : Nat → Option Fd) : Nat → Fs
  | 0, _, _, _ => none
  | n + 1, f, ds, S => (T f).bind fun F => if ds.length = F.np then outD (ex (runV T n) F.body (ds.map some ++ List.replicate (F.m - ds.length) none) S) else none
/-- the same, but never unfolded -/
noncomputable def run : (Nat → Option Fd) → Nat → Fs := Classical.choose (⟨runV, rfl⟩ : ∃ f, f = runV)
theorem run_eq : run = runV := Classical.choose_spec (⟨runV, rfl⟩ : ∃ f, f = runV)
theorem run_zero {T : Nat → Option Fd} {f : Nat} {ds : List D} {S : Hd} : run T 0 f ds S = none := by rw [run_eq]; rfl
theorem run_step {T : Nat → Option Fd} {n f : Nat} {ds : List D} {S : Hd} : run T (n + 1) f ds S = (T f).bind fun F => if ds.length = F.np then outD (ex (run T n) F.body (ds.map some ++ List.replicate (F.m - ds.length) none) S) else none := by rw [run_eq]; rfl
end Ix

namespace Ix
open PySem L2
section
variable (K : PySem.W.Frag) (Γ : Fs)
def tr (c : E) : TE := fun σ H Q => ∃ α env S d S', Ok K α S H ∧ En K α H env σ ∧ ev Γ c env S = some (d, S') ∧ ∀ α' H' v, Xt K α H α' H' → Ok K α' S' H' → Rp K α' H' d v → Q v H'
def trA (c : E) : TA := fun σ H Q => ∃ α env S ds S', Ok K α S H ∧ En K α H env σ ∧ ev Γ c env S = some (.tup ds, S') ∧ ∀ α' H' vs, Xt K α H α' H' → Ok K α' S' H' → Rps K α' H' ds vs → Q vs H'
def trT (c : E) : TT := fun σ H Q => ∃ α env S b S', Ok K α S H ∧ En K α H env σ ∧ tst (ev Γ c env S) = some (b, S') ∧ ∀ α' H', Xt K α H α' H' → Ok K α' S' H' → Q b H'
def trO (b : Bool) (c : E) : TO := fun σ H Q => ∃ α env S o S', Ok K α S H ∧ En K α H env σ ∧ evP b (ev Γ c env S) S = some (o, S') ∧ ∀ α' H', Xt K α H α' H' → Ok K α' S' H' → Q o H'
def endS (α' : List Addr) (H' : Hp) (env' : Sl) (D : Ends) : Out → Prop
  | .nx => ∀ σ', En K α' H' env' σ' → D.nx σ' H'
  | .brk => ∀ σ', En K α' H' env' σ' → D.bk σ' H'
  | .cont => ∀ σ', En K α' H' env' σ' → D.ct σ' H'
  | .ret d => ∀ v, Rp K α' H' d v → D.rt v H'
def trS (c : Sx) : TS := fun D σ H => ∃ α env S o env' S', Ok K α S H ∧ En K α H env σ ∧ ex Γ c env S = some (o, env', S') ∧ ∀ α' H', Xt K α H α' H' → Ok K α' S' H' → endS K α' H' env' D o
def trG (g : G) : TG := fun v σ H Q => ∃ α env d env', Rp K α H d v ∧ En K α H env σ ∧ asgG g d env = some env' ∧ ∀ σ', En K α H env' σ' → (∀ own, gOk own g = true → wipe σ' own = wipe σ own) → Q σ' H
def trGs (g : G) : TGs := fun vs σ H Q => ∃ α env ds env', Rps K α H ds vs ∧ En K α H env σ ∧ asgG g (.tup ds) env = some env' ∧ ∀ σ', En K α H env' σ' → (∀ own, gOk own g = true → wipe σ' own = wipe σ own) → Q σ' H
/-- two values in, by f; the arguments in -/
def rB (f : D → D → Hd → Option (D × Hd)) : R2 := fun x y H Q => ∃ α S d1 d2 d S', Ok K α S H ∧ Rp K α H d1 x ∧ Rp K α H d2 y ∧ f d1 d2 S = some (d, S') ∧ ∀ α' H' v, Xt K α H α' H' → Ok K α' S' H' → Rp K α' H' d v → Q v H'
def rA (f : List D → Hd → Option (D × Hd)) : List V → Hp → VK → Prop := fun vs H Q => ∃ α S ds d S', Ok K α S H ∧ Rps K α H ds vs ∧ f ds S = some (d, S') ∧ ∀ α' H' v, Xt K α H α' H' → Ok K α' S' H' → Rp K α' H' d v → Q v H'
def rM (f : D → List D → Hd → Option (D × Hd)) : V → List V → Hp → VK → Prop := fun x vs H Q => ∃ α S d1 ds d S', Ok K α S H ∧ Rp K α H d1 x ∧ Rps K α H ds vs ∧ f d1 ds S = some (d, S') ∧ ∀ α' H' v, Xt K α H α' H' → Ok K α' S' H' → Rp K α' H' d v → Q v H'
end
section
variable {K : PySem.W.Frag} {Γ : Fs} {α : List Addr} {S S' : Hd} {H : Hp} {d x y : D} {v u : V}
/-! ### reading values -/
theorem seq_of {xs : List D} (ok : Ok K α S H) (r : Rp K α H d v) (h : seqOf S d = some xs) : ∃ a vs, v = .ref a ∧ Rps K α H xs vs ∧ ((isTup d = true ∧ SqT K H a vs) ∨ (isTup d = false ∧ SqL K H a vs)) := by
  cases r with
  | tup h1 l q =>
    simp only [seqOf, Option.some.injEq] at h
    subst h
    exact ⟨_, _, rfl, ⟨l, q⟩, .inl ⟨rfl, h1⟩⟩
  | @ref k a e =>
    simp only [seqOf] at h
    split at h
    · rename_i ys e2
      simp only [Option.some.injEq] at h
      subst h
      obtain ⟨a', vs, e3, e4, e5, e6⟩ := ok.lst e2 (.ref e)
      cases e3
      exact ⟨a, vs, rfl, e6, .inr ⟨rfl, SqL.of e5⟩⟩
    · cases h
  | @ro ns a e =>
    simp only [seqOf, Option.some.injEq] at h
    subst h
    refine ⟨a, ns.map V.int, rfl, ⟨by simp, fun i x v h1 h2 => ?_⟩, .inr ⟨rfl, ?_⟩⟩
    · rw [List.getElem?_map] at h1 h2
      cases q : ns[i]? with
      | none =>
        rw [q] at h1
        cases h1
      | some z =>
        rw [q] at h1 h2
        cases h1
        cases h2
        exact .int z
    · rcases e with ⟨o, e⟩ | e
      · exact .inl (.inr ⟨o, e⟩)
      · exact .inr e
  | _ => simp [seqOf] at h
theorem Rps.empty {xs : List D} {vs : List V} (h : Rps K α H xs vs) : vs.isEmpty = xs.isEmpty := by
  cases xs <;> cases vs <;> first | rfl | (have := h.len; simp at this)
theorem tru_of {b : Bool} (ok : Ok K α S H) (r : Rp K α H d v) (h : tru S d = some b) : TruV K v H b := by
  have go : ∀ {e : D}, Rp K α H e v → ((seqOf S e).map fun xs => !xs.isEmpty) = some b → TruV K v H b := fun {e} r h => by
    cases q : seqOf S e with
    | none => rw [q] at h; cases h
    | some xs =>
      rw [q] at h
      have h : (!xs.isEmpty) = b := by simpa using h
      obtain ⟨a, vs, rfl, rs, z⟩ := seq_of ok r q
      rcases z with ⟨_, z⟩ | ⟨_, z⟩
      · exact .inr (.inl ⟨vs, z, by rw [rs.empty, h]⟩)
      · exact .inl ⟨vs, z, by rw [rs.empty, h]⟩
  cases d with
  | non => cases r; simp only [tru, Option.some.injEq] at h; exact h.symm
  | bl c => cases r; simp only [tru, Option.some.injEq] at h; exact h.symm
  | int i => cases r; simp only [tru, Option.some.injEq] at h; exact h.symm
  | str z => simp [tru] at h
  | ty z => simp [tru] at h
  | ref k => exact go r (by simpa [tru] using h)
  | tup xs => exact go r (by simpa [tru] using h)
  | ro xs => exact go r (by simpa [tru] using h)
  | xcp c ns xs => simp [tru, seqOf] at h
theorem flat_of (r : Rp K α H d v) (h : flat d = true) : flatV v = true := by
  cases r <;> first | rfl | cases h
theorem flats_of {xs : List D} {vs : List V} (r : Rps K α H xs vs) (h : xs.all flat = true) : vs.all flatV = true := by
  rw [List.all_eq_true] at h ⊢
  intro w hw
  obtain ⟨i, hi⟩ := List.getElem?_of_mem hw
  obtain ⟨z, e, q⟩ := r.getV hi
  exact flat_of q (h z (List.mem_of_getElem? e))
theorem eqF_of (rx : Rp K α H x v) (ry : Rp K α H y u) (fx : flat x = true) (fy : flat y = true) : eqV v u = eqF x y := by
  cases rx <;> cases ry <;> first | rfl | (simp [flat] at fx fy)
theorem any_of {xs : List D} (rx : Rp K α H x v) (fx : flat x = true) : ∀ {xs : List D} {vs : List V}, Rps K α H xs vs → xs.all flat = true → inV v vs = xs.any fun z => eqF z x
  | [], vs, r, _ => by
    rw [r.unnil]
    rfl
  | z :: xs, vs, r, f => by
    obtain ⟨w, ws, rfl, r1, r2⟩ := r.uncons
    rw [List.all_cons, Bool.and_eq_true] at f
    have := any_of (xs := xs) rx fx r2 f.2
    unfold inV at this ⊢
    rw [List.any_cons, List.any_cons, this, eqF_of r1 rx f.1 fx]
theorem scal_of {b : Bool} (rx : Rp K α H x v) (ry : Rp K α H y u) (h : scalD x y = some b) : scal v u = true ∧ decide (v = u) = b := by
  cases rx <;> cases ry <;> simp [scalD] at h <;> (try subst h) <;> simp [scal]
theorem non_of (rx : Rp K α H x v) : decide (v = .non) = isNon x := by
  cases rx <;> simp [isNon]
theorem at_of {β : Type} {xs : List D} {vs : List V} {i : Int} (r : Rps K α H xs vs) (h : atI xs i = some d) : ∃ w, atI vs i = some w ∧ Rp K α H d w := by
  unfold atI at h ⊢
  rw [r.len]
  cases q : ixN xs.length i with
  | none => rw [q] at h; cases h
  | some j =>
    rw [q] at h
    exact r.get h
theorem cut_of {xs : List D} {vs : List V} (r : Rps K α H xs vs) (lo hi : Option Int) : Rps K α H (cutD xs lo hi) (cutV vs lo hi) := by
  unfold cutD cutV
  rw [r.len]
  exact (r.drop _).take _
theorem Rp.newT {p : Addr} {vs : List V} {xs : List D} (hp : H p = none) (r : Rps K α H xs vs) : Rp K α (upd H p (.tup vs)) (.tup xs) (.ref p) := .tup (SqT.of upd_same) r.len (r.mono (Xt.fresh hp)).at_
/-- a new list -/
theorem go_new {Q : VK} {p : Addr} {vs : List V} {xs : List D} (ok : Ok K α S H) (hp : H p = none) (r : Rps K α H xs vs)
    (k : ∀ α' H' v, Xt K α H α' H' → Ok K α' (S ++ [.lst xs]) H' → Rp K α' H' (.ref S.length) v → Q v H') : Q (.ref p) (upd H p (.lst vs)) :=
  k (α ++ [p]) _ _ (Xt.snoc hp) (ok.snoc hp (o := .lst xs) (u := .lst vs) r) (Rp.snoc ok.len)
/-- a new tuple -/
theorem go_tup {Q : VK} {p : Addr} {vs : List V} {xs : List D} (ok : Ok K α S H) (hp : H p = none) (r : Rps K α H xs vs)
    (k : ∀ α' H' v, Xt K α H α' H' → Ok K α' S H' → Rp K α' H' (.tup xs) v → Q v H') : Q (.ref p) (upd H p (.tup vs)) :=
  k α _ _ (Xt.fresh hp) (ok.fresh hp) (Rp.newT hp r)
end
theorem most_line {n : Nat} (h : n ≤ most) : n ≤ sizeLine := Nat.le_trans h (by decide)
theorem most_lt {n : Nat} (h : n < most) : n < sizeLine := Nat.lt_of_lt_of_le h (by decide)

/-! ### weakening -/
section
variable {X : Cx} {e : Expr} {es : List Expr} {st : Stmt} {sts : List Stmt}
theorem pe_w {t t' : TE} (h : PE X e t) (w : ∀ σ H Q, t' σ H Q → t σ H Q) : PE X e t' := ⟨fun pins s σ H Q I q => h.run pins s σ H Q I (w σ H Q q)⟩
theorem pt_w {t t' : TT} (h : PT X e t) (w : ∀ σ H Q, t' σ H Q → t σ H Q) : PT X e t' := ⟨fun pins s σ H Q I q => h.run pins s σ H Q I (w σ H Q q)⟩
theorem pw_w {t t' : TT} (h : PW X e t) (w : ∀ σ H Q, t' σ H Q → t σ H Q) : PW X e t' := ⟨fun wh pins s σ H Q I q => h.run wh pins s σ H Q I (w σ H Q q)⟩
theorem pa_w {t t' : TA} (h : PA X es t) (w : ∀ σ H Q, t' σ H Q → t σ H Q) : PA X es t' := ⟨fun pos pins s σ H Q I q => h.run pos pins s σ H Q I (w σ H Q q)⟩
theorem ps_w {t t' : TS} (h : PS X st t) (w : ∀ D σ H, t' D σ H → t D σ H) : PS X st t' := ⟨fun pins s σ H D I q => h.run pins s σ H D I (w D σ H q)⟩
theorem pss_w {t t' : TS} (h : PSs X sts t) (w : ∀ D σ H, t' D σ H → t D σ H) : PSs X sts t' := ⟨fun pins s σ H D I q => h.run pins s σ H D I (w D σ H q)⟩
theorem pg_w {g t' : TG} (h : PG X e g) (w : ∀ v σ H Q, t' v σ H Q → g v σ H Q) : PG X e t' := ⟨fun pins s σ H v u Q I r q => h.run pins s σ H v u Q I r (w v σ H Q q)⟩
end

/-! ### the operations -/
section
variable {X : Cx}
/-- a list and a list, wherever they lie -/
def rCatR (K : PySem.W.Frag) : R2 := fun x y H Q => ∃ l b xs ys, x = .ref l ∧ y = .ref b ∧ SqL K H l xs ∧ SqL K H b ys ∧ xs.length + ys.length ≤ sizeLine ∧ ∀ p, H p = none → Q (.ref p) (upd H p (.lst (xs ++ ys)))
theorem op_catR : OpR X (binaryOp .Add) (rCatR X.K) := by
  intro pins s σ H x y v u Q I rx ry ⟨l, b, xs, ys, e1, e2, h1, h2, hz, q⟩
  subst e1 e2
  cases rx
  cases ry
  obtain ⟨i1, r1, ⟨⟨cls, dd, data, sl⟩, n, ho, hc, _, hd⟩, _⟩ := I.list h1
  obtain ⟨i2, r2, ⟨⟨cls2, dd2, data2, sl2⟩, n2, ho2, hc2, _, hd2⟩, _⟩ := I.list h2
  simp only at hc hd hc2 hd2
  subst hc hd hc2 hd2
  have z1 := r1.length
  have z2 := r2.length
  refine PySem.concat_meets ⟨_, ho, rfl⟩ ⟨_, ho2, rfl⟩ PySem.noFill_list_add PySem.seq_list_add PySem.F.slot_list_add PySem.F.entry_list_add (PySem.F.args_list_add_2 _ _) (PyProof.Rows.list_addW l b i1.toArray i2.toArray n n2 dd dd2 sl sl2 (by rw [List.size_toArray, List.size_toArray]; omega)) ⟨ho, ho2, ?_⟩
  rw [show i1.toArray ++ i2.toArray = (i1 ++ i2).toArray by simp]
  exact ⟨.ref _, _, I.lnew (t' := s.toks) (r1.append r2) (by rw [List.length_append]; omega), rfl, q _ I.fresh⟩
theorem o_add : OpR X (binaryOp .Add) (rB X.K (binD .add)) := by
  intro pins s σ H x y v u Q I rx ry ⟨α, S, d1, d2, d, S', ok, r1, r2, e, k⟩
  cases d1 with
  | int i =>
    cases d2 with
    | int j =>
      simp only [binD, Option.some.injEq, Prod.mk.injEq] at e
      obtain ⟨rfl, rfl⟩ := e
      cases r1
      cases r2
      exact op_add pins s σ H _ _ v u Q I rx ry ⟨i, j, rfl, rfl, k α H _ Xt.refl ok (.int _)⟩
    | _ => simp [binD] at e
  | str i =>
    cases d2 with
    | str j =>
      simp only [binD] at e
      split at e
      · simp only [Option.some.injEq, Prod.mk.injEq] at e
        obtain ⟨rfl, rfl⟩ := e
        cases r1
        cases r2
        exact op_add_str pins s σ H _ _ v u Q I rx ry ⟨i, j, rfl, rfl, most_line (by assumption), k α H _ Xt.refl ok (.str _)⟩
      · cases e
    | _ => simp [binD] at e
  | tup xs =>
    cases d2 with
    | tup ys =>
      simp only [binD] at e
      split at e
      · rename_i hz
        simp only [Option.some.injEq, Prod.mk.injEq] at e
        obtain ⟨rfl, rfl⟩ := e
        cases r1 with
        | tup h1 l1 q1 =>
          cases r2 with
          | tup h2 l2 q2 =>
            rename_i a va b vb
            refine op_catA pins s σ H _ _ v u Q I rx ry ⟨a, b, va, vb, rfl, rfl, h1, h2, most_line (by omega), fun z => ?_, fun z z2 => ?_, fun z z2 p hp => ?_⟩
            · subst z
              have : xs = [] := by cases xs with
                | nil => rfl
                | cons _ _ => simp at l1
              subst this
              exact k α H _ Xt.refl ok (.tup h2 l2 q2)
            · subst z2
              have : ys = [] := by cases ys with
                | nil => rfl
                | cons _ _ => simp at l2
              subst this
              rw [List.append_nil] at k
              exact k α H _ Xt.refl ok (.tup h1 l1 q1)
            · exact go_tup ok hp (Rps.append ⟨l1, q1⟩ ⟨l2, q2⟩) k
      · cases e
    | _ => simp [binD] at e
  | ref a =>
    cases d2 with
    | ref b =>
      simp only [binD] at e
      split at e
      · rename_i xs ys e1 e2
        split at e
        · rename_i hz
          simp only [alloc, Option.some.injEq, Prod.mk.injEq] at e
          obtain ⟨rfl, rfl⟩ := e
          obtain ⟨a1, v1, rfl, _, h1, q1⟩ := ok.lst e1 r1
          obtain ⟨a2, v2, rfl, _, h2, q2⟩ := ok.lst e2 r2
          exact op_cat pins s σ H _ _ v u Q I rx ry ⟨a1, a2, v1, v2, rfl, rfl, h1, h2, most_line (by rw [q1.len, q2.len]; exact hz), fun p hp => go_new ok hp (q1.append q2) k⟩
        · cases e
      · cases e
    | _ => simp [binD] at e
  | ro ns =>
    cases d2 with
    | ref b =>
      simp only [binD] at e
      split at e
      · rename_i ys e2
        split at e
        · rename_i hz
          simp only [alloc, Option.some.injEq, Prod.mk.injEq] at e
          obtain ⟨rfl, rfl⟩ := e
          obtain ⟨a1, v1, rfl, q1, z1⟩ := seq_of ok r1 (show seqOf S (.ro ns) = some (ns.map .int) from rfl)
          obtain ⟨a2, v2, rfl, _, h2, q2⟩ := ok.lst e2 r2
          have h1 : SqL X.K H a1 v1 := by
            rcases z1 with z | z
            · exact absurd z.1 (by simp [isTup])
            · exact z.2
          exact op_catR pins s σ H _ _ v u Q I rx ry ⟨a1, a2, v1, v2, rfl, rfl, h1, SqL.of h2, most_line (by rw [q1.len, q2.len, List.length_map]; exact hz), fun p hp => go_new ok hp (q1.append q2) k⟩
        · cases e
      · cases e
    | _ => simp [binD] at e
  | _ => cases d2 <;> simp [binD] at e
theorem o_sub : OpR X (binaryOp .Sub) (rB X.K (binD .sub)) := by
  intro pins s σ H x y v u Q I rx ry ⟨α, S, d1, d2, d, S', ok, r1, r2, e, k⟩
  cases d1 <;> cases d2 <;> simp [binD] at e
  obtain ⟨rfl, rfl⟩ := e
  cases r1
  cases r2
  exact op_sub pins s σ H _ _ v u Q I rx ry ⟨_, _, rfl, rfl, k α H _ Xt.refl ok (.int _)⟩
theorem o_fdiv : OpR X (binaryOp .FloorDiv) (rB X.K (binD .fdiv)) := by
  intro pins s σ H x y v u Q I rx ry ⟨α, S, d1, d2, d, S', ok, r1, r2, e, k⟩
  cases d1 <;> cases d2 <;> simp [binD] at e
  obtain ⟨h, rfl, rfl⟩ := e
  cases r1
  cases r2
  exact op_fdivW pins s σ H _ _ v u Q I rx ry ⟨_, _, rfl, rfl, h, k α H _ Xt.refl ok (.int _)⟩
theorem o_mod : OpR X (binaryOp .Mod) (rB X.K (binD .mod)) := by
  intro pins s σ H x y v u Q I rx ry ⟨α, S, d1, d2, d, S', ok, r1, r2, e, k⟩
  cases d1 <;> cases d2 <;> simp [binD] at e
  obtain ⟨h, rfl, rfl⟩ := e
  cases r1
  cases r2
  exact op_mod pins s σ H _ _ v u Q I rx ry ⟨_, _, rfl, rfl, h, k α H _ Xt.refl ok (.int _)⟩
theorem o_pow : OpR X (binaryOp .Pow) (rB X.K (binD .pow)) := by
  intro pins s σ H x y v u Q I rx ry ⟨α, S, d1, d2, d, S', ok, r1, r2, e, k⟩
  cases d1 with
  | int i =>
    cases d2 with
    | int j =>
      simp only [binD] at e
      split at e
      · rename_i h
        simp only [Option.some.injEq, Prod.mk.injEq] at e
        obtain ⟨rfl, rfl⟩ := e
        cases r1
        cases r2
        exact op_pow pins s σ H _ _ v u Q I rx ry ⟨i, j, rfl, rfl, h, k α H _ Xt.refl ok (.int _)⟩
      · cases e
    | _ => simp [binD] at e
  | _ => cases d2 <;> simp [binD] at e
theorem flat_rep {K : PySem.W.Frag} {α : List Addr} {H : Hp} {xs : List D} {vs : List V} (r : Rps K α H xs vs) : ∀ n : Nat, Rps K α H (List.replicate n xs).flatten (List.replicate n vs).flatten
  | 0 => .nil
  | n + 1 => by
    rw [List.replicate_succ, List.replicate_succ, List.flatten_cons, List.flatten_cons]
    exact r.append (flat_rep r n)
theorem o_mul : OpR X (binaryOp .Mult) (rB X.K (binD .mul)) := by
  intro pins s σ H x y v u Q I rx ry ⟨α, S, d1, d2, d, S', ok, r1, r2, e, k⟩
  cases d1 with
  | int i =>
    cases d2 with
    | int j =>
      simp only [binD] at e
      split at e
      · rename_i h
        simp only [Option.some.injEq, Prod.mk.injEq] at e
        obtain ⟨rfl, rfl⟩ := e
        cases r1
        cases r2
        exact op_mulW pins s σ H _ _ v u Q I rx ry ⟨i, j, rfl, rfl, h, k α H _ Xt.refl ok (.int _)⟩
      · cases e
    | _ => simp [binD] at e
  | ref a =>
    cases d2 with
    | int j =>
      simp only [binD] at e
      split at e
      · rename_i xs e1
        split at e
        · rename_i hz
          simp only [alloc, Option.some.injEq, Prod.mk.injEq] at e
          obtain ⟨rfl, rfl⟩ := e
          obtain ⟨a1, v1, rfl, _, h1, q1⟩ := ok.lst e1 r1
          cases r2
          exact op_rep pins s σ H _ _ v u Q I rx ry ⟨a1, j, v1, rfl, rfl, h1, hz.1, hz.2.1, most_line (by rw [q1.len]; exact hz.2.2), fun p hp => go_new ok hp (flat_rep q1 _) k⟩
        · cases e
      · cases e
    | _ => simp [binD] at e
  | _ => cases d2 <;> simp [binD] at e
theorem c_eq : OpR X (compareOp .Eq) (rB X.K (cmpD .eq)) := by
  intro pins s σ H x y v u Q I rx ry ⟨α, S, d1, d2, d, S', ok, r1, r2, e, k⟩
  simp only [cmpD, Option.map_eq_some_iff, Prod.mk.injEq] at e
  obtain ⟨b, h, rfl, rfl⟩ := e
  obtain ⟨h1, h2⟩ := scal_of r1 r2 h
  exact op_eq pins s σ H _ _ v u Q I rx ry ⟨h1, k α H _ Xt.refl ok (by rw [h2]; exact .bl _)⟩
theorem c_ne : OpR X (compareOp .NotEq) (rB X.K (cmpD .ne)) := by
  intro pins s σ H x y v u Q I rx ry ⟨α, S, d1, d2, d, S', ok, r1, r2, e, k⟩
  simp only [cmpD, Option.map_eq_some_iff, Prod.mk.injEq] at e
  obtain ⟨b, h, rfl, rfl⟩ := e
  obtain ⟨h1, h2⟩ := scal_of r1 r2 h
  exact op_ne pins s σ H _ _ v u Q I rx ry ⟨h1, k α H _ Xt.refl ok (by rw [h2]; exact .bl _)⟩
theorem c_lt : OpR X (compareOp .Lt) (rB X.K (cmpD .lt)) := by
  intro pins s σ H x y v u Q I rx ry ⟨α, S, d1, d2, d, S', ok, r1, r2, e, k⟩
  cases d1 <;> cases d2 <;> simp [cmpD] at e
  obtain ⟨rfl, rfl⟩ := e
  cases r1
  cases r2
  exact op_lt pins s σ H _ _ v u Q I rx ry ⟨_, _, rfl, rfl, k α H _ Xt.refl ok (.bl _)⟩
theorem c_le : OpR X (compareOp .LtE) (rB X.K (cmpD .le)) := by
  intro pins s σ H x y v u Q I rx ry ⟨α, S, d1, d2, d, S', ok, r1, r2, e, k⟩
  cases d1 <;> cases d2 <;> simp [cmpD] at e
  obtain ⟨rfl, rfl⟩ := e
  cases r1
  cases r2
  exact op_le pins s σ H _ _ v u Q I rx ry ⟨_, _, rfl, rfl, k α H _ Xt.refl ok (.bl _)⟩
theorem c_gt : OpR X (compareOp .Gt) (rB X.K (cmpD .gt)) := by
  intro pins s σ H x y v u Q I rx ry ⟨α, S, d1, d2, d, S', ok, r1, r2, e, k⟩
  cases d1 <;> cases d2 <;> simp [cmpD] at e
  obtain ⟨rfl, rfl⟩ := e
  cases r1
  cases r2
  exact op_gt pins s σ H _ _ v u Q I rx ry ⟨_, _, rfl, rfl, k α H _ Xt.refl ok (.bl _)⟩
theorem c_ge : OpR X (compareOp .GtE) (rB X.K (cmpD .ge)) := by
  intro pins s σ H x y v u Q I rx ry ⟨α, S, d1, d2, d, S', ok, r1, r2, e, k⟩
  cases d1 <;> cases d2 <;> simp [cmpD] at e
  obtain ⟨rfl, rfl⟩ := e
  cases r1
  cases r2
  exact op_ge pins s σ H _ _ v u Q I rx ry ⟨_, _, rfl, rfl, k α H _ Xt.refl ok (.bl _)⟩
theorem c_is : OpR X (compareOp .Is) (rB X.K (cmpD .is_)) := by
  intro pins s σ H x y v u Q I rx ry ⟨α, S, d1, d2, d, S', ok, r1, r2, e, k⟩
  cases d2 with
  | non =>
    simp only [cmpD, Option.some.injEq, Prod.mk.injEq] at e
    obtain ⟨rfl, rfl⟩ := e
    cases r2
    exact op_isN pins s σ H _ _ v u Q I rx ry ⟨rfl, k α H _ Xt.refl ok (by rw [non_of r1]; exact .bl _)⟩
  | bl j =>
    cases d1 with
    | bl i =>
      simp only [cmpD, Option.some.injEq, Prod.mk.injEq] at e
      obtain ⟨rfl, rfl⟩ := e
      cases r1
      cases r2
      exact op_isBl pins s σ H _ _ v u Q I rx ry ⟨i, j, rfl, rfl, k α H _ Xt.refl ok (.bl _)⟩
    | _ => simp [cmpD] at e
  | _ => cases d1 <;> simp [cmpD] at e
theorem c_isnot : OpR X (compareOp .IsNot) (rB X.K (cmpD .isnot)) := by
  intro pins s σ H x y v u Q I rx ry ⟨α, S, d1, d2, d, S', ok, r1, r2, e, k⟩
  cases d2 with
  | non =>
    simp only [cmpD, Option.some.injEq, Prod.mk.injEq] at e
    obtain ⟨rfl, rfl⟩ := e
    cases r2
    exact op_notN pins s σ H _ _ v u Q I rx ry ⟨rfl, k α H _ Xt.refl ok (by rw [non_of r1]; exact .bl _)⟩
  | bl j =>
    cases d1 with
    | bl i =>
      simp only [cmpD, Option.some.injEq, Prod.mk.injEq] at e
      obtain ⟨rfl, rfl⟩ := e
      cases r1
      cases r2
      exact op_notBl pins s σ H _ _ v u Q I rx ry ⟨i, j, rfl, rfl, k α H _ Xt.refl ok (.bl _)⟩
    | _ => simp [cmpD] at e
  | _ => cases d1 <;> simp [cmpD] at e
theorem c_in : OpR X (compareOp .In) (rB X.K (cmpD .in_)) := by
  intro pins s σ H x y v u Q I rx ry ⟨α, S, d1, d2, d, S', ok, r1, r2, e, k⟩
  simp only [cmpD] at e
  split at e
  · rename_i f
    rw [Option.bind_eq_some_iff] at e
    obtain ⟨xs, h1, e⟩ := e
    split at e
    · rename_i g
      simp only [Option.some.injEq, Prod.mk.injEq] at e
      obtain ⟨rfl, rfl⟩ := e
      obtain ⟨a, vs, rfl, rs, z⟩ := seq_of ok r2 h1
      refine op_in_seq pins s σ H _ _ v u Q I rx ry ⟨a, vs, rfl, z.elim (fun z => .inr z.2) fun z => .inl z.2, flat_of r1 f, flats_of rs g, ?_⟩
      rw [any_of (xs := xs) r1 f rs g]
      exact k α H _ Xt.refl ok (.bl _)
    · cases e
  · cases e
theorem c_notin : OpR X (compareOp .NotIn) (rB X.K (cmpD .notin)) := by
  intro pins s σ H x y v u Q I rx ry ⟨α, S, d1, d2, d, S', ok, r1, r2, e, k⟩
  simp only [cmpD] at e
  split at e
  · rename_i f
    rw [Option.bind_eq_some_iff] at e
    obtain ⟨xs, h1, e⟩ := e
    split at e
    · rename_i g
      simp only [Option.some.injEq, Prod.mk.injEq] at e
      obtain ⟨rfl, rfl⟩ := e
      obtain ⟨a, vs, rfl, rs, z⟩ := seq_of ok r2 h1
      refine op_notIn_seq pins s σ H _ _ v u Q I rx ry ⟨a, vs, rfl, z.elim (fun z => .inr z.2) fun z => .inl z.2, flat_of r1 f, flats_of rs g, ?_⟩
      rw [any_of (xs := xs) r1 f rs g]
      exact k α H _ Xt.refl ok (.bl _)
    · cases e
  · cases e
theorem i_ix : IxR X (rB X.K ixD) := by
  intro value slice pins s σ H x y v u Q I rx ry ⟨α, S, d1, d2, d, S', ok, r1, r2, e, k⟩ hs
  cases d2 with
  | int i =>
    simp only [ixD, Option.bind_eq_some_iff, Option.map_eq_some_iff, Prod.mk.injEq] at e
    obtain ⟨xs, h1, d, h2, rfl, rfl⟩ := e
    cases r2
    obtain ⟨a, vs, rfl, rs, z⟩ := seq_of ok r1 h1
    obtain ⟨w, h3, r3⟩ := at_of (β := Unit) rs h2
    rcases z with ⟨_, z⟩ | ⟨_, z⟩
    · exact ix_tup value slice pins s σ H _ _ v u Q I rx ry ⟨a, vs, i, w, rfl, rfl, z, h3, k α H _ Xt.refl ok r3⟩ hs
    · exact ix_list value slice pins s σ H _ _ v u Q I rx ry ⟨a, vs, i, w, rfl, rfl, z, h3, k α H _ Xt.refl ok r3⟩ hs
  | _ => simp [ixD] at e
end
end Ix

namespace Ix
open PySem L2
/-! ### the words of the text, one by one: expressions -/
def opOf : Bo → Operator
  | .add => .Add | .sub => .Sub | .mul => .Mult | .fdiv => .FloorDiv | .mod => .Mod | .pow => .Pow
def coOf : Co → CmpOp
  | .eq => .Eq | .ne => .NotEq | .lt => .Lt | .le => .LtE | .gt => .Gt | .ge => .GtE | .is_ => .Is | .isnot => .IsNot | .in_ => .In | .notin => .NotIn
section
variable {X : Cx} {Γ : Fs}
theorem o_of : ∀ o : Bo, OpR X (binaryOp (opOf o)) (rB X.K (binD o))
  | .add => o_add | .sub => o_sub | .mul => o_mul | .fdiv => o_fdiv | .mod => o_mod | .pow => o_pow
theorem c_of : ∀ o : Co, OpR X (compareOp (coOf o)) (rB X.K (cmpD o))
  | .eq => c_eq | .ne => c_ne | .lt => c_lt | .le => c_le | .gt => c_gt | .ge => c_ge | .is_ => c_is | .isnot => c_isnot | .in_ => c_in | .notin => c_notin
section
variable {K : PySem.W.Frag} {f : D → D → Hd → Option (D × Hd)} {c a b : E} {σ : L2.St} {H : Hp} {Q : VK}
theorem w_bin (hev : ∀ env S, ev Γ c env S = (ev Γ a env S).bind fun x => (ev Γ b env x.2).bind fun y => f x.1 y.1 y.2) (h : tr K Γ c σ H Q) : tOp (rB K f) (tr K Γ a) (tr K Γ b) σ H Q := by
  obtain ⟨α, env, S, d, S', ok, en, e, k⟩ := h
  rw [hev] at e
  simp only [Option.bind_eq_some_iff] at e
  obtain ⟨⟨d1, S1⟩, e1, ⟨d2, S2⟩, e2, e3⟩ := e
  exact ⟨α, env, S, d1, S1, ok, en, e1, fun α1 H1 v1 x1 ok1 r1 => ⟨α1, env, S1, d2, S2, ok1, en.mono x1, e2, fun α2 H2 v2 x2 ok2 r2 =>
    ⟨α2, S2, d1, d2, d, S', ok2, r1.mono x2, r2, e3, fun α3 H3 v x3 ok3 r => k α3 H3 v (x1.trans (x2.trans x3)) ok3 r⟩⟩⟩
end
variable {a b c e : Expr} {es rest : List Expr} {ca cb cc ce cs : E} {pos : Pos}
theorem xe_var (i : Nat) {x : Str} (hN : X.N[i]? = some x := by rfl) (hv : Vis X.env.scope x := by first | exact Or.inl rfl | exact Or.inr (Or.inl rfl) | exact Or.inr (Or.inr rfl)) (hd : (x == ("__debug__" : Str)) = false := by decide)
    (hcd : (x == ("__classdict__" : Str)) = false := by decide) : PE X (.Name x pos) (tr X.K Γ (.var i)) :=
  pe_w (pe_var hN hv hd hcd) fun σ H Q ⟨α, env, S, d, S', ok, en, e, k⟩ => by
    simp only [ev] at e
    split at e
    · rename_i d' e2
      simp only [Option.some.injEq, Prod.mk.injEq] at e
      obtain ⟨rfl, rfl⟩ := e
      obtain ⟨v, h1, r⟩ := en.at_ i _ e2
      exact ⟨v, h1, k α H v Xt.refl ok r⟩
    · cases e
theorem xe_k {d : D} {v : V} (h : PE X e (tC v)) (r : ∀ α H, Rp X.K α H d v) : PE X e (tr X.K Γ (.c d)) :=
  pe_w h fun σ H Q ⟨α, env, S, d', S', ok, en, e, k⟩ => by
    simp only [ev, Option.some.injEq, Prod.mk.injEq] at e
    obtain ⟨rfl, rfl⟩ := e
    exact k α H v Xt.refl ok (r α H)
theorem xe_int {i : Int} {j : Nat} : PE X (.Constant (.int i) j pos) (tr X.K Γ (.c (.int i))) := xe_k pe_int fun _ _ => .int i
theorem xe_bl {b : Bool} {j : Nat} : PE X (.Constant (.bool b) j pos) (tr X.K Γ (.c (.bl b))) := xe_k pe_bl fun _ _ => .bl b
theorem xe_non {j : Nat} : PE X (.Constant .none j pos) (tr X.K Γ (.c .non)) := xe_k pe_non fun _ _ => .non
theorem xe_str {x : Str} {j : Nat} : PE X (.Constant (.str x) j pos) (tr X.K Γ (.c (.str x))) := xe_k pe_str fun _ _ => .str x
theorem xe_ty {x : Str} {n : String} (hg : Gl X x) (hm : X.mg x = none) (hv : bootBuiltins x = some (.type n)) (hn : x ≠ "__name__" := by decide) (hd : (x == ("__debug__" : Str)) = false := by decide) : PE X (.Name x pos) (tr X.K Γ (.c (.ty n))) :=
  xe_k (v := .ty n) (pe_bltn hg hm hv (rfl : RelV (.ty n) (.type n)) hn hd) fun _ _ => .ty n
theorem xe_glob {x : Str} {d : D} {v : V} {u : Value} (hg : Gl X x) (hm : X.mg x = some u) (r : RelV v u) (h : ∀ α H, Rp X.K α H d v) (hd : (x == ("__debug__" : Str)) = false := by decide) : PE X (.Name x pos) (tr X.K Γ (.c d)) := xe_k (pe_glob hg hm r hd) h
theorem xe_bin (o : Bo) (ha : PE X a (tr X.K Γ ca)) (hb : PE X b (tr X.K Γ cb)) : PE X (.BinOp a (opOf o) b pos) (tr X.K Γ (.bin o ca cb)) :=
  pe_w (pe_op (o_of o) ha hb) fun σ H Q h => w_bin (fun _ _ => rfl) h
theorem xe_cmp (o : Co) (ha : PE X a (tr X.K Γ ca)) (hb : PE X b (tr X.K Γ cb)) (hm : behindInMarks (coOf o) b = false) : PE X (.Compare a [coOf o] [b] pos) (tr X.K Γ (.cmp o ca cb)) :=
  pe_w (pe_cmpR (c_of o) ha hb hm) fun σ H Q h => w_bin (fun _ _ => rfl) h
theorem xe_ix (ha : PE X a (tr X.K Γ ca)) (hb : PE X b (tr X.K Γ cb)) (hs : PlainIx b) : PE X (.Subscript a b pos) (tr X.K Γ (.ix ca cb)) :=
  pe_w (pe_ix i_ix ha hb hs) fun σ H Q h => w_bin (fun _ _ => rfl) h
theorem xe_neg (ha : PE X a (tr X.K Γ ca)) : PE X (.UnaryOp .USub a pos) (tr X.K Γ (.neg ca)) :=
  pe_w (pe_un un_neg ha) fun σ H Q ⟨α, env, S, d, S', ok, en, e, k⟩ => by
    simp only [ev, Option.bind_eq_some_iff] at e
    obtain ⟨⟨d1, S1⟩, e1, e2⟩ := e
    refine ⟨α, env, S, d1, S1, ok, en, e1, fun α1 H1 v1 x1 ok1 r1 => ?_⟩
    cases d1 with
    | int i =>
      simp only [Option.some.injEq, Prod.mk.injEq] at e2
      obtain ⟨rfl, rfl⟩ := e2
      cases r1
      exact ⟨i, rfl, k α1 H1 _ x1 ok1 (.int _)⟩
    | _ => cases e2
theorem tst_some {r : Option (D × Hd)} {b : Bool} {S : Hd} (h : tst r = some (b, S)) : ∃ d, r = some (d, S) ∧ tru S d = some b := by
  unfold tst at h
  simp only [Option.bind_eq_some_iff, Option.map_eq_some_iff, Prod.mk.injEq] at h
  obtain ⟨⟨d, S1⟩, e1, b', e2, rfl, rfl⟩ := h
  exact ⟨d, e1, e2⟩
theorem tst_of {r : Option (D × Hd)} {b : Bool} {S : Hd} {d : D} (h1 : r = some (d, S)) (h2 : tru S d = some b) : tst r = some (b, S) := by
  unfold tst
  rw [h1]
  simp [h2]
theorem xe_not (ha : PE X a (tr X.K Γ ca)) : PE X (.UnaryOp .Not a pos) (tr X.K Γ (.not_ ca)) :=
  pe_w (pe_notT ha) fun σ H Q ⟨α, env, S, d, S', ok, en, e, k⟩ => by
    simp only [ev, Option.map_eq_some_iff, Prod.mk.injEq] at e
    obtain ⟨⟨b, S1⟩, e1, rfl, rfl⟩ := e
    obtain ⟨d1, e2, e3⟩ := tst_some e1
    exact ⟨α, env, S, d1, S1, ok, en, e2, fun α1 H1 v1 x1 ok1 r1 => ⟨b, tru_of ok1 r1 e3, k α1 H1 _ x1 ok1 (.bl _)⟩⟩
theorem xe_one {op} (ha : PE X a (tr X.K Γ ca)) : PE X (.BoolOp op [a] pos) (tr X.K Γ ca) := pe_one ha
theorem xe_and (ha : PE X a (tr X.K Γ ca)) (hb : PE X (.BoolOp .And (b :: rest) pos) (tr X.K Γ cb)) : PE X (.BoolOp .And (a :: b :: rest) pos) (tr X.K Γ (.and_ ca cb)) :=
  pe_w (pe_and ha hb) fun σ H Q ⟨α, env, S, d, S', ok, en, e, k⟩ => by
    simp only [ev, Option.bind_eq_some_iff] at e
    obtain ⟨⟨d1, S1⟩, e1, e2⟩ := e
    refine ⟨α, env, S, d1, S1, ok, en, e1, fun α1 H1 v1 x1 ok1 r1 => ?_⟩
    cases d1 with
    | bl i =>
      cases r1
      refine ⟨i, rfl, ?_⟩
      cases i with
      | true => exact ⟨α1, env, S1, d, S', ok1, en.mono x1, e2, fun α2 H2 v2 x2 ok2 r2 => k α2 H2 v2 (x1.trans x2) ok2 r2⟩
      | false =>
        simp only [Option.some.injEq, Prod.mk.injEq] at e2
        obtain ⟨rfl, rfl⟩ := e2
        exact k α1 H1 _ x1 ok1 (.bl _)
    | _ => cases e2
theorem xe_or (ha : PE X a (tr X.K Γ ca)) (hb : PE X (.BoolOp .Or (b :: rest) pos) (tr X.K Γ cb)) : PE X (.BoolOp .Or (a :: b :: rest) pos) (tr X.K Γ (.or_ ca cb)) :=
  pe_w (pe_or ha hb) fun σ H Q ⟨α, env, S, d, S', ok, en, e, k⟩ => by
    simp only [ev, Option.bind_eq_some_iff] at e
    obtain ⟨⟨d1, S1⟩, e1, e2⟩ := e
    refine ⟨α, env, S, d1, S1, ok, en, e1, fun α1 H1 v1 x1 ok1 r1 => ?_⟩
    cases d1 with
    | bl i =>
      cases r1
      refine ⟨i, rfl, ?_⟩
      cases i with
      | false => exact ⟨α1, env, S1, d, S', ok1, en.mono x1, e2, fun α2 H2 v2 x2 ok2 r2 => k α2 H2 v2 (x1.trans x2) ok2 r2⟩
      | true =>
        simp only [Option.some.injEq, Prod.mk.injEq] at e2
        obtain ⟨rfl, rfl⟩ := e2
        exact k α1 H1 _ x1 ok1 (.bl _)
    | _ => cases e2
theorem xe_ite {c : Expr} (hc : PT X c (trT X.K Γ cc)) (ha : PE X a (tr X.K Γ ca)) (hb : PE X b (tr X.K Γ cb)) : PE X (.IfExp c a b pos) (tr X.K Γ (.ite cc ca cb)) :=
  pe_w (pe_ifExp hc ha hb) fun σ H Q ⟨α, env, S, d, S', ok, en, e, k⟩ => by
    simp only [ev, Option.bind_eq_some_iff] at e
    obtain ⟨⟨t, S1⟩, e1, e2⟩ := e
    refine ⟨α, env, S, t, S1, ok, en, e1, fun α1 H1 x1 ok1 => ?_⟩
    cases t with
    | true =>
      rw [if_pos rfl] at e2 ⊢
      exact ⟨α1, env, S1, d, S', ok1, en.mono x1, e2, fun α2 H2 v2 x2 ok2 r2 => k α2 H2 v2 (x1.trans x2) ok2 r2⟩
    | false =>
      rw [if_neg Bool.false_ne_true] at e2 ⊢
      exact ⟨α1, env, S1, d, S', ok1, en.mono x1, e2, fun α2 H2 v2 x2 ok2 r2 => k α2 H2 v2 (x1.trans x2) ok2 r2⟩
theorem w_chain {o p : Co} {σ : L2.St} {H : Hp} {Q : VK} (h : tr X.K Γ (.chain o p ca cb cc) σ H Q) : tChain (rB X.K (cmpD o)) (rB X.K (cmpD p)) (tr X.K Γ ca) (tr X.K Γ cb) (tr X.K Γ cc) σ H Q := by
  obtain ⟨α, env, S, d, S', ok, en, e, k⟩ := h
  simp only [ev, Option.bind_eq_some_iff] at e
  obtain ⟨⟨d1, S1⟩, e1, ⟨d2, S2⟩, e2, ⟨d3, S3⟩, e3, e4⟩ := e
  refine ⟨α, env, S, d1, S1, ok, en, e1, fun α1 H1 v1 x1 ok1 r1 => ⟨α1, env, S1, d2, S2, ok1, en.mono x1, e2, fun α2 H2 v2 x2 ok2 r2 =>
    ⟨α2, S2, d1, d2, d3, S3, ok2, r1.mono x2, r2, e3, fun α3 H3 v3 x3 ok3 r3 => ?_⟩⟩⟩
  cases d3 with
  | bl t =>
    cases r3
    refine ⟨t, rfl, ?_⟩
    cases t with
    | true =>
      rw [if_pos rfl]
      simp only [Option.bind_eq_some_iff] at e4
      obtain ⟨⟨d5, S5⟩, e5, e6⟩ := e4
      exact ⟨α3, env, S3, d5, S5, ok3, en.mono (x1.trans (x2.trans x3)), e5, fun α4 H4 v4 x4 ok4 r4 => ⟨α4, S5, d2, d5, d, S', ok4, r2.mono (x3.trans x4), r4, e6, fun α5 H5 v5 x5 ok5 r5 =>
        k α5 H5 v5 (x1.trans (x2.trans (x3.trans (x4.trans x5)))) ok5 r5⟩⟩
    | false =>
      rw [if_neg Bool.false_ne_true]
      simp only [Option.some.injEq, Prod.mk.injEq] at e4
      obtain ⟨rfl, rfl⟩ := e4
      exact k α3 H3 _ (x1.trans (x2.trans x3)) ok3 (.bl _)
  | _ => cases e4
theorem xe_chain (o p : Co) (ha : PE X a (tr X.K Γ ca)) (hb : PE X b (tr X.K Γ cb)) (hc : PE X c (tr X.K Γ cc)) (hm : lastMarks [coOf o, coOf p] [b, c] = false := by with_unfolding_all rfl) :
    PE X (.Compare a [coOf o, coOf p] [b, c] pos) (tr X.K Γ (.chain o p ca cb cc)) := pe_w (pe_chain (c_of o) (c_of p) ha hb hc hm) fun σ H Q h => w_chain h

/-! ### arguments -/
theorem xa_nil : PA X [] (trA X.K Γ .nil) := pa_w pa_nil fun σ H Q ⟨α, env, S, ds, S', ok, en, e, k⟩ => by
  simp only [ev, Option.some.injEq, Prod.mk.injEq, D.tup.injEq] at e
  obtain ⟨rfl, rfl⟩ := e
  exact k α H [] Xt.refl ok .nil
theorem w_cons {es' : E} {σ : L2.St} {H : Hp} {Q : List V → Hp → Prop} (h : trA X.K Γ (.cons ca es') σ H Q) : tCons (tr X.K Γ ca) (trA X.K Γ es') σ H Q := by
  obtain ⟨α, env, S, ds, S', ok, en, e, k⟩ := h
  simp only [ev, Option.bind_eq_some_iff, Option.map_eq_some_iff, Prod.mk.injEq, D.tup.injEq] at e
  obtain ⟨⟨d1, S1⟩, e1, ⟨d2, S2⟩, e2, dr, e3, rfl, rfl⟩ := e
  cases d2 with
  | tup zs =>
    simp only [argsOf, Option.some.injEq] at e3
    subst e3
    exact ⟨α, env, S, d1, S1, ok, en, e1, fun α1 H1 v1 x1 ok1 r1 => ⟨α1, env, S1, _, S2, ok1, en.mono x1, e2, fun α2 H2 v2 x2 ok2 r2 => k α2 H2 _ (x1.trans x2) ok2 (.cons (r1.mono x2) r2)⟩⟩
  | _ => cases e3
theorem xa_cons (ha : PE X e (tr X.K Γ ca)) (hr : PA X es (trA X.K Γ cs)) (hs : starEach (e :: es) X.env = (false, eval e X.env) :: starEach es X.env := by rfl) : PA X (e :: es) (trA X.K Γ (.cons ca cs)) :=
  pa_w (pa_cons ha hr hs) fun σ H Q h => w_cons h
theorem argsOf_some {d : D} {ds : List D} (h : argsOf d = some ds) : d = .tup ds := by
  cases d <;> simp [argsOf] at h
  rw [h]
theorem xe_tup {x1} (h : PA X es (trA X.K Γ cs)) : PE X (.Tuple es x1 pos) (tr X.K Γ (.tup cs)) :=
  pe_w (pe_tup h) fun σ H Q ⟨α, env, S, d, S', ok, en, e, k⟩ => by
    simp only [ev, Option.bind_eq_some_iff] at e
    obtain ⟨⟨d1, S1⟩, e1, ds, e2, e3⟩ := e
    cases argsOf_some e2
    split at e3
    · rename_i hz
      simp only [Option.some.injEq, Prod.mk.injEq] at e3
      obtain ⟨rfl, rfl⟩ := e3
      exact ⟨α, env, S, ds, S1, ok, en, e1, fun α1 H1 vs x1 ok1 r1 => ⟨most_line (by rw [r1.len]; exact hz), fun p hp => go_tup ok1 hp r1 fun α2 H2 v2 x2 ok2 r2 => k α2 H2 v2 (x1.trans x2) ok2 r2⟩⟩
    · cases e3
theorem xe_lst (h : PA X es (trA X.K Γ cs)) : PE X (.List es pos) (tr X.K Γ (.lst cs)) :=
  pe_w (pe_lst h) fun σ H Q ⟨α, env, S, d, S', ok, en, e, k⟩ => by
    simp only [ev, Option.bind_eq_some_iff] at e
    obtain ⟨⟨d1, S1⟩, e1, ds, e2, e3⟩ := e
    cases argsOf_some e2
    split at e3
    · rename_i hz
      simp only [alloc, Option.some.injEq, Prod.mk.injEq] at e3
      obtain ⟨rfl, rfl⟩ := e3
      exact ⟨α, env, S, ds, S1, ok, en, e1, fun α1 H1 vs x1 ok1 r1 => ⟨most_line (by rw [r1.len]; exact hz), fun p hp => go_new ok1 hp r1 fun α2 H2 v2 x2 ok2 r2 => k α2 H2 v2 (x1.trans x2) ok2 r2⟩⟩
    · cases e3

/-! ### slices -/
theorem xo_none : PO X none (trO X.K Γ false .nop) := by
  refine ⟨fun pins s σ H Q I h => ?_⟩
  obtain ⟨α, env, S, o, S', ok, en, e, k⟩ := h
  simp only [evP, Bool.false_eq_true, if_false, Option.some.injEq, Prod.mk.injEq] at e
  obtain ⟨rfl, rfl⟩ := e
  exact po_none.run pins s σ H Q I (k α H Xt.refl ok)
theorem xo_some (h : PE X e (tr X.K Γ ce)) : PO X (some e) (trO X.K Γ true ce) := by
  refine ⟨fun pins s σ H Q I hw => ?_⟩
  obtain ⟨α, env, S, o, S', ok, en, e1, k⟩ := hw
  simp only [evP, if_true, Option.bind_eq_some_iff] at e1
  obtain ⟨⟨d, S1⟩, e1, e2⟩ := e1
  cases d with
  | int i =>
    simp only [Option.some.injEq, Prod.mk.injEq] at e2
    obtain ⟨rfl, rfl⟩ := e2
    exact (po_some h).run pins s σ H Q I ⟨α, env, S, _, S1, ok, en, e1, fun α' H' v x ok' r => by
      cases r
      exact ⟨i, rfl, k α' H' x ok'⟩⟩
  | _ => cases e2
def rSD (K : PySem.W.Frag) : V → Option Int → Option Int → Hp → VK → Prop := fun x l h H Q => ∃ α S d1 d S', Ok K α S H ∧ Rp K α H d1 x ∧ slD d1 l h S = some (d, S') ∧ ∀ α' H' v, Xt K α H α' H' → Ok K α' S' H' → Rp K α' H' d v → Q v H'
theorem cut_all {xs : List D} {lo hi : Option Int} (h : HT.sIx xs.length 0 lo = 0 ∧ HT.sIx xs.length xs.length hi = xs.length) : cutD xs lo hi = xs := by
  unfold cutD
  rw [h.1, h.2]
  simp
theorem s_sl : SlR X (rSD X.K) := by
  intro pins s σ H x v vl vu lo hi sl Q I rx hs pl pu ⟨α, S, d1, d, S', ok, r1, e, k⟩
  have lst : ∀ {xs : List D}, isTup d1 = false → (seqOf S d1).map (fun xs => alloc S (cutD xs lo hi)) = some (d, S') →
      ∃ T id, typeLookup (.type T) "__getitem__" = pure (some (.builtin id)) ∧ s.TypeIs v T ∧ wpAny (model X.prog X.w) X.A (getItem v (.ref sl)) (EP X pins σ Q) X.xe s := fun {xs} nt e => by
    simp only [Option.map_eq_some_iff, alloc, Prod.mk.injEq] at e
    obtain ⟨xs, h1, rfl, rfl⟩ := e
    obtain ⟨a, vs, rfl, rs, z⟩ := seq_of ok r1 h1
    rcases z with ⟨z1, _⟩ | ⟨_, z⟩
    · rw [nt] at z1
      cases z1
    · exact sl_list pins s σ H _ v vl vu lo hi sl Q I rx hs pl pu ⟨a, vs, rfl, z, fun p hp => go_new ok hp (cut_of rs lo hi) k⟩
  cases d1 with
  | tup xs =>
    simp only [slD, Option.some.injEq, Prod.mk.injEq] at e
    obtain ⟨rfl, rfl⟩ := e
    cases r1 with
    | tup h1 l1 q1 =>
      rename_i a vs
      refine sl_tupA pins s σ H _ v vl vu lo hi sl Q I rx hs pl pu ⟨a, vs, rfl, h1, fun z => ?_, fun z p hp => go_tup ok hp (cut_of ⟨l1, q1⟩ lo hi) k⟩
      rw [l1] at z
      rw [cut_all z] at k
      exact k α H _ Xt.refl ok (.tup h1 l1 q1)
  | str z =>
    simp only [slD] at e
    split at e
    · rename_i hz
      simp only [Option.some.injEq, Prod.mk.injEq] at e
      obtain ⟨rfl, rfl⟩ := e
      cases r1
      exact sl_str pins s σ H _ v vl vu lo hi sl Q I rx hs pl pu ⟨z, rfl, most_line hz, k α H _ Xt.refl ok (.str _)⟩
    · cases e
  | ref k => exact lst (xs := []) rfl e
  | ro ns => exact lst (xs := []) rfl e
  | _ => simp [slD, seqOf] at e
theorem xe_sl {lo hi : Option Expr} {p2 : Pos} {b1 b2 : Bool} {cl ch : E} (ha : PE X a (tr X.K Γ ca)) (hl : PO X lo (trO X.K Γ b1 cl)) (hh : PO X hi (trO X.K Γ b2 ch)) : PE X (.Subscript a (.Slice lo hi none p2) pos) (tr X.K Γ (.sl b1 b2 ca cl ch)) :=
  pe_w (pe_slice s_sl ha hl hh) fun σ H Q ⟨α, env, S, d, S', ok, en, e, k⟩ => by
    simp only [ev, Option.bind_eq_some_iff] at e
    obtain ⟨⟨d1, S1⟩, e1, ⟨o1, S2⟩, e2, ⟨o2, S3⟩, e3, e4⟩ := e
    exact ⟨α, env, S, d1, S1, ok, en, e1, fun α1 H1 v1 x1 ok1 r1 => ⟨α1, env, S1, o1, S2, ok1, en.mono x1, e2, fun α2 H2 x2 ok2 => ⟨α2, env, S2, o2, S3, ok2, en.mono (x1.trans x2), e3, fun α3 H3 x3 ok3 =>
      ⟨α3, S3, d1, d, S', ok3, r1.mono (x2.trans x3), e4, fun α4 H4 v4 x4 ok4 r4 => k α4 H4 v4 (x1.trans (x2.trans (x3.trans x4))) ok4 r4⟩⟩⟩⟩

/-! ### tests -/
theorem xt_truth (ha : PE X a (tr X.K Γ ca)) (he : ∀ whole, isTrue a X.env whole = (do let v ← whole; standAt a.pos; holding [v] (truthy v))) : PT X a (trT X.K Γ ca) :=
  pt_w (pt_truth ha he) fun σ H Q ⟨α, env, S, b, S', ok, en, e, k⟩ => by
    obtain ⟨d, e1, e2⟩ := tst_some e
    exact ⟨α, env, S, d, S', ok, en, e1, fun α' H' v x ok' r => ⟨b, tru_of ok' r e2, k α' H' x ok'⟩⟩
theorem cmp_bl {o : Co} {x y d : D} {S S' : Hd} (h : cmpD o x y S = some (d, S')) : ∃ b, d = .bl b := by
  unfold cmpD at h
  split at h
  · simp only [Option.map_eq_some_iff, Prod.mk.injEq] at h
    obtain ⟨b, _, rfl, _⟩ := h
    exact ⟨_, rfl⟩
  · simp only [Option.map_eq_some_iff, Prod.mk.injEq] at h
    obtain ⟨b, _, rfl, _⟩ := h
    exact ⟨_, rfl⟩
  · simp only [Option.some.injEq, Prod.mk.injEq] at h; exact ⟨_, h.1.symm⟩
  · simp only [Option.some.injEq, Prod.mk.injEq] at h; exact ⟨_, h.1.symm⟩
  · simp only [Option.some.injEq, Prod.mk.injEq] at h; exact ⟨_, h.1.symm⟩
  · simp only [Option.some.injEq, Prod.mk.injEq] at h; exact ⟨_, h.1.symm⟩
  · simp only [Option.some.injEq, Prod.mk.injEq] at h; exact ⟨_, h.1.symm⟩
  · simp only [Option.some.injEq, Prod.mk.injEq] at h; exact ⟨_, h.1.symm⟩
  · simp only [Option.some.injEq, Prod.mk.injEq] at h; exact ⟨_, h.1.symm⟩
  · simp only [Option.some.injEq, Prod.mk.injEq] at h; exact ⟨_, h.1.symm⟩
  · split at h
    · simp only [Option.bind_eq_some_iff] at h
      obtain ⟨xs, _, h⟩ := h
      split at h
      · simp only [Option.some.injEq, Prod.mk.injEq] at h; exact ⟨_, h.1.symm⟩
      · cases h
    · cases h
  · split at h
    · simp only [Option.bind_eq_some_iff] at h
      obtain ⟨xs, _, h⟩ := h
      split at h
      · simp only [Option.some.injEq, Prod.mk.injEq] at h; exact ⟨_, h.1.symm⟩
      · cases h
    · cases h
  · cases h
/-- a test whose value is a bool: back to the value -/
theorem w_test {t : TE} {σ : L2.St} {H : Hp} {Q : Bool → Hp → Prop} (hb : ∀ env S d S', ev Γ ca env S = some (d, S') → ∃ b, d = .bl b) (w : ∀ σ H Q, tr X.K Γ ca σ H Q → t σ H Q) (h : trT X.K Γ ca σ H Q) : tTest t σ H Q := by
  obtain ⟨α, env, S, b, S', ok, en, e, k⟩ := h
  obtain ⟨d, e1, e2⟩ := tst_some e
  obtain ⟨b', rfl⟩ := hb env S d S' e1
  simp only [tru, Option.some.injEq] at e2
  subst e2
  refine w σ H _ ⟨α, env, S, _, S', ok, en, e1, fun α' H' v x ok' r => ?_⟩
  cases r
  exact ⟨b', rfl, k α' H' x ok'⟩
theorem xt_cmp (o : Co) (ha : PE X a (tr X.K Γ ca)) (hb : PE X b (tr X.K Γ cb)) (hm : behindInMarks (coOf o) b = false) : PT X (.Compare a [coOf o] [b] pos) (trT X.K Γ (.cmp o ca cb)) :=
  pt_w (pt_cmpR (c_of o) ha hb hm) fun σ H Q h => w_test (fun env S d S' e => by
    simp only [ev, Option.bind_eq_some_iff] at e
    obtain ⟨_, _, _, _, e⟩ := e
    exact cmp_bl e) (fun σ H Q h => w_bin (fun _ _ => rfl) h) h
theorem xt_chain (o p : Co) (ha : PE X a (tr X.K Γ ca)) (hb : PE X b (tr X.K Γ cb)) (hc : PE X c (tr X.K Γ cc)) (hm : lastMarks [coOf o, coOf p] [b, c] = false := by with_unfolding_all rfl) :
    PT X (.Compare a [coOf o, coOf p] [b, c] pos) (trT X.K Γ (.chain o p ca cb cc)) :=
  pt_w (pt_chain (c_of o) (c_of p) ha hb hc hm) fun σ H Q h => w_test (fun env S d S' e => by
    simp only [ev, Option.bind_eq_some_iff] at e
    obtain ⟨_, _, _, _, ⟨d3, S3⟩, e3, e4⟩ := e
    obtain ⟨t, rfl⟩ := cmp_bl e3
    cases t with
    | true =>
      simp only [Option.bind_eq_some_iff] at e4
      obtain ⟨_, _, e4⟩ := e4
      exact cmp_bl e4
    | false =>
      simp only [Option.some.injEq, Prod.mk.injEq] at e4
      exact ⟨_, e4.1.symm⟩) (fun σ H Q h => w_chain h) h
theorem xt_not (ha : PT X a (trT X.K Γ ca)) : PT X (.UnaryOp .Not a pos) (trT X.K Γ (.not_ ca)) :=
  pt_w (pt_not ha) fun σ H Q ⟨α, env, S, b, S', ok, en, e, k⟩ => by
    obtain ⟨d, e1, e2⟩ := tst_some e
    simp only [ev, Option.map_eq_some_iff, Prod.mk.injEq] at e1
    obtain ⟨⟨b1, S1⟩, e3, rfl, rfl⟩ := e1
    simp only [tru, Option.some.injEq] at e2
    subst e2
    exact ⟨α, env, S, b1, S1, ok, en, e3, k⟩
theorem xw_and1 (ha : PT X a (trT X.K Γ ca)) : PW X (.BoolOp .And [a] pos) (trT X.K Γ ca) := pw_and1 ha
theorem xw_or1 (ha : PT X a (trT X.K Γ ca)) : PW X (.BoolOp .Or [a] pos) (trT X.K Γ ca) := pw_or1 ha
theorem xw_and (ha : PT X a (trT X.K Γ ca)) (hb : PW X (.BoolOp .And (b :: rest) pos) (trT X.K Γ cb)) : PW X (.BoolOp .And (a :: b :: rest) pos) (trT X.K Γ (.and_ ca cb)) :=
  pw_w (pw_and ha hb) fun σ H Q ⟨α, env, S, t, S', ok, en, e, k⟩ => by
    obtain ⟨d, e1, e2⟩ := tst_some e
    simp only [ev, Option.bind_eq_some_iff] at e1
    obtain ⟨⟨d1, S1⟩, e3, e4⟩ := e1
    cases d1 with
    | bl i =>
      refine ⟨α, env, S, i, S1, ok, en, tst_of e3 rfl, fun α1 H1 x1 ok1 => ?_⟩
      cases i with
      | true =>
        rw [if_pos rfl]
        exact ⟨α1, env, S1, t, S', ok1, en.mono x1, tst_of e4 e2, fun α2 H2 x2 ok2 => k α2 H2 (x1.trans x2) ok2⟩
      | false =>
        rw [if_neg Bool.false_ne_true]
        simp only [Option.some.injEq, Prod.mk.injEq] at e4
        obtain ⟨rfl, rfl⟩ := e4
        simp only [tru, Option.some.injEq] at e2
        subst e2
        exact k α1 H1 x1 ok1
    | _ => cases e4
theorem xw_or (ha : PT X a (trT X.K Γ ca)) (hb : PW X (.BoolOp .Or (b :: rest) pos) (trT X.K Γ cb)) : PW X (.BoolOp .Or (a :: b :: rest) pos) (trT X.K Γ (.or_ ca cb)) :=
  pw_w (pw_or ha hb) fun σ H Q ⟨α, env, S, t, S', ok, en, e, k⟩ => by
    obtain ⟨d, e1, e2⟩ := tst_some e
    simp only [ev, Option.bind_eq_some_iff] at e1
    obtain ⟨⟨d1, S1⟩, e3, e4⟩ := e1
    cases d1 with
    | bl i =>
      refine ⟨α, env, S, i, S1, ok, en, tst_of e3 rfl, fun α1 H1 x1 ok1 => ?_⟩
      cases i with
      | false =>
        rw [if_neg Bool.false_ne_true]
        exact ⟨α1, env, S1, t, S', ok1, en.mono x1, tst_of e4 e2, fun α2 H2 x2 ok2 => k α2 H2 (x1.trans x2) ok2⟩
      | true =>
        rw [if_pos rfl]
        simp only [Option.some.injEq, Prod.mk.injEq] at e4
        obtain ⟨rfl, rfl⟩ := e4
        simp only [tru, Option.some.injEq] at e2
        subst e2
        exact k α1 H1 x1 ok1
    | _ => cases e4
end
end Ix

namespace Ix
open PySem PySem.Spec PyProof.Rows L2
/-! ### arounds in which nothing is being written out (repr asks this) -/
structure RoomG (k : Nat) (A : Around) : Prop where
  room : Room k A
  none : A.guards = some []
theorem RoomG.deeper {k : Nat} {A : Around} (r : RoomG (k + 1) A) (env : Env) : RoomG k (A.deeper env) := ⟨r.room.deeper env, r.none⟩
theorem RoomG.mono {j k : Nat} {A : Around} (r : RoomG k A) (h : j ≤ k) : RoomG j A := ⟨r.room.mono h, r.none⟩
theorem RoomG.in1 {k : Nat} {A : Around} (r : RoomG (k + 1) A) : RoomG k A.in1 := ⟨r.room.in1, r.none⟩
variable {P : Program} {w : World} {K : PySem.W.Frag} {mg : Str → Option Value} {base : Heap}
/-- what a def promises where nothing is being written out -/
structure FnG (P : Program) (w : World) (K : PySem.W.Frag) (mg : Str → Option Value) (base : Heap) (k : Nat) (f : Addr) (fd : FuncData) (ps : List Str) (sp : Sp) : Prop where
  len : ∀ vs H Q E, sp vs H Q E → vs.length = ps.length
  run : ∀ {A : Around} {outer : List Env} {s : Shared} {H : Hp} {args : Args} {us : List Value} {vs : List V} {Q : VK} {E : XK}, RoomG k A → Env0 P w K mg base A outer s H → BindsTo s fd args (ps.zip us) →
    Vals vs us → sp vs H Q E → codeAny (model P w) A (.call (.ref f) args) (CR CX0 outer P w H s Q E) s
/-- a def as it stands in K, whatever its defaults -/
def FunA (K : PySem.W.Frag) (x : Str) (st : Stmt) (f : Addr) (fd : FuncData) : Prop := ∃ (oc : Value) (od : Option Addr) (dV kV doc pm : Value) (an : Option Addr) (cdv ct : Value) (osl : Array (Option Value)),
  fd = PySem.W.fnOf x x (defArgs st) (defBody st) (defScope st) dV kV doc pm an cdv ct ∧ K.lookup f = some ⟨oc, od, .func fd, osl⟩ ∧ PySem.W.codeIn K cdv x = true
theorem fun_A {x : Str} {st : Stmt} {f : Addr} {fd : FuncData} (F : Fun K x x st f fd) : FunA K x st f fd := by
  obtain ⟨oc, od, kV, doc, pm, an, cdv, ct, osl, e, look, code⟩ := F.ex
  exact ⟨oc, od, _, kV, doc, pm, an, cdv, ct, osl, e, look, code⟩
theorem fund_A {x : Str} {st : Stmt} {f : Addr} {fd : FuncData} {dvs : List V} {kws : List (Str × V)} (F : FunD K x x (defArgs st) (defBody st) (defScope st) dvs kws f fd) : FunA K x st f fd := by
  obtain ⟨oc, od, dV, kV, doc, pm, an, cdv, ct, osl, e, look, code, _, _⟩ := F.ex
  exact ⟨oc, od, dV, kV, doc, pm, an, cdv, ct, osl, e, look, code⟩
theorem fnG_of {x : Str} {st : Stmt} {f : Addr} {fd : FuncData} {N ps : List Str} {k : Nat} {sp : Sp} (F : FunA K x st f fd) (S : FnScope N ps (defScope st)) (len : ∀ vs H Q E, sp vs H Q E → vs.length = ps.length)
    (body : ∀ (cdv : Value) (A : Around) (outer : List Env) (s : Shared) (H : Hp) (vs : List V) (Q : VK) (E : XK), RoomG k (A.deeper (PyProof.Rows.envOfC x (defScope st) s.heap.objs.size f cdv)) → sp vs H Q E →
      ∃ t, PSs (cxOf CX0 P w K mg base N x (defScope st) f cdv A outer s H E).nox (defBody st) t ∧ t { nx := fun _ H' => Q .non H', rt := Q } (start N vs) H) : FnG P w K mg base (k + 1) f fd ps sp := by
  obtain ⟨oc, od, dV, kV, doc, pm, an, cdv, ct, osl, rfl, look, code⟩ := F
  constructor
  · exact len
  intro A outer s H args us vs Q E rg e0 binds rv spec
  have kept : ∀ b o, base.get? b = some o → s.heap.get? b = some o := fun b o e => (e0.bs b o e).1
  have inK : K.In s.heap := e0.mod.kin.keeps kept
  have free : s.heap.NoLimit := e0.mod.nolimit.keeps kept
  have kinds : ∀ y ∈ ps.zip us, (defScope st).names.lookup y.1 = some .local ∨ ((defScope st).names.lookup y.1 = some .cell ∧ ((cellsFrom (s.heap.objs.size + 1) (defScope st).names []).lookup y.1).isSome = true) := by
    rintro ⟨n, v⟩ hy
    exact (S.par n (List.of_mem_zip hy).1).imp id fun q => ⟨q, PySem.W.cellsFrom_some _ _ _ (.inl q)⟩
  apply codeAny_call_function rg.room.depth (inK _ _ look) rfl S.co S.gen rfl (PySem.W.codeRec_of inK code)
  apply binds
  apply wpAny_newFunctionEnv_cells S.kind kinds
  rintro env rfl s1 laid
  constructor
  · exact free.keeps laid.toInCall.keep
  apply codeAny_func
  obtain ⟨t, tree, here⟩ := body cdv A outer s H vs Q E (rg.deeper _) spec
  have start0 : Inv (cxOf CX0 P w K mg base N x (defScope st) f cdv A outer s H E) [] (start N vs) H s1 := inv_start S rg.room.hd e0 (len _ _ _ _ spec) rv laid
  refine wpAny_mono (tree.nox.run [] s1 (start N vs) H _ start0 here) ?_ fun _ _ z => z
  intro fl s' q
  match fl, q with
  | .ret u, ⟨v, _, H', J, rv, z⟩ => exact ⟨v, H', J.os, J.bare, J.base, J.hok, rv, z⟩
  | .next, ⟨_, H', J, z⟩ => exact ⟨V.non, H', J.os, J.bare, J.base, J.hok, rfl, z⟩
  | .brk, ⟨_, _, _, z⟩ => exact z.elim
  | .cont, ⟨_, _, _, z⟩ => exact z.elim
section
variable {X : Cx} {k : Nat} {f : Addr} {fd : FuncData} {ps : List Str} {sp : Sp} {E : XK}
/-- the call itself, its arguments bound -/
theorem runG {pins : List (Addr × Obj)} {σ : L2.St} {H : Hp} {s : Shared} {Q : VK} {args : Args} {us : List Value} {vs : List V} (F : FnG X.prog X.w X.K X.mg X.base k f fd ps sp) (hr : RoomG k X.A) (hb : BindsTo s fd args (ps.zip us)) (hx : Passes CX0 X E)
    (I : Inv X pins σ H s) (r : Vals vs us) (h : sp vs H Q E) : wpAny (model X.prog X.w) X.A (call (.ref f) args.pos args.kw) (EP X pins σ Q) X.xe s := by
  apply wpAny_call
  refine codeAny_mono (F.run hr I.env0 hb r h) ?_
  intro res s' q
  match res, q with
  | .error e, q => exact hx pins σ H s e s' I q
  | .ok (.ret u), q => exact I.after q
  | .ok .next, q => exact False.elim q
  | .ok .brk, q => exact False.elim q
  | .ok .cont, q => exact False.elim q
variable {x : Str} {p pos : Pos} {e : Expr} {es : List Expr} {t : TA} {ds : List Value}
theorem pe_callG (F : FnG X.prog X.w X.K X.mg X.base k f fd ps sp) (hr : RoomG k X.A) (hg : Gl X x) (hm : X.mg x = some (.ref f)) (hk : PySem.W.keepIn X.K (.ref f) = true) (hb : Binds X.K fd ps []) (hx : Passes CX0 X E)
    (ha : PA X (e :: es) t) (hdb : (x == ("__debug__" : Str)) = false) (he : starEach (e :: es) X.env = (false, eval e X.env) :: starEach es X.env) (hpl : (backTo pos (starEach es X.env)).any (·.1) = false) :
    PE X (.Call (.Name x p) (e :: es) [] pos) (tCall sp [] E t) := by
  constructor
  intro pins s σ H Q I h
  apply wpAny_Call_Name_kw
  refine ld_glob I hg hm ?_ hdb
  refine PySem.W.callWith_K I.ok.mod.kin hk (thn (ha.run pos pins s σ H _ I h) ?_) he hpl
  rintro us s1 ⟨vs, H1, I1, r, q⟩
  have q' : sp (vs ++ []) H1 Q E := q
  rw [List.append_nil] at q'
  refine ⟨I1.kIn, ?_⟩
  have l : us.length = ps.length := by rw [← r.length]; exact F.len _ _ _ _ q'
  have b := hb s1 us I1.kIn (by rw [List.append_nil]; exact l)
  rw [List.append_nil] at b
  exact runG (args := ⟨us, []⟩) F hr b hx I1 r q'
/-- a call by position, the last of the defaults filled in -/
theorem pe_callGP {dvs : List V} (F : FnG X.prog X.w X.K X.mg X.base k f fd ps sp) (hr : RoomG k X.A) (hg : Gl X x) (hm : X.mg x = some (.ref f)) (hk : PySem.W.keepIn X.K (.ref f) = true) (hb : Binds X.K fd ps ds) (hd : Vals dvs ds) (hx : Passes CX0 X E)
    (ha : PA X (e :: es) t) (hdb : (x == ("__debug__" : Str)) = false) (he : starEach (e :: es) X.env = (false, eval e X.env) :: starEach es X.env) (hpl : (backTo pos (starEach es X.env)).any (·.1) = false) :
    PE X (.Call (.Name x p) (e :: es) [] pos) (tCall sp dvs E t) := by
  constructor
  intro pins s σ H Q I h
  apply wpAny_Call_Name_kw
  refine ld_glob I hg hm ?_ hdb
  refine PySem.W.callWith_K I.ok.mod.kin hk (thn (ha.run pos pins s σ H _ I h) ?_) he hpl
  rintro us s1 ⟨vs, H1, I1, r, q⟩
  have q' : sp (vs ++ dvs) H1 Q E := q
  refine ⟨I1.kIn, ?_⟩
  have rr := r.append hd
  have l : (us ++ ds).length = ps.length := by rw [← rr.length]; exact F.len _ _ _ _ q'
  exact runG (args := ⟨us, []⟩) F hr (hb s1 us I1.kIn l) hx I1 rr q'
end
section
variable {X : Cx} {k n : Nat} {f : Addr} {fd : FuncData} {ps ks : List Str} {sp : Sp} {E : XK} {g : List Value → List Value → List Value} {gV : List V → List V → List V}
theorem run_fnG {pins : List (Addr × Obj)} {σ : L2.St} {H : Hp} {s : Shared} {Q : VK} {us ws : List Value} {vs zs : List V} (F : FnG X.prog X.w X.K X.mg X.base k f fd ps sp) (hr : RoomG k X.A) (hb : KBn X.K fd ps n ks g gV) (hx : Passes CX0 X E)
    (I : Inv X pins σ H s) (r : Vals vs us) (rz : Vals zs ws) (l1 : vs.length = n) (l2 : zs.length = ks.length) (h : sp (gV vs zs) H Q E) : wpAny (model X.prog X.w) X.A (call (.ref f) us (ks.zip ws)) (EP X pins σ Q) X.xe s := by
  have b := hb.to s us ws I.kIn (by rw [← r.length]; exact l1) (by rw [← rz.length]; exact l2)
  exact runG (args := ⟨us, ks.zip ws⟩) F hr b hx I (hb.rel r rz) h
variable {x : Str} {p pos : Pos} {e : Expr} {es : List Expr} {t tk : TA} {kws : List Keyword}
theorem pe_callNG (F : FnG X.prog X.w X.K X.mg X.base k f fd ps sp) (hr : RoomG k X.A) (hg : Gl X x) (hm : X.mg x = some (.ref f)) (hk : PySem.W.keepIn X.K (.ref f) = true) (hb : KBn X.K fd ps n ks g gV) (hx : Passes CX0 X E)
    (ha : PA X (e :: es) t) (hkw : PK X kws tk) (hall : (backToKw pos (keywordEach kws X.env)).all (·.1.isSome) = true) (hks : (backToKw pos (keywordEach kws X.env)).filterMap (·.1) = ks)
    (hdb : (x == ("__debug__" : Str)) = false) (he : starEach (e :: es) X.env = (false, eval e X.env) :: starEach es X.env)
    (hpl : ((backTo pos (starEach (e :: es) X.env)).any (·.1) || (backToKw pos (keywordEach kws X.env)).any (·.1.isNone)) = false) :
    PE X (.Call (.Name x p) (e :: es) kws pos) (tCallN n ks.length sp gV E t tk) := by
  constructor
  intro pins s σ H Q I h
  apply wpAny_Call_Name_kw
  refine ld_glob I hg hm ?_ hdb
  refine PySem.W.callWith_KW I.ok.mod.kin hk hall (thn (ha.run pos pins s σ H _ I h) ?_) hpl he
  rintro us s1 ⟨vs, H1, I1, r, q⟩
  refine thn (hkw.run pos pins s1 σ H1 _ I1 q) ?_
  rintro ws s2 ⟨zs, H2, I2, rz, l1, l2, z⟩
  refine ⟨I2.kIn, ?_⟩
  subst hks
  exact run_fnG F hr hb hx I2 r rz l1 l2 z
end
/-! ### the law's own call -/
theorem law_callG {mb : Str → Option Value} {k : Nat} {fa a : Addr} {fd : FuncData} {x : Str} {sp : Sp} {s₁ : Shared} {vs : List Value} {ns : List Int} (inK : K.In s₁.heap) (names : s₁.heap.Ns mainGlobals mg) (nb : s₁.heap.Ns builtinsNs mb) (boot : ∀ x : Str, x ≠ "__name__" → mb x = bootBuiltins x)
    (free : s₁.heap.NoLimit) (nogen : s₁.gens = #[]) (ha : s₁.heap.get? a = some { cls := .type "list", data := .seq vs.toArray }) (hi : IntsAre vs ns) (hl : ns.length ≤ sizeLine) (hr : RoomG k callerA)
    (F : ∀ base : Heap, K.In base → base.Ns mainGlobals mg → FnG P w K mg base k fa fd [x] sp) (bind : ∀ (s : Shared) (u : Value), BindsTo s fd ⟨[u], []⟩ [(x, u)])
    (hsp : ∀ H : Hp, Only H → SqL K H a (ns.map V.int) → sp [.ref a] H (fun v _ => v = .bl true) E0) :
    codeAny (model P w) callerA (.call (.ref fa) ⟨[.ref a], []⟩) (fun r s' => r = .ok (.ret (.bool true)) ∧ OldK s₁.heap s'.heap ∧ s'.os = s₁.os ∧ AllBare s'.gens) s₁ := by
  have rv := vals_ints hi
  have lenV := hi.length
  obtain ⟨H, only, seq, hok, own, out⟩ : ∃ H : Hp, Only H ∧ SqL K H a (ns.map V.int) ∧ HOk P w H s₁.heap ∧ (∀ b, H b ≠ none → b = a) ∧ (H a ≠ none → K.lookup a = none) := by
    cases look : K.lookup a with
    | some o =>
      have same := inK a o look
      rw [ha] at same
      cases same
      refine ⟨fun _ => none, fun _ => .inl rfl, .inr ⟨_, vs.toArray, _, look, rfl, rfl, rfl, ?_, ?_⟩, ?_, ?_, ?_⟩
      · rw [List.size_toArray, lenV]; exact hl
      · simpa using rv
      · intro b u z; cases (show (none : Option HO) = some u from z)
      · intro b z; exact absurd rfl z
      · intro z; exact absurd rfl z
    | none =>
      let T : HO := .frz { cls := .type "list", data := .seq vs.toArray } (.lst (ns.map V.int))
      obtain ⟨H, here, there⟩ : ∃ H : Hp, H a = some T ∧ ∀ b, b ≠ a → H b = none := ⟨fun b => if b = a then some T else none, if_pos rfl, fun b e => if_neg e⟩
      have only1 : ∀ b u, H b = some u → b = a := fun b u z => Classical.byContradiction fun e => by rw [there b e] at z; cases z
      refine ⟨H, fun b => ?_, .inl (.inr ⟨_, here⟩), fun b u z => ?_, fun b z => ?_, fun _ => rfl⟩
      · by_cases e : b = a
        · subst e
          exact .inr ⟨_, _, here⟩
        · exact .inl (there b e)
      · have e := only1 b u z
        subst e
        rw [here] at z
        cases z
        exact ⟨ha, by rw [List.length_map]; exact hl, vs, _, rv, ha⟩
      · exact Classical.byContradiction fun e => z (there b e)
  have bare : ∀ {b : Addr} {o : Obj}, s₁.heap.get? b = some o → (b = a → False) → (hidT s₁.heap H).get? b = some o := fun {b o} e ne => hidT_get e (Classical.byContradiction fun q => ne (own b q))
  have dict : ∀ {b : Addr} {o : Obj} {es : Array DictEntry} {ep : Nat}, s₁.heap.get? b = some o → o.data = .dict es ep → b = a → False := fun {b o es ep} e d z => by
    subst z
    rw [ha] at e
    cases e
    cases d
  have nsB : ∀ {b : Addr} {m : Str → Option Value}, s₁.heap.Ns b m → (hidT s₁.heap H).Ns b m := fun {b m} ⟨o, es, ep, e, d, r⟩ => ⟨o, es, ep, bare e (dict e d), d, r⟩
  have inB : K.In (hidT s₁.heap H) := fun b o e => hidT_get (inK b o e) (Classical.byContradiction fun q => by
    have z := own b q
    subst z
    rw [out q] at e
    cases e)
  obtain ⟨mc, f1, f2⟩ := free
  have e0 : Env0 P w K mg (hidT s₁.heap H) callerA [] s₁ H := ⟨rfl, ⟨inB, nsB names, ⟨mb, nsB nb, boot⟩, ⟨mc, nsB f1, f2⟩⟩, fun b o e => of_hidT e, Nat.le_of_eq (hidT_size _ _), trivial, (fun b hb => by simp [frs] at hb), hok, AllBare.of_eq nogen⟩
  refine codeAny_mono ((F _ inB (nsB names)).run (args := ⟨[.ref a], []⟩) (us := [.ref a]) (vs := [.ref a]) hr e0 (bind s₁ (.ref a)) (.cons rfl .nil) (hsp H only seq)) ?_
  intro r s' q
  match r, q with
  | .error e, q => exact q.elim
  | .ok .next, q => exact False.elim q
  | .ok .brk, q => exact False.elim q
  | .ok .cont, q => exact False.elim q
  | .ok (.ret u), ⟨v, H', os, br, un, hok', r', z⟩ =>
    have z : v = .bl true := z
    subst z
    have r' : u = Value.bool true := r'
    subst r'
    refine ⟨rfl, OldK.of_keep fun b o e => ?_, os, br⟩
    cases hb : H b with
    | none => exact un.keep b o e hb (fun z => by cases z) (by simp)
    | some u =>
      rcases only b with z | ⟨ob, xs, z⟩
      · rw [hb] at z; cases z
      · obtain ⟨e1, _⟩ := hok b _ z
        obtain ⟨e2, _⟩ := hok' b _ (un.frzs b ob _ z)
        rw [e] at e1
        cases e1
        exact e2
theorem walkG {l : PySem.W.OpenLaw} {n k : Nat} {q : Program} {loose : List Str} {XP : (Str → Option Value) → Heap → Prop} {YP : World → Heap → Prop} {d : DefRec} {K : Params → PySem.W.Frag} {sp : World → Sp} {x : Str}
    (hn : l.most = some n) (small : n ≤ sizeLine) (hdf : d.params.defaults = []) (hr : RoomG k callerA) (hY : ∀ (w : World) (h : Heap), YP w h → (K w.params).In h)
    (F : ∀ (w : World) (mg : Str → Option Value) (fa : Addr) (h : Heap), (K w.params).In h → h.Ns mainGlobals mg → mg d.name = some (.ref fa) →
      ∃ fd : FuncData, (∀ (s : Shared) (u : Value), BindsTo s fd ⟨[u], []⟩ [(x, u)]) ∧ ∀ base : Heap, (K w.params).In base → base.Ns mainGlobals mg → FnG l.prog w (K w.params) mg base k fa fd [x] (sp w))
    (holds : ∀ (w : World) (H : Hp) (a : Addr) (ns : List Int), ns.length ≤ n → (∀ z ∈ ns, Builtin.Int.intBits z ≤ 1048576) → Only H → SqL (K w.params) H a (ns.map V.int) → sp w [.ref a] H (fun v _ => v = .bl true) E0) :
    PySem.W.WalkO q loose XP YP l.row.toRowW d [] (fun f vs => PySem.call f vs) := by
  apply Att.attach_callB hn hdf
  intro w s₀ s₁ mg mb fa o pm cd doc a vs ns ground Y ho hd hcd hmg hobj hints hlen hbits nogen
  have inK := hY w _ Y
  obtain ⟨fd, bind, fn⟩ := F w mg fa _ inK ground.T.g hmg
  exact law_callG inK ground.T.g ground.T.b ground.T.builtins ground.T.nolimit nogen hobj hints (Nat.le_trans hlen small) hr fn bind fun H only seq => holds w H a ns hlen hbits only seq
end Ix

namespace Ix
open PySem PySem.Spec PyProof.Rows L2 NdefX
/-! ### own errors whose __init__ calls super().__init__(f'..') -/
section
variable {prog : Program} {w : World} {A : Around} {E : Value → Shared → Prop} {h : Heap} {g : Array GenState} {d : Drawn} {t : Nat} {os : OsState}
variable {nm q : Str} {C N : Addr} {bs bm : List Value} {hdct : Bool} {sn : List Str} {sub : List Value} {ab : Bool} {col : Option Bool} {dd : Option Addr} {k0 k1 k2 k3 k5 : Option Value}
/-- the bound ValueError.__init__, called -/
theorem call_mwV {u e t0 : Addr} {rest : List Value} {Q : Value → Shared → Prop}
    (hC : h.get? C = some (excClassObj nm q C N bs bm hdct sn sub ab col dd k0 k1 k2 k3 k5 "ValueError.__new__")) (he : h.get? e = some (HandSPX.excO C t0)) (hu : h.get? u = some (PySem.W.kxs_mw "ValueError.__init__" e)) (hrest : rest.length ≤ sizeLine)
    (hq : ∀ h' t1, (∀ b o, b ≠ e → h.get? b = some o → h'.get? b = some o) → h'.get? e = some (HandSPX.excO C t1) → Q .none ⟨h', g, d, t, os⟩) :
    wpAny (model prog w) A (call (.ref u) rest) Q E ⟨h, g, d, t, os⟩ := by
  refine wpAny_call (codeAny_of_tree ?_)
  show wpAny _ A.in1 (callAny (.ref u) ⟨rest, []⟩) _ _ _
  simp only [callAny]
  refine wpAny_bind (wpAny_load hu ?_)
  simp only [PySem.W.kxs_mw, show (Value.type "method-wrapper" == Value.type "method" || Value.type "method-wrapper" == Value.type "builtin_function_or_method" || Value.type "method-wrapper" == Value.type "method-wrapper") = true by decide, if_true]
  refine W.KFB.if_so (by decide) ?_
  refine wpAny_bind (PySem.W.check_bound_init F.excBase_ValueError.toExcCallFacts hC he rfl ?_)
  refine wpAny_bind (wpAny_pure (wpAny_pure ?_))
  refine ⟨Code.quiet_builtin _ (by decide +kernel), codeAny_builtin F.excBase_ValueError.initEntry ?_⟩
  rw [Around.under_plainId F.excBase_ValueError.init.plain _]
  wp_walk
  refine hq _ h.objs.size (fun b o hb ho => ?_) ?_
  · rw [Heap.get?_update_other _ _ (Ne.symm hb)]
    exact Heap.get?_push_of_some _ ho
  · rw [Heap.get?_update_self _ (Heap.get?_push_of_some _ he) rfl]
    rfl
end
/-- the text of a plain value -/
def txtV : V → Option Str
  | .str y => if y.length ≤ 100000 then some y else none
  | .int i => if i.natAbs.log2 < 1920 then some (toString i) else none
  | .bl b => some (if b then "True" else "False")
  | .non => some "None"
  | _ => none
theorem txtV_len {v : V} {y : Str} (h : txtV v = some y) : y.length ≤ 100000 := by
  cases v with
  | str z =>
    simp only [txtV] at h
    split at h
    · cases h
      assumption
    · cases h
  | int i =>
    simp only [txtV] at h
    split at h
    · rename_i hd
      cases h
      have e := int_text_length_le (k := 1920) (a := i) (by decide) hd
      show (Str.ofString (toString i)).length ≤ _
      rw [PySem.ofString_length]
      omega
    · cases h
  | bl b =>
    cases h
    cases b <;> decide
  | non =>
    cases h
    decide
  | _ => simp [txtV] at h
section
variable {X : Cx}
def tFmtA (te : TE) : TE := fun σ H Q => te σ H fun x H1 => ∃ y, txtV x = some y ∧ Q (.str y) H1
theorem pe_fmtA {e : Expr} {te : TE} {pos : Pos} (he : PE X e te) : PE X (.FormattedValue e (-1) none pos) (tFmtA te) := by
  refine ⟨fun pins s σ H Q I h => ?_⟩
  refine wpAny_FormattedValue_plain (thn (he.run pins s σ H _ I h) fun v s1 hv => ?_)
  obtain ⟨x, H1, I1, r1, y, hy, q⟩ := hv
  have hl := txtV_len hy
  cases x with
  | str z =>
    simp only [txtV] at hy
    split at hy
    · cases hy
      obtain ⟨t, rfl⟩ := r1
      exact wpAny_formatField_str ⟨.str _, H1, I1, ⟨t, rfl⟩, q⟩ ⟨.str _, H1, I1.tok _, ⟨_, rfl⟩, q⟩ (by rw [sizeLine_eq]; omega)
    · cases hy
  | int i =>
    simp only [txtV] at hy
    split at hy
    · rename_i hd
      cases hy
      obtain ⟨t, rfl⟩ := r1
      exact wpAny_formatField_int hd ⟨.str (toString i), H1, I1.tok _, ⟨_, rfl⟩, q⟩
    · cases hy
  | bl b =>
    cases hy
    cases (show v = Value.bool b from r1)
    exact wpAny_formatField_bool ⟨.str (if b then "True" else "False"), H1, I1.tok _, ⟨_, rfl⟩, q⟩
  | non =>
    cases hy
    cases (show v = Value.none from r1)
    exact wpAny_formatField_none ⟨.str "None", H1, I1.tok _, ⟨_, rfl⟩, q⟩
  | _ => simp [txtV] at hy
end

/-- what the written part says of a class C whose __init__ at f says super().__init__(..) -/
structure SupC (P : Program) (K : PySem.W.Frag) (mg : Str → Option Value) (C f cc : Addr) (F : NF) : Prop where
  exc : OexC K C
  fn : ∃ od doc pm ct osl, K.lookup f = some ⟨.type "function", od, .func (F.fd doc pm ct), osl⟩
  code : PySem.W.codeIn K (.ref F.c) F.qual = true
  cl : F.cl = [(("__class__" : Str), cc)]
  cell : ∃ ccl ccd csl, K.lookup cc = some ⟨ccl, ccd, .cell (some (.ref C)), csl⟩
  file : ∃ kcl kcd kvs ksl file tf, K.lookup F.c = some ⟨kcl, kcd, .fields kvs, ksl⟩ ∧ kvs[2]? = some (.str file tf) ∧ ((P.main.file : Str) == file) = true
  top : (P.main.scope.names.lookup ("super" : Str)).isSome = false
  glob : mg "super" = none
  sup : PySem.W.ks_superIn K C C "__init__" = some (some (.builtin "ValueError.__init__"))
  opq : PySem.W.nsIn K cStatics "thirdparty.any" = some none
  sub : PySem.W.subIn K (.ref C) (.type "ValueError") = some true
  mro : PySem.W.mroIn K C (.ref C) = some true

section
variable {X : Cx} {F : NF} {f C cc a : Addr} {parts : List Expr} {body : List Stmt} {q0 q1 q2 q3 q4 qj : Pos} {ar : Arg} {σ : L2.St} {H : Hp} {s : Shared} {te : TE} {R : Hp → Prop} {E : Value → Shared → Prop} {pl : Sem Bool}
/-- the statement super().__init__(f'..') -/
theorem sup_stmt (T : SupC X.prog X.K X.mg C f cc F) (hfu : X.env.func = some f) (hco : X.env.code = .ref F.c) (hce : X.env.cells = F.cl) (hsc : X.env.scope = F.scope) (hin : interactive X.env = false)
    (hself : (F.params.posonlyargs ++ F.params.args).head? = some ar) (h0 : X.N[0]? = some ar.arg) (hka : F.scope.names.lookup ar.arg = some .local)
    (hks : F.scope.names.lookup ("super" : Str) = some .globalImplicit) (hkc : F.scope.names.lookup ("__class__" : Str) = some .free)
    (he : eval (.Call (.Attribute (.Call (.Name "super" q0) [] [] q1) "__init__" q2) [.JoinedStr parts qj] [] q3) X.env = (do
      let ov ← attributeBase (.Call (.Name "super" q0) [] [] q1) "__init__" X.env (eval (.Call (.Name "super" q0) [] [] q1) X.env)
      standAt q2.atName
      let (f, first) ← holding [ov] (getMethod ov "__init__" pl)
      callWith q3 f first (backTo q3 (starEach [.JoinedStr parts qj] X.env)) []))
    (hsw : swapsWith (.Call (.Attribute (.Call (.Name "super" q0) [] [] q1) "__init__" q2) [.JoinedStr parts qj] [] q3) none q4.line X.env = pure false)
    (I : Inv X [] σ H s) (hs0 : σ[0]? = some (some (.ref a))) (ha : H a = some (exo a C none)) (hpe : PE X (.JoinedStr parts qj) te) (hte : te σ H fun x H1 => [x].length = 1 ∧ H1 a = some (exo a C none) ∧ R H1) :
    PySem.wpAt (model X.prog X.w) X.A (.func body X.env) (exec (.Expr (.Call (.Attribute (.Call (.Name "super" q0) [] [] q1) "__init__" q2) [.JoinedStr parts qj] [] q3) q4) X.env) (fun fl s' => fl = .next ∧ ∃ H1, Inv X [] σ H1 s' ∧ R H1) X.xe s := by
  obtain ⟨od, doc, pm, ct, osl, lk⟩ := T.fn
  obtain ⟨ccl, ccd, csl, lcc⟩ := T.cell
  obtain ⟨kcl, kcd, kvs, ksl, file, tf, lco, hvs, hfile⟩ := T.file
  obtain ⟨nm, qq, N', bs, bm, sn, sub, ab, col, dd, k0, k1, k2, k3, k5, hC, hbm⟩ := T.exc.cls
  have hcl : PySem.W.clsIn X.K C = some { name := nm, bases := bs, mro := .ref C :: bm, ns := N', qualname := qq, hasDict := true, slotNames := sn, subclasses := sub, abstract := ab, collection := col, hasDel := false } := by unfold PySem.W.clsIn; rw [hC] <;> rfl
  obtain ⟨t1, hoa⟩ := exo_at I.hok ha
  have KX := I.kIn
  have hk : X.env.scope.kind = .function := I.ok.kind
  have hca : C ≠ a := fun z => by
    have := (I.bs _ _ (I.ok.mod.kin _ _ hC)).2
    rw [z, ha] at this
    cases this
  refine PySem.ks_wpAt_Expr_any (PySem.ks_wpAt_MethodCall ?_ he) hin hsw
  refine PySem.ks_wpAt_super_base (fd := F.fd doc pm ct) (by show X.env.scope.names.lookup _ = _; rw [hsc]; exact hks) (by show X.env.scope.names.lookup _ = _; rw [hsc]; exact hkc) (by decide) hfu (KX _ _ lk) rfl hself hco (KX _ _ lco) rfl hvs hfile T.top ?_
  obtain ⟨mb, b1, b2⟩ := I.mod.blt
  refine PySem.W.ks_loadName_global hk (by show X.env.scope.names.lookup _ = _; rw [hsc]; exact hks) (Calls.loadGlobal_builtin (by rw [I.ok.glob]; exact I.mod.glob.keeps I.bk) T.glob (by rw [I.ok.blt]; exact b1.keeps I.bk) ((b2 _ (by decide)).trans (by decide +kernel : bootBuiltins "super" = some (.type "super"))) ⟨rfl, ?_⟩)
  refine wpAny_loadName_free hk (by show X.env.scope.names.lookup _ = _; rw [hsc]; exact hkc) (by rw [hce, T.cl]; simp [List.lookup]) ⟨_, KX _ _ lcc, rfl⟩ ?_
  obtain ⟨m, hns, hm⟩ := I.loc
  obtain ⟨u, ru, lu⟩ := hm 0 _ _ h0 hs0 (by rw [hsc]; exact .inl hka)
  cases (show u = Value.ref a from ru)
  have hkl : X.env.kindOf ar.arg = some .local := by show X.env.scope.names.lookup _ = _; rw [hsc]; exact hka
  have hma : m ar.arg = some (.ref a) := by
    rcases lu with ⟨_, z⟩ | ⟨z, _⟩
    · exact z
    · rw [hkl] at z
      rcases z with z | z <;> cases z
  refine wpAny_loadName_local hk hkl hns hma ?_
  refine PySem.ks_wpAny_isType_cls (KX _ _ hC) rfl ⟨rfl, ?_⟩
  have Ia : PySem.W.InstAt s.heap a { cls := .ref C, dict := none, data := .fields #[.ref t1, .none, .none, .none, .bool false, .none] } C none := ⟨hoa, rfl, rfl, trivial⟩
  obtain ⟨hp, g, d, t, os⟩ := s
  refine PySem.ks_wpAny_call_super (KX _ _ hC) rfl hoa rfl (fun c e => by cases e) (PySem.W.looks_mroIn KX T.mro) (fun h' e k => ?_)
  have I1 : Inv X [] σ H ⟨h', g, d, t, os⟩ := I.kept k
  obtain ⟨t2, hoa2⟩ := exo_at I1.hok ha
  have Ia2 : PySem.W.InstAt h' a { cls := .ref C, dict := none, data := .fields #[.ref t2, .none, .none, .none, .bool false, .none] } C none := ⟨hoa2, rfl, rfl, trivial⟩
  have hsu := T.sup
  unfold PySem.W.ks_superIn at hsu
  rw [hcl] at hsu
  have hmr : PySem.W.Looks (model X.prog X.w) h' (mroOf (.ref C)) (.ref C :: bm) := (PySem.W.looks_clsIn I1.kIn hcl).andThen .now
  refine PySem.W.kxs_getMethod PySem.W.kxs_ValueError e (PySem.W.looks_opaque I1.kIn T.opq) hmr rfl I1.kIn hsu (Ia2.type.andThen (PySem.W.looks_subIn I1.kIn T.sub)) (Ne.symm hca) (by decide) ?_
  have kk : ∀ b o, h'.get? b = some o → (h'.push (PySem.W.kxs_mw "ValueError.__init__" a)).get? b = some o := fun b o e => Heap.get?_push_of_some _ e
  have I2 : Inv X [] σ H ⟨h'.push (PySem.W.kxs_mw "ValueError.__init__" a), g, d, t + 1, os⟩ := I1.kept kk
  have hu : (h'.push (PySem.W.kxs_mw "ValueError.__init__" a)).get? h'.objs.size = some (PySem.W.kxs_mw "ValueError.__init__" a) := Heap.get?_push_at rfl rfl
  have I3 : Inv X [(h'.objs.size, PySem.W.kxs_mw "ValueError.__init__" a)] σ H ⟨h'.push (PySem.W.kxs_mw "ValueError.__init__" a), g, d, t + 1, os⟩ := I2.pins_of fun p hp => by
    rcases List.mem_singleton.mp hp with rfl
    exact ⟨hu, I1.hok.fresh (Nat.le_refl _), Nat.ne_of_gt I1.lt, I1.nofs (Nat.le_refl _), fun v z => by cases z⟩
  refine PySem.W.kxs_callWith (i := "ValueError.__init__") (x := a) rfl ?_
  show wpAny _ _ (evalArgs _ true ((false, eval (.JoinedStr parts qj) X.env) :: backTo q3 (starEach [] X.env)) []) _ _ _
  refine Calls.evalArgs_plain (thn ((pa_cons hpe pa_nil : PA X [.JoinedStr parts qj] (tCons te tNil)).run q3 _ _ σ H (fun vs H1 => vs.length = 1 ∧ H1 a = some (exo a C none) ∧ R H1) I3 hte) fun us s1 hh => ?_)
  obtain ⟨vs, H1, J, rv, hlen, ha1, hR⟩ := hh
  have hul : us.length ≤ sizeLine := by rw [← rv.length, hlen, sizeLine_eq]; omega
  have hpin := (J.pin _ (List.mem_append_right _ (List.mem_singleton.mpr rfl))).1
  refine ⟨hpin, ?_⟩
  obtain ⟨t3, ho3⟩ := exo_at J.hok ha1
  obtain ⟨hp1, g1, d1, tk1, os1⟩ := s1
  refine call_mwV (J.kIn _ _ hC) ho3 hpin hul fun h2 t4 k2 hx => ?_
  have J2 := J.write (t' := tk1) (x := a) (e := a) (o := exo a C none) (by rw [ha1]; exact True.intro) (.inl rfl) k2 ⟨_, hx⟩ (exo_ok hx)
  have eu : upd H1 a (exo a C none) = H1 := by
    funext b
    by_cases hb : b = a
    · rw [hb, upd_same, ha1]
    · rw [upd_ne hb]
  rw [eu] at J2
  exact ⟨rfl, H1, J2.pins_of fun p hp => absurd hp (by simp), hR⟩
end

section
variable {CX : CXT} {P : Program} {w : World} {K : PySem.W.Frag} {mg : Str → Option Value} {base : Heap} {N ps : List Str} {F : NF} {f C cc : Addr} {sp : Sp} {parts : List Expr} {rest : List Stmt} {q0 q1 q2 q3 q4 qj : Pos} {ar : Arg} {pl : Addr → Sem Bool}
theorem fn_sup (T : SupC P K mg C f cc F) (S : NScope N ps ["__class__"] F.scope) (hself : (F.params.posonlyargs ++ F.params.args).head? = some ar) (h0 : N[0]? = some ar.arg) (hka : F.scope.names.lookup ar.arg = some .local)
    (hks : F.scope.names.lookup ("super" : Str) = some .globalImplicit) (hkc : F.scope.names.lookup ("__class__" : Str) = some .free)
    (he : ∀ L, eval (.Call (.Attribute (.Call (.Name "super" q0) [] [] q1) "__init__" q2) [.JoinedStr parts qj] [] q3) (envF F f L) = (do
      let ov ← attributeBase (.Call (.Name "super" q0) [] [] q1) "__init__" (envF F f L) (eval (.Call (.Name "super" q0) [] [] q1) (envF F f L))
      standAt q2.atName
      let (f', first) ← holding [ov] (getMethod ov "__init__" (pl L))
      callWith q3 f' first (backTo q3 (starEach [.JoinedStr parts qj] (envF F f L))) []))
    (hb : F.body = .Expr (.Call (.Attribute (.Call (.Name "super" q0) [] [] q1) "__init__" q2) [.JoinedStr parts qj] [] q3) q4 :: rest)
    (len : ∀ vs H Q E, sp vs H Q E → vs.length = ps.length)
    (body : ∀ (A : Around) (outer : List Env) (s : Shared) (H : Hp) (vs : List V) (Q : VK) (E : XK), sp vs H Q E →
      ∃ (a : Addr) (ys : List V) (te : TE), vs = .ref a :: ys ∧ H a = some (exo a C none) ∧ PE (ncx CX P w K mg base N F f A outer s H E) (.JoinedStr parts qj) te ∧
        te (startF N vs [some (.ref C)]) H fun x H1 => [x].length = 1 ∧ H1 a = some (exo a C none) ∧ ∃ t, PSs (ncx CX P w K mg base N F f A outer s H E) rest t ∧ t { nx := fun _ H' => Q .non H', rt := Q } (startF N vs [some (.ref C)]) H1)
    {A : Around} {outer : List Env} {s : Shared} {H : Hp} {args : Args} {us : List Value} {vs : List V} {Q : VK} {E : XK} {doc pm ct : Value} (hhd : A.handled = none) (hdp : A.depth < recursionLimit) (e0 : Env0 P w K mg base A outer s H) (hbd : BindsTo s (F.fd doc pm ct) args (ps.zip us)) (hfd : ∃ od osl, K.lookup f = some ⟨.type "function", od, .func (F.fd doc pm ct), osl⟩) (r : Vals vs us) (hsp : sp vs H Q E) :
    codeAny (model P w) A (.call (.ref f) args) (CR CX outer P w H s Q E) s := by
  have hl := len _ _ _ _ hsp
  obtain ⟨od, osl, lk⟩ := hfd
  have KX : K.In s.heap := e0.mod.kin.keeps fun b o e => (e0.bs b o e).1
  have lim : s.heap.NoLimit := e0.mod.nolimit.keeps fun b o e => (e0.bs b o e).1
  obtain ⟨a, ys, te, rfl, ha, hpe, hte⟩ := body A outer s H _ Q E hsp
  obtain ⟨ccl, ccd, csl, lcc⟩ := T.cell
  have CA : CellsAt F.cl ["__class__"] [some (V.ref C)] s.heap H := by
    have hcc : s.heap.IsCell cc (some (.ref C)) := ⟨_, KX _ _ lcc, rfl⟩
    have hn : H cc = none := (e0.bs _ _ (e0.mod.kin _ _ lcc)).2
    rw [T.cl]
    have one : ∀ {y : Str} {c : Addr}, List.lookup y [(("__class__" : Str), cc)] = some c → y = "__class__" ∧ c = cc := fun {y c} e => by
      by_cases h : y = "__class__"
      · subst h
        simp [List.lookup] at e
        exact ⟨rfl, e.symm⟩
      · have h' : (y == ("__class__" : Str)) = false := by simpa using h
        simp [List.lookup, h'] at e
    refine ⟨rfl, fun y c e => ?_, fun x y c e1 e2 => ?_, fun i y e => ?_⟩
    · obtain ⟨_, rfl⟩ := one e
      exact ⟨hn, _, hcc⟩
    · rw [(one e1).1, (one e2).1]
    · cases i with
      | zero =>
        cases e
        exact ⟨cc, by simp [List.lookup], fun v e => by
          cases e
          exact ⟨_, rfl, hcc⟩⟩
      | succ i => cases e
  refine PySem.ks_codeAny_call_defAt (fd := F.fd doc pm ct) (body := F.body) (binds := ps.zip us) hdp (KX _ _ lk) rfl lim (PySem.W.codeRec_of KX T.code) rfl hbd S.nocell (fun x hx => S.par _ (List.of_mem_zip hx).1) (fun h₁ hns kp => ?_) S.co S.gen S.kind
  have I : Inv (ncx CX P w K mg base N F f A outer s H E) [] (startF N (.ref a :: ys) [some (.ref C)]) H { s with heap := h₁, toks := s.toks + (ps.zip us).length } := inv_startN S hhd e0 hl r CA hns kp
  have hin : interactive (envF F f s.heap.objs.size) = false := by
    unfold interactive
    rw [show (envF F f s.heap.objs.size).scope.kind = .function from S.kind]
    rfl
  have main := sup_stmt (X := ncx CX P w K mg base N F f A outer s H E) (body := F.body) T rfl rfl rfl rfl hin hself h0 hka hks hkc (he _) (q4 := q4) rfl I (by rfl) ha hpe hte
  show PySem.wpAt (model P w) (A.deeper (envF F f s.heap.objs.size)) (.func F.body (envF F f s.heap.objs.size)) (execs F.body (envF F f s.heap.objs.size)) _ _ _
  rw [show execs F.body (envF F f s.heap.objs.size) = execs _ (envF F f s.heap.objs.size) from congrArg (fun b => execs b (envF F f s.heap.objs.size)) hb]
  refine PySem.ks_wpAt_execs_cons (PySem.ks_wpAt_mono main (fun fl s' hh => ?_) fun _ _ y => y)
  obtain ⟨rfl, H1, J, t, ht, hq⟩ := hh
  refine wpAt_of_wpAny (wpAny_mono (ht.run [] s' _ H1 _ J hq) (fun fl s'' hs => ?_) fun e s' hs => hs)
  have fin : ∀ {σ' : L2.St} {H' : Hp} {v : V} {u : Value}, Inv (ncx CX P w K mg base N F f A outer s H E) [] σ' H' s'' → L2.RelV v u → Q v H' → CE outer P w H s Q u s'' :=
    fun {σ' H' v u} J rv q => ⟨v, H', J.os, J.bare, J.base, J.hok, rv, q⟩
  cases fl with
  | ret u =>
    obtain ⟨v, σ', H', J, rv, q⟩ := hs
    exact fin J rv q
  | next =>
    obtain ⟨σ', H', J, q⟩ := hs
    exact fin (v := V.non) (u := Value.none) J rfl q
  | brk =>
    obtain ⟨_, _, _, q⟩ := hs
    exact False.elim q
  | cont =>
    obtain ⟨_, _, _, q⟩ := hs
    exact False.elim q
end

/-- C(e, ..), as a value -/
def tMkV (C : Addr) (sp : Sp) (ta : TA) : TE := fun σ H Q => ta σ H fun vs H1 => vs.length ≤ 1000 ∧ ∀ a, H1 a = none → sp (.ref a :: vs) (upd H1 a (exo a C none)) (fun v H2 => v = .non ∧ Q (.ref a) H2) (fun _ _ _ => False)
section
variable {X : Cx} {C fI : Addr} {CX : CXT} {fd : FuncData} {ps : List Str} {sp : Sp} {ta : TA} {x : Str} {e : Expr} {es : List Expr} {p pos : Pos}
theorem pe_mkV (T : OexC X.K C) (iC : PySem.W.findIn X.K (.ref C) "__init__" = some (some (.ref fI))) (tI : PySem.W.typeIn X.K (.ref fI) = some (.type "function"))
    (len : ∀ vs H Q E, sp vs H Q E → vs.length = ps.length)
    (F1 : ∀ {A : Around} {outer : List Env} {s : Shared} {H : Hp} {args : Args} {us : List Value} {vs : List V} {Q : VK} {E : XK}, A.handled = none → A.depth < recursionLimit → Env0 X.prog X.w X.K X.mg X.base A outer s H → BindsTo s fd args (ps.zip us) → Vals vs us → sp vs H Q E →
      codeAny (model X.prog X.w) A (.call (.ref fI) args) (CR CX outer X.prog X.w H s Q E) s)
    (hh : X.A.handled = none) (hd : X.A.depth + 1 < recursionLimit) (hb : Binds X.K fd ps []) (hx : Passes CX X (fun _ _ _ => False)) (hg : Gl X x) (hm : X.mg x = some (.ref C)) (ha : PA X (e :: es) ta)
    (hdb : (x == ("__debug__" : Str)) = false := by decide) (he : starEach (e :: es) X.env = (false, eval e X.env) :: starEach es X.env := by rfl) (hpl : (backTo pos (starEach es X.env)).any (·.1) = false := by rfl) :
    PE X (.Call (.Name x p) (e :: es) [] pos) (tMkV C sp ta) := by
  refine ⟨fun pins s σ H Q I h => ?_⟩
  obtain ⟨nm, q, N, bs, bm, sn, sub, ab, col, dd, k0, k1, k2, k3, k5, hC, hbm⟩ := T.cls
  refine wpAny_Call_Name_kw (ld_glob I hg hm ?_ hdb)
  refine PySem.W.callWith_K (h₀ := X.base) I.ok.mod.kin T.kC (thn (ha.run pos pins s σ H _ I h) fun us s1 ⟨vs, H1, I1, r1, hz, q1⟩ => ⟨I1.kIn, ?_⟩) he hpl
  show wpAny _ _ (call (.ref C) us) _ _ _
  obtain ⟨hp, g, dr, tk, os⟩ := s1
  have hsz : hp.objs.size ≤ hp.objs.size + 1 := Nat.le_succ _
  have hn : H1 (hp.objs.size + 1) = none := I1.hok.fresh hsz
  have hq := q1 (hp.objs.size + 1) hn
  have kk : ∀ b o, hp.get? b = some o → ((hp.push (PySem.W.kdv_tup us)).push (PySem.HandSPX.excO C hp.objs.size)).get? b = some o := fun b o e => Heap.get?_push_of_some _ (Heap.get?_push_of_some _ e)
  have hget : ((hp.push (PySem.W.kdv_tup us)).push (PySem.HandSPX.excO C hp.objs.size)).get? (hp.objs.size + 1) = some (PySem.HandSPX.excO C hp.objs.size) := by heap_get
  have I2 : Inv X pins σ (upd H1 (hp.objs.size + 1) (exo (hp.objs.size + 1) C none)) ⟨(hp.push (PySem.W.kdv_tup us)).push (PySem.HandSPX.excO C hp.objs.size), g, dr, tk, os⟩ :=
    I1.laid (t' := tk) (a := hp.objs.size + 1) (o := exo (hp.objs.size + 1) C none) (h' := (hp.push (PySem.W.kdv_tup us)).push (PySem.HandSPX.excO C hp.objs.size)) kk hsz (exo_ok hget)
  have r2 : Vals (V.ref (hp.objs.size + 1) :: vs) (Value.ref (hp.objs.size + 1) :: us) := .cons rfl r1
  have hl : (Value.ref (hp.objs.size + 1) :: us).length = ps.length := by
    have e := r2.length
    rw [len _ _ _ _ hq] at e
    exact e.symm
  have hus : us.length ≤ sizeLine := by
    rw [← Paired.length r1, sizeLine_eq]
    omega
  have hbb := hb _ (Value.ref (hp.objs.size + 1) :: us) I2.kIn (by rw [List.append_nil]; exact hl)
  rw [List.append_nil] at hbb
  refine wpAny_call (PySem.HandSPX.call_own F.excBase_ValueError (fun Y => PySem.HandSPX.refsVE_contains Y bm hbm) (I1.kIn _ _ hC) (PySem.W.looks_findIn I1.kIn iC) (fun self => PySem.W.bind_fn I1.kIn self tI) hus
    (codeAny_mono (F1 (A := X.A.under (.builtin "type.__call__" ⟨.ref C :: us, []⟩)) (outer := X.stack) (E := fun _ _ _ => False) hh (by rw [make_depth]; exact hd) (I2.env0.make C us []) hbb r2 hq) fun r s' hq' => ?_))
  cases r with
  | error er => exact hx pins σ _ _ er s' I2 hq'
  | ok fl =>
    cases fl with
    | ret u =>
      obtain ⟨v, H2, os2, bare2, un2, hok2, rv, ev, q2⟩ := hq'
      subst ev
      exact ⟨rv, .ref (hp.objs.size + 1), H2, I2.call' (ch := []) os2 un2 hok2 bare2 (fun b z => absurd z (by simp)), rfl, q2⟩
    | next => exact False.elim hq'
    | brk => exact False.elim hq'
    | cont => exact False.elim hq'
end
end Ix

namespace Ix
open PySem L2
/-! ### built-ins, methods, calls -/
section
variable {X : Cx} {Γ : Fs} {a b c e : Expr} {es rest : List Expr} {ca cb cc ce cs : E} {pos : Pos}
theorem w_args {c2 : E} {f : List D → Hd → Option (D × Hd)} {σ : L2.St} {H : Hp} {Q : VK} (hev : ∀ env S, ev Γ c2 env S = (ev Γ cs env S).bind fun x => (argsOf x.1).bind fun ds => f ds x.2) (h : tr X.K Γ c2 σ H Q) : tCB (rA X.K f) (trA X.K Γ cs) σ H Q := by
  obtain ⟨α, env, S, d, S', ok, en, e, k⟩ := h
  rw [hev] at e
  simp only [Option.bind_eq_some_iff] at e
  obtain ⟨⟨d1, S1⟩, e1, ds, e2, e3⟩ := e
  cases argsOf_some e2
  exact ⟨α, env, S, ds, S1, ok, en, e1, fun α1 H1 vs x1 ok1 r1 => ⟨α1, S1, ds, d, S', ok1, r1, e3, fun α2 H2 v x2 ok2 r2 => k α2 H2 v (x1.trans x2) ok2 r2⟩⟩
theorem Rps.one' {K : PySem.W.Frag} {α : List Addr} {H : Hp} {x : D} {vs : List V} (h : Rps K α H [x] vs) : ∃ v, vs = [v] ∧ Rp K α H x v := by
  obtain ⟨w, ws, rfl, r, t⟩ := h.uncons
  exact ⟨w, by rw [t.unnil], r⟩
theorem Rps.two' {K : PySem.W.Frag} {α : List Addr} {H : Hp} {x y : D} {vs : List V} (h : Rps K α H [x, y] vs) : ∃ v u, vs = [v, u] ∧ Rp K α H x v ∧ Rp K α H y u := by
  obtain ⟨w, ws, rfl, r, t⟩ := h.uncons
  obtain ⟨u, rfl, q⟩ := t.one'
  exact ⟨w, u, rfl, r, q⟩
theorem bools_of {K : PySem.W.Frag} {α : List Addr} {H : Hp} : ∀ {xs : List D} {bs : List Bool} {vs : List V}, bools xs = some bs → Rps K α H xs vs → vs = bs.map V.bl
  | [], bs, vs, h, r => by
    simp only [bools, Option.some.injEq] at h
    subst h
    exact r.unnil
  | x :: xs, bs, vs, h, r => by
    cases x with
    | bl b =>
      simp only [bools, Option.map_eq_some_iff] at h
      obtain ⟨cs, h, rfl⟩ := h
      obtain ⟨w, ws, rfl, r1, r2⟩ := r.uncons
      cases r1
      rw [bools_of h r2]
      rfl
    | _ => simp [bools] at h
theorem len1 {α : Type} {f : Bl} {xs : List D} {S : Hd} {r : D × Hd} (h : bltD f xs S = some r) : True := trivial
theorem b_len : CallR X (.builtin "len") (rA X.K (bltD .len)) := by
  intro pins s σ H xs us Q I r ⟨α, S, ds, d, S', ok, rs, e, k⟩
  match ds, e with
  | [x], e =>
    simp only [bltD, Option.map_eq_some_iff, Prod.mk.injEq] at e
    obtain ⟨ys, h1, rfl, rfl⟩ := e
    obtain ⟨v, rfl, r1⟩ := rs.one'
    obtain ⟨a, vs, rfl, q, z⟩ := seq_of ok r1 h1
    exact call_len_seq pins s σ H _ us Q I r ⟨a, vs, rfl, z.elim (fun z => .inr z.2) fun z => .inl z.2, by rw [q.len]; exact k α H _ Xt.refl ok (.int _)⟩
  | [], e => simp [bltD] at e
  | _ :: _ :: _, e => simp [bltD] at e
theorem b_int : CallR X (.type "int") (rA X.K (bltD .int_)) := by
  intro pins s σ H xs us Q I r ⟨α, S, ds, d, S', ok, rs, e, k⟩
  match ds, e with
  | [x], e =>
    obtain ⟨v, rfl, r1⟩ := rs.one'
    cases x with
    | int i =>
      simp only [bltD, Option.some.injEq, Prod.mk.injEq] at e
      obtain ⟨rfl, rfl⟩ := e
      cases r1
      exact call_int1 pins s σ H _ us Q I r (.inl ⟨i, rfl, k α H _ Xt.refl ok (.int _)⟩)
    | bl i =>
      simp only [bltD, Option.some.injEq, Prod.mk.injEq] at e
      obtain ⟨rfl, rfl⟩ := e
      cases r1
      exact call_int1 pins s σ H _ us Q I r (.inr ⟨i, rfl, k α H _ Xt.refl ok (.int _)⟩)
    | _ => simp [bltD] at e
  | [], e => simp [bltD] at e
  | x :: _ :: _, e => cases x <;> simp [bltD] at e
theorem b_abs : CallR X (.builtin "abs") (rA X.K (bltD .abs_)) := by
  intro pins s σ H xs us Q I r ⟨α, S, ds, d, S', ok, rs, e, k⟩
  match ds, e with
  | [x], e =>
    obtain ⟨v, rfl, r1⟩ := rs.one'
    cases x with
    | int i =>
      simp only [bltD, Option.some.injEq, Prod.mk.injEq] at e
      obtain ⟨rfl, rfl⟩ := e
      cases r1
      exact call_abs pins s σ H _ us Q I r ⟨i, rfl, k α H _ Xt.refl ok (.int _)⟩
    | _ => simp [bltD] at e
  | [], e => simp [bltD] at e
  | x :: _ :: _, e => cases x <;> simp [bltD] at e
theorem ints_of {K : PySem.W.Frag} {α : List Addr} {H : Hp} : ∀ {xs : List D} {ns : List Int} {vs : List V}, intsD xs = some ns → Rps K α H xs vs → vs = ns.map V.int
  | [], ns, vs, h, r => by
    simp only [intsD, Option.some.injEq] at h
    subst h
    exact r.unnil
  | x :: xs, ns, vs, h, r => by
    cases x with
    | int b =>
      simp only [intsD, Option.map_eq_some_iff] at h
      obtain ⟨cs, h, rfl⟩ := h
      obtain ⟨w, ws, rfl, r1, r2⟩ := r.uncons
      cases r1
      rw [ints_of h r2]
      rfl
    | _ => simp [intsD] at h
theorem intsAt_of {K : PySem.W.Frag} {α : List Addr} {S : Hd} {H : Hp} {d : D} {v : V} {ns : List Int} (ok : Ok K α S H) (r : Rp K α H d v) (h : intsAt S d = some ns) : ∃ a, v = .ref a ∧ SqL K H a (ns.map V.int) := by
  unfold intsAt at h
  split at h
  · cases h
  · rename_i nt
    simp only [Option.bind_eq_some_iff] at h
    obtain ⟨xs, h1, h2⟩ := h
    obtain ⟨a, vs, rfl, q, z⟩ := seq_of ok r h1
    rcases z with ⟨z, _⟩ | ⟨_, z⟩
    · exact absurd z nt
    · rw [ints_of h2 q] at z
      exact ⟨a, rfl, z⟩
theorem fold_max : ∀ (is : List Int) (i m : Int), (m = i ∨ m ∈ is) → i ≤ m → (∀ y ∈ is, y ≤ m) → is.foldl (fun a b => if b > a then b else a) i = m
  | [], i, m, h, _, _ => by
    rcases h with h | h
    · exact h.symm
    · simp at h
  | j :: is, i, m, h, hi, hm => by
    have hj := hm j List.mem_cons_self
    refine fold_max is _ m ?_ ?_ fun y hy => hm y (List.mem_cons_of_mem _ hy)
    · rcases h with h | h
      · subst h
        left
        show m = if j > m then j else m
        rw [if_neg (by omega)]
      · rcases List.mem_cons.mp h with h | h
        · subst h
          left
          show m = if m > i then m else i
          split <;> omega
        · exact .inr h
    · show (if j > i then j else i) ≤ m
      split <;> omega
theorem maxL_is {ns : List Int} {m m' : Int} (h : maxL ns = some m) (h1 : m' ∈ ns) (h2 : ∀ y ∈ ns, y ≤ m') : m = m' := by
  cases ns with
  | nil => cases h
  | cons i is =>
    simp only [maxL, Option.some.injEq] at h
    rw [← h]
    exact fold_max is i m' (List.mem_cons.mp h1) (h2 i List.mem_cons_self) fun y hy => h2 y (List.mem_cons_of_mem _ hy)
theorem insI_perm (i : Int) : ∀ js : List Int, (insI i js).Perm (i :: js)
  | [] => .refl _
  | j :: js => by
    unfold insI
    split
    · exact .refl _
    · exact ((insI_perm i js).cons j).trans (.swap i j js)
theorem srtI_perm : ∀ is : List Int, (srtI is).Perm is
  | [] => .refl _
  | i :: is => (insI_perm i _).trans ((srtI_perm is).cons i)
theorem insI_le (i : Int) : ∀ {js : List Int}, js.Pairwise (· ≤ ·) → (insI i js).Pairwise (· ≤ ·)
  | [], _ => by simp [insI]
  | j :: js, h => by
    unfold insI
    have h' := List.pairwise_cons.mp h
    split
    · refine List.pairwise_cons.mpr ⟨fun y hy => ?_, h⟩
      rcases List.mem_cons.mp hy with e | hy
      · omega
      · have := h'.1 y hy
        omega
    · refine List.pairwise_cons.mpr ⟨fun y hy => ?_, insI_le i h'.2⟩
      rcases List.mem_cons.mp ((insI_perm i js).mem_iff.mp hy) with e | hy
      · omega
      · exact h'.1 y hy
theorem srtI_le : ∀ is : List Int, (srtI is).Pairwise (· ≤ ·)
  | [] => .nil
  | i :: is => insI_le i (srtI_le is)
theorem srt_one {A B : List Int} (p : A.Perm B) (ha : A.Pairwise (· ≤ ·)) (hb : B.Pairwise (· ≤ ·)) : A = B :=
  p.eq_of_pairwise (fun a b _ _ h1 h2 => by omega) ha hb
theorem b_sum (hc : X.calm = true) : CallR X (.builtin "sum") (rA X.K (bltD .sum_)) := by
  intro pins s σ H xs us Q I r ⟨α, S, ds, d, S', ok, rs, e, k⟩
  match ds, e with
  | [x], e =>
    simp only [bltD, Option.map_eq_some_iff, Prod.mk.injEq] at e
    obtain ⟨ns, h1, rfl, rfl⟩ := e
    obtain ⟨v, rfl, r1⟩ := rs.one'
    obtain ⟨a, rfl, z⟩ := intsAt_of ok r1 h1
    exact cr_sum hc pins s σ H _ us Q I r ⟨a, ns, rfl, z, k α H _ Xt.refl ok (.int _)⟩
  | [], e => simp [bltD] at e
  | _ :: _ :: _, e => simp [bltD] at e
theorem b_sorted : CallR X (.builtin "sorted") (rA X.K (bltD .sorted_)) := by
  intro pins s σ H xs us Q I r ⟨α, S, ds, d, S', ok, rs, e, k⟩
  match ds, e with
  | [x], e =>
    simp only [bltD, Option.map_eq_some_iff, alloc, Prod.mk.injEq] at e
    obtain ⟨ns, h1, rfl, rfl⟩ := e
    obtain ⟨v, rfl, r1⟩ := rs.one'
    obtain ⟨a, rfl, z⟩ := intsAt_of ok r1 h1
    refine cr_sortedI pins s σ H _ us Q I r ⟨a, ns, rfl, z, fun ns' p pm le hp => ?_⟩
    have e2 : ns' = srtI ns := srt_one (pm.trans (srtI_perm ns).symm) le (srtI_le ns)
    subst e2
    refine go_new ok hp ⟨by simp, fun i x v h1 h2 => ?_⟩ k
    rw [List.getElem?_map] at h1 h2
    cases hx : (srtI ns)[i]? with
    | none => rw [hx] at h1; cases h1
    | some m =>
      rw [hx] at h1 h2
      cases h1
      cases h2
      exact .int m
  | [], e => simp [bltD] at e
  | _ :: _ :: _, e => simp [bltD] at e
theorem b_max (hc : X.calm = true) : CallR X (.builtin "max") (rA X.K (bltD .max_)) := by
  intro pins s σ H xs us Q I r ⟨α, S, ds, d, S', ok, rs, e, k⟩
  match ds, e with
  | [x], e =>
    simp only [bltD, Option.map_eq_some_iff, Option.bind_eq_some_iff, Prod.mk.injEq] at e
    obtain ⟨m, ⟨ns, h1, h2⟩, rfl, rfl⟩ := e
    obtain ⟨v, rfl, r1⟩ := rs.one'
    obtain ⟨a, rfl, z⟩ := intsAt_of ok r1 h1
    refine cr_max hc pins s σ H _ us Q I r ⟨a, ns, rfl, z, ?_, fun m' q1 q2 => ?_⟩
    · cases ns with
      | nil => cases h2
      | cons i is => exact Nat.succ_pos _
    · rw [← maxL_is h2 q1 q2]
      exact k α H _ Xt.refl ok (.int _)
  | [x, y], e =>
    obtain ⟨v, u, rfl, r1, r2⟩ := rs.two'
    cases x with
    | int i =>
      cases y with
      | int j =>
        simp only [bltD, Option.some.injEq, Prod.mk.injEq] at e
        obtain ⟨rfl, rfl⟩ := e
        cases r1
        cases r2
        exact call_max2 hc pins s σ H _ us Q I r ⟨i, j, rfl, k α H _ Xt.refl ok (.int _)⟩
      | _ => simp [bltD] at e
    | _ => cases y <;> simp [bltD] at e
  | [], e => simp [bltD] at e
  | x :: y :: _ :: _, e => cases x <;> cases y <;> simp [bltD] at e
theorem b_min (hc : X.calm = true) : CallR X (.builtin "min") (rA X.K (bltD .min_)) := by
  intro pins s σ H xs us Q I r ⟨α, S, ds, d, S', ok, rs, e, k⟩
  match ds, e with
  | [x, y], e =>
    obtain ⟨v, u, rfl, r1, r2⟩ := rs.two'
    cases x with
    | int i =>
      cases y with
      | int j =>
        simp only [bltD, Option.some.injEq, Prod.mk.injEq] at e
        obtain ⟨rfl, rfl⟩ := e
        cases r1
        cases r2
        exact call_min2 hc pins s σ H _ us Q I r ⟨i, j, rfl, k α H _ Xt.refl ok (.int _)⟩
      | _ => simp [bltD] at e
    | _ => cases y <;> simp [bltD] at e
  | [], e => simp [bltD] at e
  | [x], e => cases x <;> simp [bltD] at e
  | x :: y :: _ :: _, e => cases x <;> cases y <;> simp [bltD] at e
theorem b_all (hc : X.calm = true) : CallR X (.builtin "all") (rA X.K (bltD .all_)) := by
  intro pins s σ H xs us Q I r ⟨α, S, ds, d, S', ok, rs, e, k⟩
  match ds, e with
  | [x], e =>
    simp only [bltD] at e
    split at e
    · cases e
    · rename_i nt
      simp only [Option.map_eq_some_iff, Option.bind_eq_some_iff, Prod.mk.injEq] at e
      obtain ⟨bs, ⟨ys, h1, h2⟩, rfl, rfl⟩ := e
      obtain ⟨v, rfl, r1⟩ := rs.one'
      obtain ⟨a, vs, rfl, q, z⟩ := seq_of ok r1 h1
      rcases z with ⟨z, _⟩ | ⟨_, z⟩
      · exact absurd z nt
      · rw [bools_of h2 q] at z
        exact cr_all hc pins s σ H _ us Q I r ⟨a, bs, rfl, z, k α H _ Xt.refl ok (.bl _)⟩
  | [], e => simp [bltD] at e
  | _ :: _ :: _, e => simp [bltD] at e
theorem b_any (hc : X.calm = true) : CallR X (.builtin "any") (rA X.K (bltD .any_)) := by
  intro pins s σ H xs us Q I r ⟨α, S, ds, d, S', ok, rs, e, k⟩
  match ds, e with
  | [x], e =>
    simp only [bltD] at e
    split at e
    · cases e
    · rename_i nt
      simp only [Option.map_eq_some_iff, Option.bind_eq_some_iff, Prod.mk.injEq] at e
      obtain ⟨bs, ⟨ys, h1, h2⟩, rfl, rfl⟩ := e
      obtain ⟨v, rfl, r1⟩ := rs.one'
      obtain ⟨a, vs, rfl, q, z⟩ := seq_of ok r1 h1
      rcases z with ⟨z, _⟩ | ⟨_, z⟩
      · exact absurd z nt
      · rw [bools_of h2 q] at z
        exact cr_any hc pins s σ H _ us Q I r ⟨a, bs, rfl, z, k α H _ Xt.refl ok (.bl _)⟩
  | [], e => simp [bltD] at e
  | _ :: _ :: _, e => simp [bltD] at e
theorem b_tuple : CallR X (.type "tuple") (rA X.K (bltD .tuple_)) := by
  intro pins s σ H xs us Q I r ⟨α, S, ds, d, S', ok, rs, e, k⟩
  match ds, e with
  | [x], e =>
    simp only [bltD, Option.map_eq_some_iff, Prod.mk.injEq] at e
    obtain ⟨ys, h1, rfl, rfl⟩ := e
    obtain ⟨v, rfl, r1⟩ := rs.one'
    obtain ⟨a, vs, rfl, q, z⟩ := seq_of ok r1 h1
    rcases z with ⟨_, z⟩ | ⟨_, z⟩
    · exact call_tuple_of pins s σ H _ us Q I r ⟨a, vs, rfl, .inr ⟨z, k α H _ Xt.refl ok (.tup z q.len q.at_)⟩⟩
    · exact call_tuple_of pins s σ H _ us Q I r ⟨a, vs, rfl, .inl ⟨z, fun p hp => go_tup ok hp q k⟩⟩
  | [], e => simp [bltD] at e
  | _ :: _ :: _, e => simp [bltD] at e
theorem b_list : CallR X (.type "list") (rA X.K (bltD .list_)) := by
  intro pins s σ H xs us Q I r ⟨α, S, ds, d, S', ok, rs, e, k⟩
  match ds, e with
  | [x], e =>
    simp only [bltD, Option.map_eq_some_iff, alloc, Prod.mk.injEq] at e
    obtain ⟨ys, h1, rfl, rfl⟩ := e
    obtain ⟨v, rfl, r1⟩ := rs.one'
    obtain ⟨a, vs, rfl, q, z⟩ := seq_of ok r1 h1
    exact call_list_of pins s σ H _ us Q I r ⟨a, vs, rfl, z.elim (fun z => .inr z.2) fun z => .inl z.2, fun p hp => go_new ok hp q k⟩
  | [], e => simp [bltD] at e
  | _ :: _ :: _, e => simp [bltD] at e
theorem b_str : CallR X (.type "str") (rA X.K (bltD .str_)) := by
  intro pins s σ H xs us Q I r ⟨α, S, ds, d, S', ok, rs, e, k⟩
  match ds, e with
  | [x], e =>
    obtain ⟨v, rfl, r1⟩ := rs.one'
    cases x with
    | str z =>
      simp only [bltD, Option.some.injEq, Prod.mk.injEq] at e
      obtain ⟨rfl, rfl⟩ := e
      cases r1
      exact SkE.call_str_str pins s σ H _ us Q I r ⟨z, rfl, k α H _ Xt.refl ok (.str _)⟩
    | int i =>
      simp only [bltD] at e
      split at e
      · simp only [Option.some.injEq, Prod.mk.injEq] at e
        obtain ⟨rfl, rfl⟩ := e
        cases r1
        exact call_str_int pins s σ H _ us Q I r ⟨i, rfl, by assumption, k α H _ Xt.refl ok (.str _)⟩
      · cases e
    | _ => simp [bltD] at e
  | [], e => simp [bltD] at e
  | x :: _ :: _, e => cases x <;> simp [bltD] at e
/-! isinstance -/
def isXcp : D → Bool
  | .xcp _ _ _ => true
  | _ => false
theorem tyX_of {K : PySem.W.Frag} {α : List Addr} {H : Hp} {S : Hd} {x : D} {v : V} {n : String} (ok : Ok K α S H) (r : Rp K α H x v) (h : tyName S x = some n) (hx : isXcp x = false) : TyX K H v (.type n) := by
  cases r with
  | xcp => cases hx
  | non => simp only [tyName, Option.some.injEq] at h; subst h; exact .base .non
  | bl b => simp only [tyName, Option.some.injEq] at h; subst h; exact .base (.bl b)
  | int i => simp only [tyName, Option.some.injEq] at h; subst h; exact .base (.int i)
  | str z => simp only [tyName, Option.some.injEq] at h; subst h; exact .base (.str z)
  | ty z => simp [tyName] at h
  | tup h1 l q =>
    simp only [tyName, Option.some.injEq] at h
    subst h
    rcases h1 with (h1 | ⟨o, h1⟩) | ⟨o, its, m, h1, h2, _⟩
    · exact .base (.tup h1)
    · exact .fTuple h1
    · exact .kTuple h1 h2
  | @ref k a e =>
    simp only [tyName] at h
    split at h
    · rename_i ys e2
      simp only [Option.some.injEq] at h
      subst h
      obtain ⟨a', vs, e3, e4, e5, e6⟩ := ok.lst e2 (.ref e)
      cases e3
      exact .base (.lst e5)
    · cases h
  | ro h1 =>
    simp only [tyName, Option.some.injEq] at h
    subst h
    rcases h1 with ⟨o, h1⟩ | ⟨o, its, m, h1, h2, _⟩
    · exact .base (.frz h1)
    · exact .kList h1 h2
/-- an error's kit -/
theorem kitx_xc {K : PySem.W.Frag} {x D : Addr} (C : ExcC K D) (ht : PySem.W.typeIn K (.ref D) = some (.type "type")) : PySem.W.KitX K (.ref x) (.ref D) (fun h => ∃ ox od, PySem.W.InstAt h x ox D od) where
  ty := fun _ _ _ ⟨_, _, I⟩ => I.type
  it := fun _ _ X _ => by
    obtain ⟨cdD, hcD, _⟩ := PySem.W.any_some C.hd
    unfold PySem.W.clsIn at hcD
    split at hcD
    · rename_i c' d' cd' sl' ho
      intro A' Q' E' s' k q
      unfold isType loadHead
      exact wpAny_bind (wpAny_loadPart (k _ _ (X _ _ ho)) (wpAny_pure q))
    · cases hcD
  ne := fun h tp dd its n sl X htp => by
    obtain ⟨cdD, hcD, _⟩ := PySem.W.any_some C.hd
    refine Bool.eq_false_iff.mpr fun q => ?_
    have e : D = tp := Value.ref.inj (beq_iff_eq.mp q)
    subst e
    unfold PySem.W.clsIn at hcD
    split at hcD
    · rename_i c' d' cd' sl' ho
      have z := (X _ _ ho).symm.trans htp
      cases z
    · cases hcD
  ca := fun X ⟨_, _, I⟩ k => PySem.W.kx_classE X I C.hg C.hk C.hs (PySem.W.findObj_dataE (by
    obtain ⟨cd, hc, _⟩ := PySem.W.any_some C.hd
    rw [hc]; rfl) C.ha C.hn C.ht) C.hm k
theorem inst_xc {P : Program} {w : World} {H : Hp} {h : Heap} {C a : Addr} {fs : List (Str × V)} (ok : HOk P w H h) (x : XcA H C a fs) : ∃ ox od, PySem.W.InstAt h a ox C od := by
  cases x with
  | bare e =>
    obtain ⟨t, e1⟩ := exo_at ok e
    exact ⟨_, none, e1, rfl, rfl, trivial⟩
  | @dict d fs e ed =>
    obtain ⟨t, e1⟩ := exo_at ok e
    obtain ⟨mA, ⟨o, es, ep, ho, hr⟩, _⟩ := exd_at ok ed
    exact ⟨_, some o, e1, rfl, rfl, ho⟩
def names7 : List String := ["NoneType", "bool", "int", "str", "tuple", "list", "HourError"]
theorem tyName_in {S : Hd} {x : D} {n : String} (h : tyName S x = some n) : n ∈ names7 := by
  unfold tyName at h
  split at h <;> first
    | (simp only [Option.some.injEq] at h; subst h; decide)
    | (split at h <;> first | (simp only [Option.some.injEq] at h; subst h; decide) | cases h)
    | cases h
def names6 : List String := ["NoneType", "bool", "int", "str", "tuple", "list"]
theorem tyName_in6 {S : Hd} {x : D} {n : String} (h : tyName S x = some n) (hx : isXcp x = false) : n ∈ names6 := by
  unfold tyName at h
  split at h <;> first
    | (simp only [Option.some.injEq] at h; subst h; decide)
    | (simp [isXcp] at hx; done)
    | (split at h <;> first | (simp only [Option.some.injEq] at h; subst h; decide) | cases h)
    | cases h
theorem kit_all : (names6.all fun n => ["int", "bool", "str", "tuple", "list"].all fun c => decide (kitB n c = some (isaN n c))) = true := by decide +kernel
theorem kit_of' {K : PySem.W.Frag} {n c : String} (hn : n ∈ names6) (hc : plainTy c = true) : PySem.W.kitOne K (.type n) (.type c) = some (isaN n c) := by
  have h := kit_all
  rw [List.all_eq_true] at h
  have h2 := h n hn
  rw [List.all_eq_true] at h2
  exact kit_ty (of_decide_eq_true (h2 c (by unfold plainTy at hc; simpa using hc)))
theorem tys_of {K : PySem.W.Frag} {α : List Addr} {H : Hp} : ∀ {xs : List D} {ts : List String} {vs : List V}, tysOf xs = some ts → Rps K α H xs vs → Paired ClsV vs (ts.map Value.type) ∧ ∀ t ∈ ts, plainTy t = true
  | [], ts, vs, h, r => by
    simp only [tysOf, Option.some.injEq] at h
    subst h
    rw [r.unnil]
    exact ⟨.nil, fun t ht => by cases ht⟩
  | x :: xs, ts, vs, h, r => by
    cases x with
    | ty c =>
      simp only [tysOf] at h
      split at h
      · rename_i hp
        simp only [Option.map_eq_some_iff] at h
        obtain ⟨cs, h, rfl⟩ := h
        obtain ⟨w, ws, rfl, r1, r2⟩ := r.uncons
        cases r1
        obtain ⟨p1, p2⟩ := tys_of h r2
        refine ⟨.cons (.ty c) p1, fun t ht => ?_⟩
        rcases List.mem_cons.mp ht with rfl | ht
        · exact hp
        · exact p2 t ht
      · cases h
    | _ => simp [tysOf] at h
/-- what isinstance asks of a value, told -/
theorem kitD {X : Cx} {pins : List (Addr × Obj)} {σ : L2.St} {H : Hp} {s : Shared} {α : List Addr} {S : Hd} {x : D} {v : V} {u : Value} {n : String} (I : Inv X pins σ H s) (ok : Ok X.K α S H) (r : Rp X.K α H x v) (rv : RelV v u) (h : tyName S x = some n) :
    ∃ (t : Value) (P : Heap → Prop), PySem.W.KitX X.K u t P ∧ P s.heap ∧ u ≠ .builtin "__main__.__loader__#opaque" ∧ ∀ c, plainTy c = true → PySem.W.kitOne X.K t (.type c) = some (isaN n c) := by
  cases hx : isXcp x with
  | false =>
    obtain ⟨P, Z, p, ho⟩ := kit_of I rv (tyX_of ok r h hx)
    exact ⟨_, P, Z, p, ho, fun c hc => kit_of' (tyName_in6 h hx) hc⟩
  | true =>
    cases r with
    | @xcp c ns xs C a vs k z ln l q =>
      cases h
      cases (show u = Value.ref a from rv)
      refine ⟨.ref C, _, kitx_xc k.exc k.ty, inst_xc I.hok z, fun z => (nomatch z), fun c hc => ?_⟩
      have hm : c ∈ ["int", "bool", "str", "tuple", "list"] := by unfold plainTy at hc; simpa using hc
      have hs := k.kit c hm
      have hn : (Value.ref C == Value.type c) = false := rfl
      have hi : isaN "HourError" c = false := by
        have : (["int", "bool", "str", "tuple", "list"].all fun c => !isaN "HourError" c) = true := by decide
        rw [List.all_eq_true] at this
        simpa using this c hm
      have hk : PySem.W.kitMeta c = true := by
        have : (["int", "bool", "str", "tuple", "list"].all fun c => PySem.W.kitMeta c) = true := by decide +kernel
        rw [List.all_eq_true] at this
        exact this c hm
      unfold PySem.W.kitOne PySem.W.kitCls
      rw [hn, hi]
      simp only [Bool.false_eq_true, if_false, hk, if_true]
      exact hs
    | _ => cases hx
theorem kit_any {K : PySem.W.Frag} {t : Value} {n : String} (hk : ∀ c, plainTy c = true → PySem.W.kitOne K t (.type c) = some (isaN n c)) : ∀ {ts : List String}, (∀ t ∈ ts, plainTy t = true) → PySem.W.kitAny K t (ts.map Value.type) = some (ts.any (isaN n))
  | [], _ => kitAny_nil
  | c :: ts, h => by
    refine kitAny_cons (hk c (h c List.mem_cons_self)) (fun hb => ?_) fun hb => ?_
    · rw [List.any_cons, hb, Bool.false_or]
      exact kit_any hk fun u hu => h u (List.mem_cons_of_mem _ hu)
    · rw [List.any_cons, hb, Bool.true_or]
theorem b_isi : CallR X (.builtin "isinstance") (rA X.K (bltD .isi)) := by
  intro pins s σ H xs us Q I r ⟨α, S, ds, d, S', ok, rs, e, k⟩
  match ds, e with
  | [x, y], e =>
    obtain ⟨v, u, rfl, r1, r2⟩ := rs.two'
    obtain ⟨u1, u2, rfl, q1, q2⟩ := vals2 r
    cases y with
    | ty c =>
      simp only [bltD] at e
      split at e
      · rename_i hp
        simp only [Option.map_eq_some_iff, Prod.mk.injEq] at e
        obtain ⟨n, h1, rfl, rfl⟩ := e
        cases r2
        cases (show u2 = Value.type c from q2)
        obtain ⟨t, P, Z, p, hx, hk⟩ := kitD I ok r1 q1 h1
        exact PySem.W.kia_one Z I.kIn p (hk c hp) hx fun tk => ⟨.bl _, H, I.tok tk, rfl, k α H _ Xt.refl ok (.bl _)⟩
      · cases e
    | tup cs =>
      simp only [bltD, Option.bind_eq_some_iff, Option.map_eq_some_iff, Prod.mk.injEq] at e
      obtain ⟨ts, h2, n, h1, rfl, rfl⟩ := e
      cases r2 with
      | @tup _ tp vs h3 l q =>
        obtain ⟨p1, p2⟩ := tys_of h2 ⟨l, q⟩
        cases (show u2 = Value.ref tp from q2)
        obtain ⟨t, P, Z, p, hx, hk⟩ := kitD I ok r1 q1 h1
        obtain ⟨its, rv, ⟨o, g1, g2, m, g3⟩, _⟩ := I.tuple h3
        have e3 := ClsV.all p1 rv
        subst e3
        obtain ⟨oc, od, dt, sl⟩ := o
        simp only at g2 g3
        subst g2 g3
        exact PySem.W.kia_tup Z I.kIn p g1 (kit_any hk p2) hx fun tk => ⟨.bl _, H, I.tok tk, rfl, k α H _ Xt.refl ok (.bl _)⟩
    | _ => simp [bltD] at e
  | [], e => simp [bltD] at e
  | [_], e => simp [bltD] at e
  | _ :: _ :: _ :: _, e => simp [bltD] at e
/-- f(e, ..) of a built-in function, of a built-in class -/
theorem xe_blt {id : String} {x : Str} {p : Pos} (B : Bl) (hc : CallR X (.builtin id) (rA X.K (bltD B))) (hg : Gl X x) (hm : X.mg x = none) (hv : bootBuiltins x = some (.builtin id)) (ha : PA X (e :: es) (trA X.K Γ cs)) (hn : x ≠ "__name__" := by decide) (hdb : (x == ("__debug__" : Str)) = false := by decide)
    (he : starEach (e :: es) X.env = (false, eval e X.env) :: starEach es X.env := by rfl) (hpl : (backTo pos (starEach es X.env)).any (·.1) = false := by rfl) : PE X (.Call (.Name x p) (e :: es) [] pos) (tr X.K Γ (.blt B cs)) :=
  pe_w (pe_callB hc hg hm hv ha hn hdb he hpl) fun σ H Q h => w_args (fun _ _ => rfl) h
theorem xe_bty {T : String} {x : Str} {p : Pos} (B : Bl) (hc : CallR X (.type T) (rA X.K (bltD B))) (hg : Gl X x) (hm : X.mg x = none) (hv : bootBuiltins x = some (.type T)) (ha : PA X (e :: es) (trA X.K Γ cs)) (hn : x ≠ "__name__" := by decide) (hdb : (x == ("__debug__" : Str)) = false := by decide)
    (he : starEach (e :: es) X.env = (false, eval e X.env) :: starEach es X.env := by rfl) (hpl : (backTo pos (starEach es X.env)).any (·.1) = false := by rfl) : PE X (.Call (.Name x p) (e :: es) [] pos) (tr X.K Γ (.blt B cs)) :=
  pe_w (pe_callTy hc hg hm hv ha hn hdb he hpl) fun σ H Q h => w_args (fun _ _ => rfl) h
/-- xs.append(e) -/
theorem m_append : MtR X "list.append" (rM X.K (methD .append)) := by
  intro pins s σ H x xs v us Q I rx r ⟨α, S, d1, ds, d, S', ok, r1, rs, e, k⟩
  cases d1 with
  | ref j =>
    match ds, e with
    | [y], e =>
      simp only [methD] at e
      split at e
      · rename_i ys e1
        split at e
        · rename_i hz
          simp only [Option.some.injEq, Prod.mk.injEq] at e
          obtain ⟨rfl, rfl⟩ := e
          obtain ⟨u, rfl, r2⟩ := rs.one'
          obtain ⟨a, vs, rfl, e3, e4, q⟩ := ok.lst e1 r1
          exact mt_append pins s σ H _ _ v us Q I rx r ⟨a, vs, u, rfl, rfl, e4, most_lt (by rw [q.len]; exact hz), k α _ _ (Xt.write e4) (ok.write e3 e4 (o := .lst (ys ++ [y])) (u := .lst (vs ++ [u])) (Rps.append q (Rps.one r2))) .non⟩
        · cases e
      · cases e
    | [], e => simp [methD] at e
    | _ :: _ :: _, e => simp [methD] at e
  | _ => simp [methD] at e
theorem m_clear : MtR X "list.clear" (rM X.K (methD .clear)) := by
  intro pins s σ H x xs v us Q I rx r ⟨α, S, d1, ds, d, S', ok, r1, rs, e, k⟩
  cases d1 with
  | ref j =>
    match ds, e with
    | [], e =>
      simp only [methD] at e
      split at e
      · rename_i ys e1
        simp only [Option.some.injEq, Prod.mk.injEq] at e
        obtain ⟨rfl, rfl⟩ := e
        obtain rfl := rs.unnil
        obtain ⟨a, vs, rfl, e3, e4, q⟩ := ok.lst e1 r1
        exact mt_clear pins s σ H _ _ v us Q I rx r ⟨a, vs, rfl, rfl, e4, k α _ _ (Xt.write e4) (ok.write e3 e4 (o := .lst []) (u := .lst []) Rps.nil) .non⟩
      · cases e
    | [y], e => simp [methD] at e
    | _ :: _ :: _, e => simp [methD] at e
  | _ => simp [methD] at e
theorem lst_ty {K : PySem.W.Frag} {α : List Addr} {H : Hp} {S : Hd} {d : D} {v : V} (ok : Ok K α S H) (r1 : Rp K α H d v) (h : isLst S d = true) : tyV K "list" v H := by
  unfold isLst at h
  split at h
  · split at h
    · rename_i k xs e
      obtain ⟨a, vs, rfl, _, e4, _⟩ := ok.lst e r1
      exact .inl ⟨rfl, vs, SqL.of e4⟩
    · cases h
  · cases h
theorem xe_append {apos cpos : Pos} {o : Expr} {co : E} (ho : PE X o (tr X.K Γ co)) (ha : PA X (e :: es) (trA X.K Γ cs))
    (hbase : attributeBase o "append" X.env (eval o X.env) = eval o X.env := by rfl)
    (hfew : ((backTo cpos (starEach (e :: es) X.env)).all (fun x => !x.1) && (backToKw cpos (keywordEach [] X.env)).all (fun x => x.1.isSome)
      && decide ((e :: es).length + ([] : List Keyword).length + (if ([] : List Keyword).isEmpty then 0 else 1) < 30)) = true := by rfl)
    (hline : (apos.endLine == cpos.line) = true := by rfl) (hs : starEach (e :: es) X.env = (false, eval e X.env) :: starEach es X.env := by rfl) (hplain : (backTo cpos (starEach es X.env)).any (·.1) = false := by rfl) :
    PE X (.Call (.Attribute o "append" apos) (e :: es) [] cpos) (tr X.K Γ (.meth .append co cs)) :=
  pe_w (pe_bm PySem.F.plainAttrs_list PySem.F.slot_list_append PySem.F.type_list_append m_append ho ha hbase hfew hline hs hplain) fun σ H Q ⟨α, env, S, d, S', ok, en, e, k⟩ => by
    simp only [ev, Option.bind_eq_some_iff] at e
    obtain ⟨⟨d1, S1⟩, e1, e2⟩ := e
    split at e2
    · rename_i hl
      simp only [Option.bind_eq_some_iff] at e2
      obtain ⟨⟨d2, S2⟩, e2, ds, e3, e4⟩ := e2
      cases argsOf_some e3
      exact ⟨α, env, S, d1, S1, ok, en, e1, fun α1 H1 v1 x1 ok1 r1 => ⟨lst_ty ok1 r1 hl, α1, env, S1, ds, S2, ok1, en.mono x1, e2, fun α2 H2 vs x2 ok2 r2 =>
        ⟨α2, S2, d1, ds, d, S', ok2, r1.mono x2, r2, e4, fun α3 H3 v x3 ok3 r3 => k α3 H3 v (x1.trans (x2.trans x3)) ok3 r3⟩⟩⟩
    · cases e2
end

/-! ### the defs -/
section
/-- what a def of the text promises: as the meaning says -/
def spF (K : PySem.W.Frag) (Γ : Fs) (f : Nat) : Sp := fun vs H Q _ => ∃ α S ds d S', Ok K α S H ∧ Rps K α H ds vs ∧ Γ f ds S = some (d, S') ∧ ∀ α' H' v, Xt K α H α' H' → Ok K α' S' H' → Rp K α' H' d v → Q v H'
/-- the def f, called x in the text, keeps its promise -/
structure FnI (P : Program) (w : World) (K : PySem.W.Frag) (mg : Str → Option Value) (base : Heap) (Γ : Fs) (n f : Nat) (x : Str) (ps : List Str) (st : Stmt) : Prop where
  ex : ∃ (fa : Addr) (fd : FuncData), mg x = some (.ref fa) ∧ Fun K x x st fa fd ∧ FnG P w K mg base n fa fd ps (spF K Γ f) ∧ Binds K fd ps []
variable {X : Cx} {Γ : Fs} {e : Expr} {es : List Expr} {cs ck : E} {pos p : Pos} {n f : Nat} {x : Str} {ps : List Str} {st : Stmt}
theorem xe_call (F : FnI X.prog X.w X.K X.mg X.base Γ n f x ps st) (hr : RoomG n X.A) (hg : Gl X x) (ha : PA X (e :: es) (trA X.K Γ cs))
    (hdb : (x == ("__debug__" : Str)) = false := by decide) (he : starEach (e :: es) X.env = (false, eval e X.env) :: starEach es X.env := by rfl) (hpl : (backTo pos (starEach es X.env)).any (·.1) = false := by rfl) :
    PE X (.Call (.Name x p) (e :: es) [] pos) (tr X.K Γ (.call f cs)) := by
  obtain ⟨fa, fd, h1, h2, h3, hb⟩ := F.ex
  refine pe_w (pe_callG (E := E0) h3 hr hg h1 h2.kp hb pass0 ha hdb he hpl) fun σ H Q ⟨α, env, S, d, S', ok, en, e, k⟩ => ?_
  simp only [ev, Option.bind_eq_some_iff] at e
  obtain ⟨⟨d1, S1⟩, e1, ds, e2, e3⟩ := e
  cases argsOf_some e2
  refine ⟨α, env, S, ds, S1, ok, en, e1, fun α1 H1 vs x1 ok1 r1 => ?_⟩
  show spF X.K Γ f (vs ++ []) H1 Q E0
  rw [List.append_nil]
  exact ⟨α1, S1, ds, d, S', ok1, r1, e3, fun α2 H2 v x2 ok2 r2 => k α2 H2 v (x1.trans x2) ok2 r2⟩
def narg : E → Option Nat
  | .nil => some 0
  | .cons _ es => (narg es).map (· + 1)
  | _ => none
theorem narg_len : ∀ {cs : E} {m : Nat} {env : Sl} {S : Hd} {ds : List D} {S' : Hd}, narg cs = some m → ev Γ cs env S = some (.tup ds, S') → ds.length = m
  | .nil, m, env, S, ds, S', h, e => by
    simp only [narg, Option.some.injEq] at h
    simp only [ev, Option.some.injEq, Prod.mk.injEq, D.tup.injEq] at e
    rw [← e.1, ← h]
    rfl
  | .cons a es, m, env, S, ds, S', h, e => by
    simp only [narg, Option.map_eq_some_iff] at h
    obtain ⟨m1, h, rfl⟩ := h
    simp only [ev, Option.bind_eq_some_iff, Option.map_eq_some_iff, Prod.mk.injEq, D.tup.injEq] at e
    obtain ⟨⟨d1, S1⟩, e1, ⟨d2, S2⟩, e2, dr, e3, rfl, rfl⟩ := e
    cases argsOf_some e3
    rw [List.length_cons, narg_len h e2]
theorem rel_get {vs : List V} {us : List Value} (r : Vals vs us) (i : Nat) : (∃ v u, vs[i]? = some v ∧ us[i]? = some u ∧ RelV v u) ∨ (vs[i]? = none ∧ us[i]? = none) := by
  cases h : vs[i]? with
  | none => exact .inr ⟨rfl, r.none_of h⟩
  | some v =>
    obtain ⟨u, h1, h2⟩ := r.get h
    exact .inl ⟨v, u, rfl, h1, h2⟩
theorem rel_perm {vs : List V} {us : List Value} (r : Vals vs us) : ∀ perm : List Nat, Vals (permV perm vs) (permV perm us)
  | [] => .nil
  | i :: perm => by
    unfold permV
    rcases rel_get r i with ⟨v, u, h1, h2, h3⟩ | ⟨h1, h2⟩
    · rw [List.filterMap_cons, List.filterMap_cons, h1, h2]
      exact .cons h3 (rel_perm r perm)
    · rw [List.filterMap_cons, List.filterMap_cons, h1, h2]
      exact rel_perm r perm
theorem Rps.perm {K : PySem.W.Frag} {α : List Addr} {H : Hp} {ds : List D} {vs : List V} (r : Rps K α H ds vs) : ∀ perm : List Nat, Rps K α H (permV perm ds) (permV perm vs)
  | [] => .nil
  | i :: perm => by
    unfold permV
    cases h : ds[i]? with
    | none =>
      have h2 : vs[i]? = none := by
        rw [List.getElem?_eq_none_iff, r.len]
        exact List.getElem?_eq_none_iff.mp h
      rw [List.filterMap_cons, List.filterMap_cons, h, h2]
      exact Rps.perm r perm
    | some d =>
      obtain ⟨v, h2, q⟩ := r.get h
      rw [List.filterMap_cons, List.filterMap_cons, h, h2]
      exact .cons q (Rps.perm r perm)
theorem xk_nil : PK X [] (trA X.K Γ .nil) := ⟨fun pos pins s σ H Q I h => pk_nil.run pos pins s σ H Q I (by
  obtain ⟨α, env, S, ds, S', ok, en, e, k⟩ := h
  simp only [ev, Option.some.injEq, Prod.mk.injEq, D.tup.injEq] at e
  obtain ⟨rfl, rfl⟩ := e
  exact k α H [] Xt.refl ok .nil)⟩
theorem xk_cons {nm : Option Str} {kpos : Pos} {kws : List Keyword} {ca : E} (ha : PE X e (tr X.K Γ ca)) (hr : PK X kws (trA X.K Γ cs)) : PK X (⟨nm, e, kpos⟩ :: kws) (trA X.K Γ (.cons ca cs)) :=
  ⟨fun pos pins s σ H Q I h => (pk_cons ha hr).run pos pins s σ H Q I (w_cons h)⟩
/-- f(e, .., k = v, ..) -/
theorem xe_callK {kws : List Keyword} (F : FnI X.prog X.w X.K X.mg X.base Γ n f x ps st) (ks : List Str) (perm : List Nat) (m : Nat)
    (kb : ∀ (kV doc pm : Value) (an : Option Addr) (cdv ct : Value) (us ws : List Value), us.length = m → ws.length = ks.length → bindArgs (PySem.W.fnOf x x (defArgs st) (defBody st) (defScope st) .none kV doc pm an cdv ct) ⟨us, ks.zip ws⟩ = pure (ps.zip (permV perm (us ++ ws))))
    (hn : narg cs = some m) (hnk : narg ck = some ks.length) (hr : RoomG n X.A) (hg : Gl X x) (ha : PA X (e :: es) (trA X.K Γ cs)) (hk : PK X kws (trA X.K Γ ck))
    (hall : (backToKw pos (keywordEach kws X.env)).all (·.1.isSome) = true := by rfl) (hks : (backToKw pos (keywordEach kws X.env)).filterMap (·.1) = ks := by rfl)
    (hdb : (x == ("__debug__" : Str)) = false := by decide) (he : starEach (e :: es) X.env = (false, eval e X.env) :: starEach es X.env := by rfl)
    (hpl : ((backTo pos (starEach (e :: es) X.env)).any (·.1) || (backToKw pos (keywordEach kws X.env)).any (·.1.isNone)) = false := by rfl) :
    PE X (.Call (.Name x p) (e :: es) kws pos) (tr X.K Γ (.callK f cs ck perm)) := by
  obtain ⟨fa, fd, h1, h2, h3, hb⟩ := F.ex
  obtain ⟨oc, od, kV, doc, pm, an, cdv, ct, osl, rfl, lk, hcd⟩ := h2.ex
  have hB : KBn X.K (PySem.W.fnOf x x (defArgs st) (defBody st) (defScope st) .none kV doc pm an cdv ct) ps m ks (fun us ws => permV perm (us ++ ws)) (fun us ws => permV perm (us ++ ws)) :=
    ⟨fun s us ws _ l1 l2 => .of_eq (kb kV doc pm an cdv ct us ws l1 l2), fun r1 r2 => rel_perm (r1.append r2) perm⟩
  refine pe_w (pe_callNG (E := E0) h3 hr hg h1 h2.kp hB pass0 ha hk hall hks hdb he hpl) fun σ H Q ⟨α, env, S, d, S', ok, en, e, k⟩ => ?_
  simp only [ev, Option.bind_eq_some_iff] at e
  obtain ⟨⟨d1, S1⟩, e1, ds, e2, ⟨d2, S2⟩, e3, zs, e4, e5⟩ := e
  cases argsOf_some e2
  cases argsOf_some e4
  have l1 := narg_len hn e1
  have l2 := narg_len hnk e3
  exact ⟨α, env, S, ds, S1, ok, en, e1, fun α1 H1 vs x1 ok1 r1 => ⟨α1, env, S1, zs, S2, ok1, en.mono x1, e3, fun α2 H2 ws x2 ok2 r2 => ⟨by rw [r1.len, l1], by rw [r2.len, l2],
      α2, S2, _, d, S', ok2, ((r1.mono x2).append r2).perm perm, e5, fun α3 H3 v x3 ok3 r3 => k α3 H3 v (x1.trans (x2.trans x3)) ok3 r3⟩⟩⟩
/-- f(k = v, ..) -/
theorem xe_callK0 {kws : List Keyword} (F : FnI X.prog X.w X.K X.mg X.base Γ n f x ps st) (ks : List Str) (perm : List Nat)
    (kb : ∀ (kV doc pm : Value) (an : Option Addr) (cdv ct : Value) (ws : List Value), ws.length = ks.length → bindArgs (PySem.W.fnOf x x (defArgs st) (defBody st) (defScope st) .none kV doc pm an cdv ct) ⟨[], ks.zip ws⟩ = pure (ps.zip (permV perm ws)))
    (hnk : narg ck = some ks.length) (hr : RoomG n X.A) (hg : Gl X x) (hk : PK X kws (trA X.K Γ ck))
    (hall : (backToKw pos (keywordEach kws X.env)).all (·.1.isSome) = true := by rfl) (hks : (backToKw pos (keywordEach kws X.env)).filterMap (·.1) = ks := by rfl)
    (hdb : (x == ("__debug__" : Str)) = false := by decide)
    (hpl : ((backTo pos (starEach [] X.env)).any (·.1) || (backToKw pos (keywordEach kws X.env)).any (·.1.isNone)) = false := by rfl) :
    PE X (.Call (.Name x p) [] kws pos) (tr X.K Γ (.callK f .nil ck perm)) := by
  obtain ⟨fa, fd, h1, h2, h3, hb⟩ := F.ex
  obtain ⟨oc, od, kV, doc, pm, an, cdv, ct, osl, rfl, lk, hcd⟩ := h2.ex
  have hB : KBn X.K (PySem.W.fnOf x x (defArgs st) (defBody st) (defScope st) .none kV doc pm an cdv ct) ps 0 ks (fun us ws => permV perm (us ++ ws)) (fun us ws => permV perm (us ++ ws)) :=
    ⟨fun s us ws _ l1 l2 => (match us, l1 with | [], _ => .of_eq (kb kV doc pm an cdv ct ws l2)), fun r1 r2 => rel_perm (r1.append r2) perm⟩
  refine ⟨fun pins s σ H Q I h => ?_⟩
  obtain ⟨α, env, S, d, S', ok, en, e, k⟩ := h
  simp only [ev, Option.bind_eq_some_iff, Option.some.injEq] at e
  obtain ⟨_, rfl, ds, e1, ⟨d2, S2⟩, e3, zs, e4, e5⟩ := e
  cases argsOf_some e1
  cases argsOf_some e4
  have l2 := narg_len hnk e3
  refine wpAny_Call_Name_kw (ld_glob I hg h1 ?_ hdb)
  refine PySem.W.callWith_KW0 (h₀ := X.base) I.ok.mod.kin h2.kp hall (thn (hk.run pos pins s σ H (fun ws H2 => ws.length = ks.length ∧ spF X.K Γ f (permV perm ([] ++ ws)) H2 Q E0) I ?_) fun ws s2 ⟨zs, H2, I2, rz, l3, q2⟩ => ⟨I2.kIn, ?_⟩) hpl
  · exact ⟨α, env, S, zs, S2, ok, en, e3, fun α2 H2 ws x2 ok2 r2 => ⟨by rw [r2.len, l2], α2, S2, _, d, S', ok2, Rps.perm (by simpa using r2) perm, e5, fun α3 H3 v x3 ok3 r3 => k α3 H3 v (x2.trans x3) ok3 r3⟩⟩
  · rw [hks]
    exact run_fnG h3 hr hB pass0 I2 (.nil : Vals [] []) rz rfl l3 q2
end
end Ix

namespace Ix
open PySem L2
/-! ### zip of a tuple and a list -/
section
variable {prog : Program} {w : World} {A : Around} {E : Value → Shared → Prop} {s : Shared}
abbrev mx1 (h : Heap) (a : Addr) : Heap := h.push { cls := .type "tuple_iterator", data := .fields #[.ref a, .int 0 0] }
abbrev mx2 (h : Heap) (a b : Addr) : Heap := (mx1 h a).push { cls := .type "list_iterator", data := .fields #[.ref b, .int 0 0] }
abbrev mx3 (h : Heap) (a b : Addr) : Heap := (mx2 h a b).push { cls := .type "tuple", data := .seq #[.ref h.objs.size, .ref (mx1 h a).objs.size] }
abbrev mx4 (h : Heap) (a b : Addr) : Heap := (mx3 h a b).push { cls := .type "tuple", data := .seq #[.none, .none] }
abbrev mx5 (h : Heap) (a b : Addr) : Heap := (mx4 h a b).push { cls := .type "zip", data := .fields #[.none, .bool false, .bool false, .ref (mx2 h a b).objs.size, .ref (mx3 h a b).objs.size] }
theorem mx_new (a b : Addr) (xs ys : Array Value) : Meets (Builtin.«zip.__new__» ⟨[.type "zip", .ref a, .ref b], []⟩) (fun _ R s => s.heap.IsTuple a xs ∧ s.heap.IsList b ys ∧ R (.ok (.ret (.ref (mx4 s.heap a b).objs.size))) { s with heap := mx5 s.heap a b }) :=
  .of_wp fun prog w A R s q => by
    obtain ⟨hp, gs, dr, tk, os⟩ := s
    obtain ⟨ta, lb, q⟩ := q
    have hsub := sub_zip
    have t1 : Heap.IsTuple (Shared.heap ⟨hp, gs, dr, tk, os⟩) a xs := ta
    have t2 : Heap.IsList (Shared.heap ⟨mx1 hp a, gs, dr, tk, os⟩) b ys := Heap.IsList.push lb _
    wp_walk using wpAny_pyIter_tuple t1, wpAny_pyIter_list t2
    exact ⟨_, rfl, q⟩
theorem get_up {h : Heap} {c : Addr} {o o2 : Obj} (e : h.get? c = some o) : (h.push o2).get? c = some o := Heap.get?_push_of_some _ e
theorem mx_call {a b : Addr} {xs ys : Array Value} {Q : Value → Shared → Prop} (ta : s.heap.IsTuple a xs) (lb : s.heap.IsList b ys)
    (q : ∀ h', IsZip h' (s.heap.objs.size + 4) (s.heap.objs.size + 2) (s.heap.objs.size + 3) .none → IsPair h' (s.heap.objs.size + 2) (.ref s.heap.objs.size) (.ref (s.heap.objs.size + 1)) → IsPair h' (s.heap.objs.size + 3) .none .none →
      h'.IsTupleIter s.heap.objs.size a 0 → h'.IsListIter (s.heap.objs.size + 1) b 0 → (∀ c o, s.heap.get? c = some o → h'.get? c = some o) → Q (.ref (s.heap.objs.size + 4)) { s with heap := h' }) :
    wpAny (model prog w) A (call (.type "zip") [.ref a, .ref b]) Q E s := by
  refine callType_new F.called_zip (by decide) (F.typeCall_zip_2 _ _) (F.newCall_zip_2 _ _) (fun obj => F.args_object_init_3 obj _ _) F.entry_zip_new (mx_new a b xs ys) ⟨ta, lb, ?_⟩
  have s1 : (mx1 s.heap a).objs.size = s.heap.objs.size + 1 := Heap.size_push ..
  have s2 : (mx2 s.heap a b).objs.size = s.heap.objs.size + 2 := by rw [Heap.size_push, s1]
  have s3 : (mx3 s.heap a b).objs.size = s.heap.objs.size + 3 := by rw [Heap.size_push, s2]
  have s4 : (mx4 s.heap a b).objs.size = s.heap.objs.size + 4 := by rw [Heap.size_push, s3]
  have e5 : (mx5 s.heap a b).get? (mx4 s.heap a b).objs.size = some _ := Heap.get?_push_size _ rfl
  have e4 : (mx5 s.heap a b).get? (mx3 s.heap a b).objs.size = some _ := get_up (Heap.get?_push_size _ rfl)
  have e3 : (mx5 s.heap a b).get? (mx2 s.heap a b).objs.size = some _ := get_up (get_up (Heap.get?_push_size _ rfl))
  have e2 : (mx5 s.heap a b).get? (mx1 s.heap a).objs.size = some _ := get_up (get_up (get_up (Heap.get?_push_size _ rfl)))
  have e1 : (mx5 s.heap a b).get? s.heap.objs.size = some _ := get_up (get_up (get_up (get_up (Heap.get?_push_size _ rfl))))
  show _ ∧ _
  rw [s2, s3, s4] at e5
  rw [s1, s2] at e3
  rw [s3] at e4
  rw [s1] at e2
  rw [s4]
  exact ⟨⟨_, e5, rfl⟩, q _ e5 e3 e4 ⟨_, e1, rfl, rfl⟩ ⟨_, e2, rfl, rfl⟩ fun c o x => get_up (get_up (get_up (get_up (get_up x))))⟩
end
def Itm (K : PySem.W.Frag) (a b : Addr) : It :=
  ⟨fun i H => ∃ (vs us : List V) (x y : V), SqT K H a vs ∧ SqL K H b us ∧ vs[i]? = some x ∧ us[i]? = some y,
    fun i H v H' => ∃ T x y, v = .ref T ∧ H T = none ∧ H' = upd H T (.tup [x, y]) ∧ (∀ vs, SqT K H a vs → vs[i]? = some x) ∧ ∀ us, SqL K H b us → us[i]? = some y,
    fun i H => ∃ vs us : List V, SqT K H a vs ∧ SqL K H b us ∧ i = min vs.length us.length⟩
theorem sep_mx {z TI TO i1 i2 a b : Addr} (D : ZipApart z TI TO i1 i2 a b) : ZipSep2 z TI TO i1 i2 [i1, a] [i2, b] where
  TIz := D.TIz
  TOz := D.TOz
  TITO := D.TITO
  TIi1 := D.TIi1
  mem1 := List.mem_cons_self
  zf1 := by simp only [List.mem_cons, List.not_mem_nil, or_false, not_or]; exact ⟨D.i1z.symm, D.l1z.symm⟩
  Tf1 := by simp only [List.mem_cons, List.not_mem_nil, or_false, not_or]; exact ⟨D.TOi1, D.l1TO.symm⟩
  TIi2 := D.TIi2
  mem2 := List.mem_cons_self
  zf2 := by simp only [List.mem_cons, List.not_mem_nil, or_false, not_or]; exact ⟨D.i2z.symm, D.l2z.symm⟩
  Tf2 := by simp only [List.mem_cons, List.not_mem_nil, or_false, not_or]; exact ⟨D.TOi2, D.l2TO.symm⟩
  sep1_2 := by simp only [List.mem_cons, List.not_mem_nil, or_false, not_or]; exact ⟨D.i12, D.l2i1.symm⟩
  sep2_1 := by simp only [List.mem_cons, List.not_mem_nil, or_false, not_or]; exact ⟨D.i12.symm, D.l1i2.symm⟩
def MxSt (z TI TO i1 i2 a b : Addr) (i : Nat) (h : Heap) : Prop := IsZip h z TI TO .none ∧ IsPair h TI (.ref i1) (.ref i2) ∧ (∃ x y, IsPair h TO x y) ∧ h.IsTupleIter i1 a i ∧ h.IsListIter i2 b i
theorem of5 {c z TI TO i1 i2 : Addr} (h : c ∈ [z, TI, TO, i1, i2]) : c = z ∨ c = TI ∨ c = TO ∨ c = i1 ∨ c = i2 := by simpa using h
theorem turn_mx {P : Program} {w : World} {K : PySem.W.Frag} {elts : List Expr} {kk : Nat} {tpos : Pos} {a b z TI TO i1 i2 : Addr} (D : ZipApart z TI TO i1 i2 a b) : Turn P w K (.Tuple elts kk tpos) (Itm K a b) [z, TI, TO, i1, i2] z (MxSt z TI TO i1 i2 a b) where
  mem := List.mem_cons_self
  obj := fun i h ⟨m1, m2, ⟨x, y, m3⟩, ⟨o1, p1, _, d1⟩, ⟨o2, p2, _, d2⟩⟩ c hc => by
    rcases of5 hc with rfl | rfl | rfl | rfl | rfl
    · exact ⟨_, m1, fun _ q => nomatch q⟩
    · exact ⟨_, m2, fun _ q => nomatch q⟩
    · exact ⟨_, m3, fun _ q => nomatch q⟩
    · exact ⟨o1, p1, fun _ q => by rw [d1] at q; cases q⟩
    · exact ⟨o2, p2, fun _ q => by rw [d2] at q; cases q⟩
  keep := fun i h h' ⟨m1, m2, ⟨x, y, m3⟩, m4, m5⟩ k => ⟨k z (by simp) _ m1, k TI (by simp) _ m2, ⟨x, y, k TO (by simp) _ m3⟩, m4.at (k i1 (by simp)), m5.at (k i2 (by simp))⟩
  item := by
    rintro X rfl rfl rfl hc i pins s σ H E I hf ⟨m1, m2, ⟨x0, y0, m3⟩, m4, m5⟩ ⟨vs, us, x, y, qa, qb, hx, hy⟩
    obtain ⟨ia, ra, pa, _⟩ := I.tuple qa
    obtain ⟨ib, rb, pb, _⟩ := I.list qb
    obtain ⟨u, hu, ru⟩ := ra.get hx
    obtain ⟨v, hv, rv⟩ := rb.get hy
    have zl : z < s.heap.objs.size := Heap.lt_size m1
    have hd : X.A.in1.handled = none := I.ok.hd hc
    have ua : ia.toArray[i]? = some u := by simpa using hu
    have ub : ib.toArray[i]? = some v := by simpa using hv
    have na : i < ia.toArray.size := (Array.getElem?_eq_some_iff.mp ua).1
    have nb : i < ib.toArray.size := (Array.getElem?_eq_some_iff.mp ub).1
    refine wpAny_pyNext_zipD2_item (sep_mx D) (Draws.tuple hd i1 a D.l1i1 ia.toArray) (Draws.list hd i2 b D.l2i2 ib.toArray) m1 m2 m3 ⟨m4, pa⟩ ⟨m5, pb.isList⟩ na nb fun w1 w2 h1 tk f1 f2 z1 t1 g1 g2 new1 sz1 k1 => ?_
    obtain rfl : w1 = u := Option.some.inj (f1.symm.trans ua)
    obtain rfl : w2 = v := Option.some.inj (f2.symm.trans ub)
    refine ⟨_, rfl, wpAny_letOwnedTupleGo_zip (s := { s with heap := h1, toks := tk }) z1 fun h2 z2 sb => ?_⟩
    have at2 : h2.get? s.heap.objs.size = some { cls := .type "tuple", data := .seq #[w1, w2] } := (sb.2 _ (Nat.ne_of_gt zl)).trans new1
    have ok2 : ObjOk X.prog X.w (upd H s.heap.objs.size (.tup [x, y])) h2 s.heap.objs.size (.tup [x, y]) := ⟨by show 2 ≤ sizeLine; decide, [w1, w2], .cons ru (.cons rv .nil), ⟨_, at2, rfl, _, rfl⟩⟩
    have kp : ∀ c o, c ∉ [z, TI, TO, i1, i2] → s.heap.get? c = some o → h2.get? c = some o := fun c o nc e =>
      (sb.2 c fun e' => nc (by simp [e'])).trans (k1 c o (fun e' => nc (by simp [e'])) (fun e' => nc (by simp [e'])) (fun e' => nc (by simp [e'])) (fun e' => nc (by simp [e'])) e)
    have I2 : Inv X pins σ (upd H s.heap.objs.size (.tup [x, y])) { s with heap := h2, toks := tk } := I.turnedNew (t' := tk) (ch := [z, TI, TO, i1, i2]) kp hf (Nat.le_refl _) ok2
    refine ⟨.ref s.heap.objs.size, _, I2, rfl, ⟨_, x, y, rfl, I.hok.fresh (Nat.le_refl _), rfl, fun l hl => by rw [I.tuple_inj hl qa]; exact hx, fun l hl => by rw [I.list_inj hl qb]; exact hy⟩, ⟨z2, (sb.2 _ D.TIz).trans (k1 _ _ D.TIz D.TITO D.TIi1 D.TIi2 m2), ⟨w1, w2, (sb.2 _ D.TOz).trans t1⟩, g1.1.at fun o e => (sb.2 _ D.i1z).trans e, g2.1.at fun o e => (sb.2 _ D.i2z).trans e⟩, fun c hcm => ?_⟩
    have lt : c < s.heap.objs.size := by
      rcases of5 hcm with rfl | rfl | rfl | rfl | rfl
      · exact zl
      · exact Heap.lt_size m2
      · exact Heap.lt_size m3
      · exact m4.elim fun _ e => Heap.lt_size e.1
      · exact m5.elim fun _ e => Heap.lt_size e.1
    rw [upd_ne (Nat.ne_of_lt lt)]
    exact (hf c hcm).1
  done := by
    rintro X rfl rfl rfl hc i pins s σ H E I hf ⟨m1, m2, ⟨x0, y0, m3⟩, m4, m5⟩ ⟨vs, us, qa, qb, hi⟩
    obtain ⟨ia, ra, pa, _⟩ := I.tuple qa
    obtain ⟨ib, rb, pb, _⟩ := I.list qb
    have hd : X.A.in1.handled = none := I.ok.hd hc
    have la : ia.toArray.size = vs.length := by rw [List.size_toArray, ra.length]
    have lb : ib.toArray.size = us.length := by rw [List.size_toArray, rb.length]
    refine wpAny_pyNext_zipD2_end (sep_mx D) (Draws.tuple hd i1 a D.l1i1 ia.toArray) (Draws.list hd i2 b D.l2i2 ib.toArray) m1 m2 m3 ⟨m4, pa⟩ ⟨m5, pb.isList⟩ (by omega) (by omega) (by omega) fun h1 tk k1 => ⟨rfl, I.turnedL (t' := tk) (ch := [z, TI, TO, i1, i2]) (fun c o nc e => ?_) hf⟩
    exact k1 c o (fun e' => nc (by simp [e'])) (fun e' => nc (by simp [e'])) (fun e' => nc (by simp [e'])) (fun e' => nc (by simp [e'])) e
  self := fun _ _ _ _ _ m q => wpAny_pyIter_zip m.1 q
def iMx (K : PySem.W.Frag) (ta : TA) : TI := fun σ H R => ta σ H fun vs H1 => ∃ a b xs ys, vs = [.ref a, .ref b] ∧ SqT K H1 a xs ∧ SqL K H1 b ys ∧ R (Itm K a b) H1
theorem pi_mx {X : Cx} {e e2 : Expr} {ta : TA} {p pos tpos : Pos} {elts : List Expr} {kk : Nat} (hg : Gl X "zip") (hm : X.mg "zip" = none) (ha : PA X [e, e2] ta) (hs : starEach [e, e2] X.env = (false, eval e X.env) :: starEach [e2] X.env := by rfl) (hpl : (backTo pos (starEach [e2] X.env)).any (·.1) = false := by rfl) :
    PI X (.Tuple elts kk tpos) (.Call (.Name "zip" p) [e, e2] [] pos) (iMx X.K ta) := by
  refine ⟨fun pins s σ H R I hw => ?_⟩
  refine PyProof.Rows.Call_ (ld_blt I hg hm PyProof.Rows.boot_zip (PyProof.Rows.callWith_type1 (thn (ha.run pos pins s σ H _ I hw) fun ws s1 ⟨vs, H1, I1, rs, q⟩ => ?_) hs hpl))
  obtain ⟨a, b, xs, ys, ev, qa, qb, q⟩ := q
  subst ev
  cases rs with
  | cons r1 rs =>
    cases rs with
    | cons r2 rs =>
    cases rs
    cases r1
    cases r2
    obtain ⟨ia, _, pa, _⟩ := I1.tuple qa
    obtain ⟨ib, _, pb, _⟩ := I1.list qb
    have fr : ∀ c, c ∈ [s1.heap.objs.size + 4, s1.heap.objs.size + 2, s1.heap.objs.size + 3, s1.heap.objs.size, s1.heap.objs.size + 1] → FpOk X pins H1 c := fun c hcm => by
      have le : s1.heap.objs.size ≤ c := by rcases of5 hcm with rfl | rfl | rfl | rfl | rfl <;> omega
      exact I1.fpOk le (I1.hok.fresh le)
    obtain ⟨oa, ea, _⟩ := id pa
    refine mx_call (show s1.heap.IsTuple a ia.toArray from pa) pb.isList fun h1 z1 t1 o1 n1 n2 k1 => wpAny_pyIter_zip z1 ?_
    have I2 : Inv X pins σ H1 { s1 with heap := h1 } := I1.kept (t' := s1.toks) k1
    exact ⟨s1.heap.objs.size + 4, [s1.heap.objs.size + 4, s1.heap.objs.size + 2, s1.heap.objs.size + 3, s1.heap.objs.size, s1.heap.objs.size + 1], _, _, H1, rfl, I2, turn_mx (PySem.W.ktu_apart s1.heap.objs.size a b (Heap.lt_size ea) pb.lt), ⟨z1, t1, ⟨_, _, o1⟩, n1, n2⟩, fr, q⟩
end Ix

namespace Ix
open PySem L2
/-! ### targets -/
theorem wipe_set {σ : L2.St} {i : Nat} {x : Option V} : ∀ {own : List Nat}, wipe (σ.set i x) own = if i ∈ own then wipe σ own else (wipe σ own).set i x
  | [] => by simp [wipe]
  | v :: vs => by
    unfold wipe
    rw [wipe_set (own := vs)]
    by_cases h1 : i ∈ vs
    · rw [if_pos h1, if_pos (List.mem_cons_of_mem _ h1)]
    · rw [if_neg h1]
      by_cases h2 : i = v
      · subst h2
        rw [if_pos List.mem_cons_self, List.set_set]
      · rw [if_neg (by simp [h1, h2]), List.set_comm _ _ h2]
theorem wipe_wipe {σ : L2.St} : ∀ {own own2 : List Nat}, (∀ v ∈ own2, v ∈ own) → wipe (wipe σ own2) own = wipe σ own
  | own, [], _ => rfl
  | own, v :: vs, h => by
    show wipe ((wipe σ vs).set v none) own = wipe σ own
    rw [wipe_set, if_pos (h v List.mem_cons_self)]
    exact wipe_wipe fun u hu => h u (List.mem_cons_of_mem _ hu)
theorem wipeD_En {K : PySem.W.Frag} {α : List Addr} {H : Hp} {env : Sl} {σ : L2.St} (en : En K α H env σ) : ∀ own : List Nat, En K α H (wipeD env own) (wipe σ own)
  | [] => en
  | v :: vs => by
    have ih := wipeD_En en vs
    refine ⟨by simp [wipe, wipeD, ih.len], fun i d h => ?_⟩
    unfold wipeD at h
    unfold wipe
    by_cases e : v = i
    · subst e
      rw [List.getElem?_set] at h
      simp only [if_true] at h
      split at h <;> cases h
    · rw [List.getElem?_set_ne e] at h ⊢
      exact ih.at_ i d h
section
variable {X : Cx} {Γ : Fs} {e : Expr} {es : List Expr} {pos : Pos}
theorem xg_name (i : Nat) {x : Str} (hN : X.N.Nodup) (hi : X.N[i]? = some x := by rfl) (hx : Loc X.env.scope x := by first | exact Or.inl rfl | exact Or.inr rfl) (hf : X.fn x = true ∨ X.env.scope.names.lookup x = some .local := by first | exact .inl rfl | exact .inr rfl | assumption) : PG X (.Name x pos) (trG X.K (.name i)) :=
  pg_w (pg_name hN hi hx hf) fun v σ H Q ⟨α, env, d, env', r, en, e, k⟩ => by
    simp only [asgG, Option.some.injEq] at e
    subst e
    refine k _ (en.set i r) fun own h => ?_
    rw [wipe_set, if_pos (by simpa [gOk] using h)]
theorem xgs_nil : PGs X [] (trGs X.K .nil) := ⟨fun pins s σ H vs us Q I r ⟨α, env, ds, env', rs, en, e, k⟩ => pgs_nil.run pins s σ H vs us Q I r (by
  cases ds with
  | nil =>
    simp only [asgG, Option.some.injEq] at e
    subst e
    exact ⟨rs.unnil, k _ en fun _ _ => rfl⟩
  | cons _ _ => simp [asgG] at e)⟩
theorem xgs_cons {g h : G} (h1 : PG X e (trG X.K g)) (h2 : PGs X es (trGs X.K h)) (hs : (assignEach (e :: es) X.env).map (·.2) = assign e X.env :: (assignEach es X.env).map (·.2) := by rfl) : PGs X (e :: es) (trGs X.K (.cons g h)) :=
  ⟨fun pins s σ H vs us Q I r ⟨α, env, ds, env', rs, en, e, k⟩ => (pgs_cons h1 h2 hs).run pins s σ H vs us Q I r (by
    cases ds with
    | nil => simp [asgG] at e
    | cons d ds =>
      simp only [asgG, Option.bind_eq_some_iff] at e
      obtain ⟨env1, e1, e2⟩ := e
      obtain ⟨w, ws, rfl, r1, r2⟩ := rs.uncons
      refine ⟨w, ws, rfl, α, env, d, env1, r1, en, e1, fun σ1 en1 w1 => ⟨α, env1, ds, env', r2, en1, e2, fun σ2 en2 w2 => k σ2 en2 fun own ho => ?_⟩⟩
      simp only [gOk, Bool.and_eq_true] at ho
      rw [w2 own ho.2, w1 own ho.1])⟩
theorem asg_len : ∀ {g : G} {n : Nat} {ds : List D} {env env' : Sl}, (∃ m, m = g) → gLen g = some n → asgG g (.tup ds) env = some env' → ds.length = n
  | .nil, n, ds, env, env', _, h, e => by
    simp only [gLen, Option.some.injEq] at h
    cases ds with
    | nil => exact h
    | cons _ _ => simp [asgG] at e
  | .cons g1 g2, n, ds, env, env', _, h, e => by
    simp only [gLen, Option.map_eq_some_iff] at h
    obtain ⟨m, h, rfl⟩ := h
    cases ds with
    | nil => simp [asgG] at e
    | cons d ds =>
      simp only [asgG, Option.bind_eq_some_iff] at e
      obtain ⟨env1, e1, e2⟩ := e
      rw [List.length_cons, asg_len ⟨_, rfl⟩ h e2]
  | .name _, n, ds, env, env', _, h, e => by simp [gLen] at h
  | .tup _, n, ds, env, env', _, h, e => by simp [gLen] at h
theorem xg_tup {g : G} {k n : Nat} (hc : X.calm = true) (h : PGs X es (trGs X.K g)) (hl : gLen g = some n := by rfl) (hn : (assignEach es X.env).length = n := by rfl) (hst : (assignEach es X.env).findIdx? (·.1) = none := by rfl) : PG X (.Tuple es k pos) (trG X.K (.tup g)) :=
  pg_w (pg_tup hc h hn hst) fun v σ H Q ⟨α, env, d, env', r, en, e, k⟩ => by
    cases d with
    | tup xs =>
      simp only [asgG] at e
      cases r with
      | tup h1 l q => exact ⟨_, _, rfl, h1, by rw [l, asg_len ⟨_, rfl⟩ hl e], α, env, xs, env', ⟨l, q⟩, en, e, fun σ' en' w => k σ' en' fun own ho => w own (by simpa [gOk] using ho)⟩
    | _ => simp [asgG] at e
end

/-! ### what is walked -/
def trI (K : PySem.W.Frag) (Γ : Fs) (k : Ik) (c : E) : TI := fun σ H R => ∃ α env S ds S' its, Ok K α S H ∧ En K α H env σ ∧ ev Γ c env S = some (.tup ds, S') ∧ items k ds S' = some its ∧
  ∀ (α' : List Addr) (H' : Hp) (J : It) (G : Hp → Prop) (Y : Nat → Hp → V → Hp → Prop), Xt K α H α' H' → Ok K α' S' H' → Walk J its.length G Y →
    (∀ α2 S2 H2, Xt K α' H' α2 H2 → Ok K α2 S2 H2 → items k ds S2 = some its → G H2) →
    (∀ i α2 S2 H2 x H3, Xt K α' H' α2 H2 → Ok K α2 S2 H2 → items k ds S2 = some its → i < its.length → Y i H2 x H3 → ∃ d, its[i]? = some d ∧ Xt K α2 H2 α2 H3 ∧ Ok K α2 S2 H3 ∧ Rp K α2 H3 d x) → R J H'
section
variable {K : PySem.W.Frag} {a b : Addr} {n : Nat}
theorem walk_listE : Walk (Itl K a) n (fun H => ∃ vs, SqL K H a vs ∧ vs.length = n) (fun i H x H' => H' = H ∧ ∀ vs, SqL K H a vs → vs[i]? = some x) :=
  ⟨fun i _ hi ⟨vs, q, l⟩ => ⟨vs, vs[i]'(by omega), q, by simp⟩, fun _ ⟨vs, q, l⟩ => ⟨vs, q, by omega⟩, fun _ _ _ _ _ _ y => y⟩
theorem walk_tupE : Walk (Itt K a) n (fun H => ∃ vs, SqT K H a vs ∧ vs.length = n) (fun i H x H' => H' = H ∧ ∀ vs, SqT K H a vs → vs[i]? = some x) :=
  ⟨fun i _ hi ⟨vs, q, l⟩ => ⟨vs, vs[i]'(by omega), q, by simp⟩, fun _ ⟨vs, q, l⟩ => ⟨vs, q, by omega⟩, fun _ _ _ _ _ _ y => y⟩
theorem walk_zipE : Walk (Itz K a b) n (fun H => ∃ vs us, SqL K H a vs ∧ SqL K H b us ∧ min vs.length us.length = n)
    (fun i H v H' => ∃ T x y, v = .ref T ∧ H T = none ∧ H' = upd H T (.tup [x, y]) ∧ (∀ xs, SqL K H a xs → xs[i]? = some x) ∧ ∀ ys, SqL K H b ys → ys[i]? = some y) :=
  ⟨fun i _ hi ⟨vs, us, q, r, l⟩ => ⟨vs, us, vs[i]'(by omega), us[i]'(by omega), q, r, by simp, by simp⟩, fun _ ⟨vs, us, q, r, l⟩ => ⟨vs, us, q, r, by omega⟩, fun _ _ _ _ _ _ y => y⟩
theorem walk_zipTE : Walk (RZ.ItzT K a b) n (fun H => ∃ vs us, SqT K H a vs ∧ SqT K H b us ∧ min vs.length us.length = n)
    (fun i H v H' => ∃ T x y, v = .ref T ∧ H T = none ∧ H' = upd H T (.tup [x, y]) ∧ (∀ xs, SqT K H a xs → xs[i]? = some x) ∧ ∀ ys, SqT K H b ys → ys[i]? = some y) :=
  ⟨fun i _ hi ⟨vs, us, q, r, l⟩ => ⟨vs, us, vs[i]'(by omega), us[i]'(by omega), q, r, by simp, by simp⟩, fun _ ⟨vs, us, q, r, l⟩ => ⟨vs, us, q, r, by omega⟩, fun _ _ _ _ _ _ y => y⟩
end
section
variable {X : Cx} {Γ : Fs} {tg e e2 : Expr} {c c2 cs : E} {pos p : Pos}
theorem seq_lst {K : PySem.W.Frag} {α : List Addr} {S : Hd} {H : Hp} {d : D} {a : Addr} {xs : List D} (ok : Ok K α S H) (r : Rp K α H d (.ref a)) (h : seqOf S d = some xs) (nt : isTup d = false) : ∃ vs, SqL K H a vs ∧ Rps K α H xs vs := by
  obtain ⟨a', vs, e, rs, z⟩ := seq_of ok r h
  cases e
  rcases z with ⟨z, _⟩ | ⟨_, z⟩
  · rw [nt] at z
    cases z
  · exact ⟨vs, z, rs⟩
theorem seq_tup {K : PySem.W.Frag} {α : List Addr} {S : Hd} {H : Hp} {d : D} {a : Addr} {xs : List D} (ok : Ok K α S H) (r : Rp K α H d (.ref a)) (h : seqOf S d = some xs) (nt : isTup d = true) : ∃ vs, SqT K H a vs ∧ Rps K α H xs vs := by
  obtain ⟨a', vs, e, rs, z⟩ := seq_of ok r h
  cases e
  rcases z with ⟨_, z⟩ | ⟨z, _⟩
  · exact ⟨vs, z, rs⟩
  · rw [nt] at z
    cases z
theorem xi_seq (h : PE X e (tr X.K Γ c)) : PI X tg e (trI X.K Γ .seq (.cons c .nil)) := by
  refine ⟨fun pins s σ H R I ⟨α, env, S, ds, S', its, ok, en, e1, e2, k⟩ => ?_⟩
  simp only [ev, Option.bind_eq_some_iff, Option.map_eq_some_iff, Option.some.injEq, Prod.mk.injEq, D.tup.injEq] at e1
  obtain ⟨⟨d, S1⟩, e1, _, rfl, dr, e3, rfl, rfl⟩ := e1
  cases argsOf_some e3
  simp only [items] at e2
  cases ht : isTup d with
  | true =>
    refine (pi_tup h).run pins s σ H R I ⟨α, env, S, d, S1, ok, en, e1, fun α1 H1 v x1 ok1 r1 => ?_⟩
    obtain ⟨a, vs, rfl, rs, z⟩ := seq_of ok1 r1 e2
    obtain ⟨vs, z, rs⟩ := seq_tup ok1 r1 e2 ht
    refine ⟨a, rfl, ⟨vs, z⟩, k α1 H1 _ _ _ x1 ok1 walk_tupE (fun α2 S2 H2 x2 ok2 e4 => ?_) fun i α2 S2 H2 x H3 x2 ok2 e4 hi ⟨y1, y2⟩ => ?_⟩
    · obtain ⟨ws, w1, w2⟩ := seq_tup ok2 (r1.mono x2) (show seqOf S2 d = some its from e4) ht
      exact ⟨ws, w1, w2.len⟩
    · obtain ⟨ws, w1, w2⟩ := seq_tup ok2 (r1.mono x2) (show seqOf S2 d = some its from e4) ht
      obtain ⟨d', q1, q2⟩ := w2.getV (y2 ws w1)
      subst y1
      exact ⟨d', q1, Xt.refl, ok2, q2⟩
  | false =>
    refine (pi_list h).run pins s σ H R I ⟨α, env, S, d, S1, ok, en, e1, fun α1 H1 v x1 ok1 r1 => ?_⟩
    obtain ⟨a, vs, rfl, rs, z⟩ := seq_of ok1 r1 e2
    obtain ⟨vs, z, rs⟩ := seq_lst ok1 r1 e2 ht
    refine ⟨a, rfl, ⟨vs, z⟩, k α1 H1 _ _ _ x1 ok1 walk_listE (fun α2 S2 H2 x2 ok2 e4 => ?_) fun i α2 S2 H2 x H3 x2 ok2 e4 hi ⟨y1, y2⟩ => ?_⟩
    · obtain ⟨ws, w1, w2⟩ := seq_lst ok2 (r1.mono x2) (show seqOf S2 d = some its from e4) ht
      exact ⟨ws, w1, w2.len⟩
    · obtain ⟨ws, w1, w2⟩ := seq_lst ok2 (r1.mono x2) (show seqOf S2 d = some its from e4) ht
      obtain ⟨d', q1, q2⟩ := w2.getV (y2 ws w1)
      subst y1
      exact ⟨d', q1, Xt.refl, ok2, q2⟩
theorem xi_range1 (hg : Gl X "range") (hm : X.mg "range" = none) (ha : PA X [e] (trA X.K Γ cs)) (hs : starEach [e] X.env = [(false, eval e X.env)] := by rfl) : PI X tg (.Call (.Name "range" p) [e] [] pos) (trI X.K Γ .range1 cs) := by
  refine ⟨fun pins s σ H R I ⟨α, env, S, ds, S', its, ok, en, e1, e2, k⟩ => ?_⟩
  match ds, e1, e2 with
  | [x], e1, e2 =>
    cases x with
    | int j =>
      simp only [items] at e2
      split at e2
      · rename_i hb
        simp only [Option.some.injEq] at e2
        refine (pi_range1 hg hm ha hs).run pins s σ H R I ⟨α, env, S, _, S', ok, en, e1, fun α1 H1 vs x1 ok1 r1 => ?_⟩
        obtain ⟨v, rfl, r2⟩ := r1.one'
        cases r2
        have hl : its.length = j.toNat := by rw [← e2]; simp
        refine ⟨j, rfl, hb.1, hb.2, k α1 H1 _ _ _ x1 ok1 (show Walk (Itr 0 j.toNat) its.length (fun _ => True) (YFn fun i => .int (0 + i)) by rw [hl]; exact walk_range) (fun _ _ _ _ _ _ => trivial) fun i α2 S2 H2 x H3 x2 ok2 e4 hi ⟨y1, y2⟩ => ?_⟩
        subst y1 y2
        refine ⟨.int (0 + (i : Int)), ?_, Xt.refl, ok2, .int _⟩
        rw [← e2, List.getElem?_map, List.getElem?_range (by omega)]
        rfl
      · cases e2
    | _ => simp [items] at e2
  | [], e1, e2 => simp [items] at e2
  | x :: _ :: _, e1, e2 => cases x <;> simp [items] at e2
theorem xi_range2 (hg : Gl X "range") (hm : X.mg "range" = none) (ha : PA X [e, e2] (trA X.K Γ cs)) (hs : starEach [e, e2] X.env = [(false, eval e X.env), (false, eval e2 X.env)] := by rfl) (hs2 : starEach [e2] X.env = [(false, eval e2 X.env)] := by rfl) : PI X tg (.Call (.Name "range" p) [e, e2] [] pos) (trI X.K Γ .range2 cs) := by
  refine ⟨fun pins s σ H R I ⟨α, env, S, ds, S', its, ok, en, e1, e3, k⟩ => ?_⟩
  match ds, e1, e3 with
  | [x, y], e1, e3 =>
    cases x with
    | int i =>
      cases y with
      | int j =>
        simp only [items] at e3
        split at e3
        · rename_i hb
          simp only [Option.some.injEq] at e3
          refine (pi_range2 hg hm ha hs hs2).run pins s σ H R I ⟨α, env, S, _, S', ok, en, e1, fun α1 H1 vs x1 ok1 r1 => ?_⟩
          obtain ⟨v, u, rfl, r2, r3⟩ := r1.two'
          cases r2
          cases r3
          have hl : its.length = (j - i).toNat := by rw [← e3]; simp
          refine ⟨i, j, rfl, hb, k α1 H1 _ _ _ x1 ok1 (show Walk (Itr i (j - i).toNat) its.length (fun _ => True) (YFn fun m => .int (i + m)) by rw [hl]; exact walk_range) (fun _ _ _ _ _ _ => trivial) fun m α2 S2 H2 x H3 x2 ok2 e4 hi ⟨y1, y2⟩ => ?_⟩
          subst y1 y2
          refine ⟨.int (i + (m : Int)), ?_, Xt.refl, ok2, .int _⟩
          rw [← e3, List.getElem?_map, List.getElem?_range (by omega)]
          rfl
        · cases e3
      | _ => simp [items] at e3
    | _ => cases y <;> simp [items] at e3
  | [], e1, e3 => simp [items] at e3
  | [x], e1, e3 => cases x <;> simp [items] at e3
  | x :: y :: _ :: _, e1, e3 => cases x <;> cases y <;> simp [items] at e3
theorem zip_items {S : Hd} {x y : D} {its : List D} (h : items .zip [x, y] S = some its) : (isTup x = isTup y ∨ isTup x = true) ∧ ∃ xs ys, seqOf S x = some xs ∧ seqOf S y = some ys ∧ its = List.zipWith (fun a b => .tup [a, b]) xs ys := by
  simp only [items] at h
  split at h
  · rename_i ht
    simp only [Option.bind_eq_some_iff, Option.map_eq_some_iff] at h
    obtain ⟨xs, h1, ys, h2, rfl⟩ := h
    exact ⟨ht, xs, ys, h1, h2, rfl⟩
  · cases h
theorem walk_mxE {K : PySem.W.Frag} {a b : Addr} {n : Nat} : Walk (Itm K a b) n (fun H => ∃ vs us, SqT K H a vs ∧ SqL K H b us ∧ min vs.length us.length = n)
    (fun i H v H' => ∃ T x y, v = .ref T ∧ H T = none ∧ H' = upd H T (.tup [x, y]) ∧ (∀ vs, SqT K H a vs → vs[i]? = some x) ∧ ∀ us, SqL K H b us → us[i]? = some y) :=
  ⟨fun i _ hi ⟨vs, us, q, r, l⟩ => ⟨vs, us, vs[i]'(by omega), us[i]'(by omega), q, r, by simp, by simp⟩, fun _ ⟨vs, us, q, r, l⟩ => ⟨vs, us, q, r, by omega⟩, fun _ _ _ _ _ _ y => y⟩
theorem zip_turn {K : PySem.W.Frag} {α : List Addr} {S : Hd} {H H3 : Hp} {xs ys : List D} {vs us : List V} {v : V} {i : Nat} {T : Addr} {x y : V} (ok : Ok K α S H) (r1 : Rps K α H xs vs) (r2 : Rps K α H ys us) (e1 : v = .ref T) (hT : H T = none) (e2 : H3 = upd H T (.tup [x, y]))
    (h1 : vs[i]? = some x) (h2 : us[i]? = some y) : ∃ d, (List.zipWith (fun a b => D.tup [a, b]) xs ys)[i]? = some d ∧ Xt K α H α H3 ∧ Ok K α S H3 ∧ Rp K α H3 d v := by
  obtain ⟨dx, q1, q2⟩ := r1.getV h1
  obtain ⟨dy, q3, q4⟩ := r2.getV h2
  subst e1 e2
  exact ⟨.tup [dx, dy], by rw [List.getElem?_zipWith, q1, q3], Xt.fresh hT, ok.fresh hT, Rp.newT hT (.cons q2 (.cons q4 .nil))⟩
theorem xi_zip {elts : List Expr} {kk : Nat} {tpos : Pos} (hg : Gl X "zip") (hm : X.mg "zip" = none) (ha : PA X [e, e2] (trA X.K Γ cs)) (hs : starEach [e, e2] X.env = (false, eval e X.env) :: starEach [e2] X.env := by rfl) (hpl : (backTo pos (starEach [e2] X.env)).any (·.1) = false := by rfl) :
    PI X (.Tuple elts kk tpos) (.Call (.Name "zip" p) [e, e2] [] pos) (trI X.K Γ .zip cs) := by
  refine ⟨fun pins s σ H R I ⟨α, env, S, ds, S', its, ok, en, e1, e3, k⟩ => ?_⟩
  match ds, e1, e3 with
  | [x, y], e1, e3 =>
    by_cases hmx : isTup x = true ∧ isTup y = false
    · obtain ⟨hx, hy⟩ := hmx
      refine (pi_mx hg hm ha hs hpl).run pins s σ H R I ⟨α, env, S, _, S', ok, en, e1, fun α1 H1 vs x1 ok1 r1 => ?_⟩
      obtain ⟨v, u, rfl, r2, r3⟩ := r1.two'
      obtain ⟨_, xs, ys, h1, h2, ei⟩ := zip_items e3
      obtain ⟨a, _, rfl, _, _⟩ := seq_of ok1 r2 h1
      obtain ⟨b, _, rfl, _, _⟩ := seq_of ok1 r3 h2
      obtain ⟨vs, z1, q1⟩ := seq_tup ok1 r2 h1 hx
      obtain ⟨us, z2, q2⟩ := seq_lst ok1 r3 h2 hy
      refine ⟨a, b, vs, us, rfl, z1, z2, k α1 H1 _ _ _ x1 ok1 walk_mxE (fun α2 S2 H2 x2 ok2 e4 => ?_) fun i α2 S2 H2 w H3 x2 ok2 e4 hi ⟨T, x', y', f1, f2, f3, f4, f5⟩ => ?_⟩
      · obtain ⟨_, xs', ys', g1, g2, g3⟩ := zip_items e4
        obtain ⟨vs', w1, w2⟩ := seq_tup ok2 (r2.mono x2) g1 hx
        obtain ⟨us', w3, w4⟩ := seq_lst ok2 (r3.mono x2) g2 hy
        exact ⟨vs', us', w1, w3, by rw [w2.len, w4.len, g3, List.length_zipWith]⟩
      · obtain ⟨_, xs', ys', g1, g2, g3⟩ := zip_items e4
        obtain ⟨vs', w1, w2⟩ := seq_tup ok2 (r2.mono x2) g1 hx
        obtain ⟨us', w3, w4⟩ := seq_lst ok2 (r3.mono x2) g2 hy
        rw [g3]
        exact zip_turn ok2 w2 w4 f1 f2 f3 (f4 _ w1) (f5 _ w3)
    have hxy : isTup x = isTup y := by
      rcases (zip_items e3).1 with h | h
      · exact h
      · cases hy : isTup y with
        | true => exact h
        | false => exact absurd ⟨h, hy⟩ hmx
    refine (RZ.pi_zipA hg hm ha hs hpl).run pins s σ H R I ⟨α, env, S, _, S', ok, en, e1, fun α1 H1 vs x1 ok1 r1 => ?_⟩
    obtain ⟨v, u, rfl, r2, r3⟩ := r1.two'
    obtain ⟨_, xs, ys, h1, h2, ei⟩ := zip_items e3
    have ht := hxy
    obtain ⟨a, _, rfl, _, _⟩ := seq_of ok1 r2 h1
    obtain ⟨b, _, rfl, _, _⟩ := seq_of ok1 r3 h2
    cases hx : isTup x with
    | true =>
      have hy : isTup y = true := by rw [← ht, hx]
      obtain ⟨vs, z1, q1⟩ := seq_tup ok1 r2 h1 hx
      obtain ⟨us, z2, q2⟩ := seq_tup ok1 r3 h2 hy
      refine ⟨a, b, vs, us, rfl, .inr ⟨z1, z2, k α1 H1 _ _ _ x1 ok1 walk_zipTE (fun α2 S2 H2 x2 ok2 e4 => ?_) fun i α2 S2 H2 w H3 x2 ok2 e4 hi ⟨T, x', y', f1, f2, f3, f4, f5⟩ => ?_⟩⟩
      · obtain ⟨_, xs', ys', g1, g2, g3⟩ := zip_items e4
        obtain ⟨vs', w1, w2⟩ := seq_tup ok2 (r2.mono x2) g1 hx
        obtain ⟨us', w3, w4⟩ := seq_tup ok2 (r3.mono x2) g2 hy
        exact ⟨vs', us', w1, w3, by rw [w2.len, w4.len, g3, List.length_zipWith]⟩
      · obtain ⟨_, xs', ys', g1, g2, g3⟩ := zip_items e4
        obtain ⟨vs', w1, w2⟩ := seq_tup ok2 (r2.mono x2) g1 hx
        obtain ⟨us', w3, w4⟩ := seq_tup ok2 (r3.mono x2) g2 hy
        rw [g3]
        exact zip_turn ok2 w2 w4 f1 f2 f3 (f4 _ w1) (f5 _ w3)
    | false =>
      have hy : isTup y = false := by rw [← ht, hx]
      obtain ⟨vs, z1, q1⟩ := seq_lst ok1 r2 h1 hx
      obtain ⟨us, z2, q2⟩ := seq_lst ok1 r3 h2 hy
      refine ⟨a, b, vs, us, rfl, .inl ⟨z1, z2, k α1 H1 _ _ _ x1 ok1 walk_zipE (fun α2 S2 H2 x2 ok2 e4 => ?_) fun i α2 S2 H2 w H3 x2 ok2 e4 hi ⟨T, x', y', f1, f2, f3, f4, f5⟩ => ?_⟩⟩
      · obtain ⟨_, xs', ys', g1, g2, g3⟩ := zip_items e4
        obtain ⟨vs', w1, w2⟩ := seq_lst ok2 (r2.mono x2) g1 hx
        obtain ⟨us', w3, w4⟩ := seq_lst ok2 (r3.mono x2) g2 hy
        exact ⟨vs', us', w1, w3, by rw [w2.len, w4.len, g3, List.length_zipWith]⟩
      · obtain ⟨_, xs', ys', g1, g2, g3⟩ := zip_items e4
        obtain ⟨vs', w1, w2⟩ := seq_lst ok2 (r2.mono x2) g1 hx
        obtain ⟨us', w3, w4⟩ := seq_lst ok2 (r3.mono x2) g2 hy
        rw [g3]
        exact zip_turn ok2 w2 w4 f1 f2 f3 (f4 _ w1) (f5 _ w3)
  | [], e1, e3 => simp [items] at e3
  | [x], e1, e3 => simp [items] at e3
  | x :: y :: _ :: _, e1, e3 => simp [items] at e3
end
end Ix

namespace Ix
open PySem L2 PySem.Spec PyProof.Rows HT
/-! ### t[::-1] of a tuple -/
section
variable {prog : Program} {w : World} {A : Around} {E : Value → Shared → Prop} {s : Shared}
theorem adjust_back (n : Nat) : Builtin.Slice.sliceAdjust none none (-1) (n : Int) = ((n : Int) - 1, -1) := by
  unfold Builtin.Slice.sliceAdjust
  simp
theorem places_back (n : Nat) : Builtin.Slice.slicePlaces ((n : Int) - 1) (-1) (-1) = n := by
  unfold Builtin.Slice.slicePlaces
  have h1 : ¬ ((-1 : Int) > 0) := by omega
  simp only [h1, if_false]
  split
  · have : ((n : Int) - 1 - -1 - 1) / (- -1) = n - 1 := by
      rw [show (- -1 : Int) = 1 by rfl, Int.ediv_one]
      omega
    rw [this]
    omega
  · simp only [Int.toNat_zero]
    omega
theorem applied_back {sl : Addr} {t : Tok} {n : Nat} {Q : Int × Int × Nat → Shared → Prop} (hs : s.heap.IsSliceOf sl .none .none (.int (-1) t))
    (h : Q ((n : Int) - 1, -1, n) s) : wpAny (model prog w) A (Builtin.Slice.sliceApplied (.ref sl) (pure (n : Int))) Q E s := by
  obtain ⟨os, hos, hcs, hds⟩ := id hs
  unfold Builtin.Slice.sliceApplied Builtin.Slice.sliceFields
  refine wpAny_bind (wpAny_bind (wpAny_field hos hds (x := .none) rfl (wpAny_bind (wpAny_field hos hds (x := .none) rfl (wpAny_bind (wpAny_field hos hds (x := .int (-1) t) rfl (wpAny_pure ?_)))))))
  refine wpAny_bind (slicePart_int ?_)
  show wpAny _ _ (if ((-1 : Int) == 0) = true then _ else _) _ _ s
  rw [if_neg (by decide)]
  refine wpAny_bind (slicePart_none (wpAny_bind (slicePart_none (wpAny_bind (wpAny_pure ?_)))))
  show wpAny _ _ (match Builtin.Slice.sliceAdjust none none (-1) (n : Int) with | (lo, hi) => pure (lo, (-1 : Int), Builtin.Slice.slicePlaces lo hi (-1))) _ _ s
  rw [adjust_back]
  show wpAny _ _ (pure ((n : Int) - 1, (-1 : Int), Builtin.Slice.slicePlaces ((n : Int) - 1) (-1) (-1))) _ _ s
  rw [places_back]
  exact wpAny_pure h
theorem pick_back (xs : Array Value) : ((List.range xs.size).filterMap fun (m : Nat) => xs[(((xs.size : Int) - 1) + (m : Int) * (-1)).toNat]?).toArray = xs.toList.reverse.toArray := by
  congr 1
  apply List.ext_getElem?
  intro i
  have key : (List.range xs.size).filterMap (fun (m : Nat) => xs[(((xs.size : Int) - 1) + (m : Int) * (-1)).toNat]?) = (List.range xs.size).map (fun m => xs.toList.reverse.getD m .none) := by
    have : ∀ (l : List Nat), (∀ m ∈ l, m < xs.size) → l.filterMap (fun (m : Nat) => xs[(((xs.size : Int) - 1) + (m : Int) * (-1)).toNat]?) = l.map (fun m => xs.toList.reverse.getD m .none) := by
      intro l
      induction l with
      | nil => intro _; rfl
      | cons m l ih =>
        intro h
        have hm := h m List.mem_cons_self
        have e1 : (((xs.size : Int) - 1) + (m : Int) * (-1)).toNat = xs.size - 1 - m := by omega
        have e2 : xs[xs.size - 1 - m]? = some (xs.toList.reverse.getD m .none) := by
          rw [List.getD_eq_getElem?_getD, List.getElem?_reverse (by simpa using hm)]
          simp only [Array.length_toList, Array.getElem?_toList]
          rw [Array.getElem?_eq_getElem (by omega)]
          rfl
        rw [List.filterMap_cons, e1, e2, List.map_cons, ih fun k hk => h k (List.mem_cons_of_mem _ hk)]
    exact this _ fun m hm => List.mem_range.mp hm
  rw [key, List.getElem?_map]
  by_cases hi : i < xs.size
  · rw [List.getElem?_range hi]
    simp [List.getD_eq_getElem?_getD, hi]
  · rw [List.getElem?_eq_none (by simpa using hi), List.getElem?_eq_none (by simpa using hi)]
    rfl
theorem getItem_tuple_back {t sl : Addr} {items : Array Value} {k : Tok} {Q : Value → Shared → Prop} (ht : IsTup s.heap t items) (hs : s.heap.IsSliceOf sl .none .none (.int (-1) k))
    (h : Q (.ref s.heap.objs.size) { s with heap := s.heap.push { cls := .type "tuple", data := .seq items.toList.reverse.toArray } })
    (hsz : items.size ≤ sizeLine) : wpAny (model prog w) A (getItem (.ref t) (.ref sl)) Q E s := by
  have htake : sizeOk (.seq items.toList.reverse.toArray) := by
    show items.toList.reverse.toArray.size ≤ sizeLine
    rw [List.size_toArray, List.length_reverse, Array.length_toList]
    exact hsz
  obtain ⟨os, hos, hcs, hds⟩ := id hs
  have hTs : s.TypeIs (.ref sl) "slice" := ⟨os, hos, hcs⟩
  unfold getItem
  try with_reducible refine wpAny_holding ?_
  first | refine wpAny_bind (wpAny_pure ?_) | skip
  refine wpAny_bind (wpAny_sequenceKey ht.typeIs (by decide) ?_)
  refine wpAny_bind (wpAny_callSpecial?_slot (name := Str.ofString "__getitem__") ht.typeIs PyProof.Rows.slot_tuple_getitem
    (wpAny_call_entry PyProof.Rows.slot_tuple_getitem ht.typeIs entry_tuple_getitem ?_ (args_tuple_getitem _ _)))
  show wpAny _ _ (Builtin.Tuple.tupleItemsOf (.ref t) >>= _) _ _ s
  refine wpAny_bind (tupleItemsOf_ ht ?_)
  refine wpAny_bind (wpAny_typeOf hTs ?_)
  rw [if_pos (by decide)]
  refine wpAny_bind (applied_back hs ?_)
  have hno : ¬ ((((items.size : Int) - 1) == 0 && (-1 : Int) == 1 && items.size == items.size) = true) := by
    intro q
    rw [Bool.and_eq_true, Bool.and_eq_true] at q
    have q1 : (-1 : Int) = 1 := eq_of_beq q.1.2
    omega
  show wpAny _ _ (if (((items.size : Int) - 1) == 0 && (-1 : Int) == 1 && items.size == items.size) = true then _ else _) _ _ s
  rw [if_neg hno, pick_back]
  first
    | exact wpAny_bind (m := Builtin.Tuple.tupleExact _) (wpAny_newObj_type (wpAny_pure ⟨_, rfl, wpAny_pure h⟩) htake)
    | exact wpAny_bind (m := Builtin.Tuple.tupleExact _) (wpAny_newObj_type (wpAny_bind (wpAny_pure (wpAny_pure ⟨_, rfl, wpAny_pure h⟩))) htake)
    | exact wpAny_bind (wpAny_bind (m := Builtin.Tuple.tupleExact _) (wpAny_newObj_type (wpAny_pure (wpAny_pure ⟨_, rfl, wpAny_pure h⟩)) htake))
    | exact wpAny_bind (wpAny_bind (m := Builtin.Tuple.tupleExact _) (wpAny_newObj_type (wpAny_pure ⟨_, rfl, wpAny_pure h⟩) htake))
end
end Ix
namespace Ix
open PySem L2
theorem isPart_none {u : Value} (h : IsPart u none) : u = .none := by cases h; rfl
theorem isPart_int {u : Value} {i : Int} (h : IsPart u (some i)) : ∃ t, u = .int i t := by cases h; exact ⟨_, rfl⟩
theorem slot_tup : True := trivial
section
variable {X : Cx} {Γ : Fs} {e : Expr} {c : E}
def tRevT (K : PySem.W.Frag) (te : TE) : TE := fun σ H Q => te σ H fun x H1 => ∃ a xs, x = .ref a ∧ SqT K H1 a xs ∧ ∀ p, H1 p = none → Q (.ref p) (upd H1 p (.tup xs.reverse))
theorem pe_revT {te : TE} {k : Nat} {p1 p2 p3 pos : Pos} (he : PE X e te) : PE X (.Subscript e (.Slice none none (some (.UnaryOp .USub (.Constant (.int 1) k p1) p2)) p3) pos) (tRevT X.K te) := by
  refine ⟨fun pins s σ H Q I h => ?_⟩
  refine PyProof.Rows.Subscript_ (thn (he.run pins s σ H _ I h) fun v s1 ⟨x, H1, I1, r1, q1⟩ => ?_)
  obtain ⟨a, xs, ex, hx, q⟩ := q1
  subst ex
  cases r1
  have hst : PO X (some (.UnaryOp .USub (.Constant (.int 1) k p1) p2)) (tPart (tUn (rU fun i => .int (-i)) (tC (.int 1)))) := po_some (pe_un un_neg pe_int)
  refine wpAny_Slice (thn (po_none.run pins s1 σ H1 (fun o H2 => o = none ∧ H2 = H1) I1 ⟨rfl, rfl⟩) fun vl s2 ⟨l, H2, I2, pl, el, e2⟩ => ?_)
  subst el e2
  refine thn (po_none.run pins s2 σ H2 (fun o H3 => o = none ∧ H3 = H2) I2 ⟨rfl, rfl⟩) fun vu s3 ⟨u, H3, I3, pu, eu, e3⟩ => ?_
  subst eu e3
  refine thn (hst.run pins s3 σ H3 (fun o H4 => o = some (-1) ∧ H4 = H3) I3 ⟨1, rfl, -1, rfl, rfl, rfl⟩) fun vs s4 ⟨o, H4, I4, ps, eo, e4⟩ => ?_
  subst eo e4
  cases isPart_none pl
  cases isPart_none pu
  obtain ⟨tk, rfl⟩ := isPart_int ps
  have I5 : Inv X pins σ H4 { s4 with heap := s4.heap.push { cls := .type "slice", data := .fields #[.none, .none, .int (-1) tk] } } := I4.kept (t' := s4.toks) fun b ob q => Heap.get?_push_of_some _ q
  obtain ⟨its, r, ht, hz⟩ := I5.tuple hx
  have hlen := r.length
  show wpAny (model X.prog X.w) X.A (PyProof.Rows.subscriptTail e (.Slice none none (some (.UnaryOp .USub (.Constant (.int 1) k p1) p2)) p3) (.ref a) (.ref s4.heap.objs.size)) (EP X pins σ Q) X.xe { s4 with heap := s4.heap.push { cls := .type "slice", data := .fields #[.none, .none, .int (-1) tk] } }
  refine PyProof.Rows.tail_any (ops := [.ref a, .ref s4.heap.objs.size]) ht.typeIs (PyProof.Rows.slot_tuple_getitem.lookup) ?_ (by with_unfolding_all rfl)
  refine getItem_tuple_back ht (Heap.IsSliceOf.new _ .none .none (.int (-1) tk)) ?_ (by rw [List.size_toArray]; omega)
  refine ⟨.ref _, _, I5.laid (t' := s4.toks) (o := .tup xs.reverse) (fun b ob q => Heap.get?_push_of_some _ q) (Nat.le_refl _) ?_, rfl, q _ (I5.hok.fresh (Nat.le_refl _))⟩
  exact ⟨by rw [List.length_reverse]; exact hz, its.reverse, r.reverse, ⟨_, Heap.get?_push_size _ rfl, rfl, _, rfl⟩⟩
theorem pe_or' {t1 t2 : TE} (h1 : PE X e t1) (h2 : PE X e t2) : PE X e (fun σ H Q => t1 σ H Q ∨ t2 σ H Q) := ⟨fun pins s σ H Q I h => h.elim (h1.run pins s σ H Q I) (h2.run pins s σ H Q I)⟩
theorem xe_rev {k : Nat} {p1 p2 p3 pos : Pos} (he : PE X e (tr X.K Γ c)) : PE X (.Subscript e (.Slice none none (some (.UnaryOp .USub (.Constant (.int 1) k p1) p2)) p3) pos) (tr X.K Γ (.rev c)) :=
  pe_w (pe_or' (pe_revT he) (pe_revL he)) fun σ H Q ⟨α, env, S, d, S', ok, en, e, k⟩ => by
    simp only [ev, Option.bind_eq_some_iff] at e
    obtain ⟨⟨d1, S1⟩, e1, e2⟩ := e
    have lst : isTup d1 = false → (seqOf S1 d1).map (fun xs => alloc S1 xs.reverse) = some (d, S') → tRevL X.K (tr X.K Γ c) σ H Q := fun nt e2 => by
      simp only [Option.map_eq_some_iff, alloc, Prod.mk.injEq] at e2
      obtain ⟨xs, h1, rfl, rfl⟩ := e2
      refine ⟨α, env, S, d1, S1, ok, en, e1, fun α1 H1 v1 x1 ok1 r1 => ?_⟩
      obtain ⟨a, vs, rfl, rs, z⟩ := seq_of ok1 r1 h1
      obtain ⟨ws, z1, z2⟩ := seq_lst ok1 r1 h1 nt
      exact ⟨a, ws, rfl, z1, fun p hp => go_new ok1 hp z2.reverse fun α2 H2 v2 x2 ok2 r2 => k α2 H2 v2 (x1.trans x2) ok2 r2⟩
    cases d1 with
    | tup xs =>
      simp only [revD, Option.some.injEq, Prod.mk.injEq] at e2
      obtain ⟨rfl, rfl⟩ := e2
      refine .inl ⟨α, env, S, _, S1, ok, en, e1, fun α1 H1 v1 x1 ok1 r1 => ?_⟩
      cases r1 with
      | tup h1 l q => exact ⟨_, _, rfl, h1, fun p hp => go_tup ok1 hp (Rps.reverse ⟨l, q⟩) fun α2 H2 v2 x2 ok2 r2 => k α2 H2 v2 (x1.trans x2) ok2 r2⟩
    | ref j => exact .inr (lst rfl e2)
    | ro ns => exact .inr (lst rfl e2)
    | _ => simp [revD, seqOf] at e2
end
end Ix

namespace Ix
open PySem L2
/-! ### comprehensions -/
theorem seqOf_mono {S T : Hd} {d : D} {xs : List D} (h : seqOf S d = some xs) : seqOf (S ++ T) d = some xs := by
  cases d with
  | ref k =>
    simp only [seqOf] at h ⊢
    split at h
    · rename_i ys e
      rw [List.getElem?_append_left (List.getElem?_eq_some_iff.mp e).1, e]
      exact h
    · cases h
  | tup xs => exact h
  | ro xs => exact h
  | _ => simp [seqOf] at h
theorem items_mono {k : Ik} {S T : Hd} {ds its : List D} (h : items k ds S = some its) : items k ds (S ++ T) = some its := by
  cases k with
  | seq =>
    match ds, h with
    | [x], h => exact seqOf_mono h
    | [], h => simp [items] at h
    | _ :: _ :: _, h => simp [items] at h
  | range1 =>
    match ds, h with
    | [x], h =>
      cases x with
      | int j => exact h
      | _ => simp [items] at h
    | [], h => simp [items] at h
    | x :: _ :: _, h => cases x <;> simp [items] at h
  | range2 =>
    match ds, h with
    | [x, y], h =>
      cases x with
      | int j =>
        cases y with
        | int j => exact h
        | _ => simp [items] at h
      | _ => cases y <;> simp [items] at h
    | [], h => simp [items] at h
    | [x], h => cases x <;> simp [items] at h
    | x :: y :: _ :: _, h => cases x <;> cases y <;> simp [items] at h
  | chars =>
    match ds, h with
    | [x], h =>
      cases x with
      | str j => exact h
      | _ => simp [items] at h
    | [], h => simp [items] at h
    | x :: _ :: _, h => cases x <;> simp [items] at h
  | enum =>
    match ds, h with
    | [x], h =>
      simp only [items, Option.map_eq_some_iff] at h ⊢
      obtain ⟨xs, h1, h2⟩ := h
      exact ⟨xs, seqOf_mono h1, h2⟩
    | [], h => simp [items] at h
    | _ :: _ :: _, h => simp [items] at h
  | zip =>
    match ds, h with
    | [x, y], h =>
      simp only [items] at h ⊢
      split at h
      · rename_i ht
        rw [if_pos ht]
        simp only [Option.bind_eq_some_iff, Option.map_eq_some_iff] at h
        obtain ⟨xs, h1, ys, h2, rfl⟩ := h
        rw [seqOf_mono h1, seqOf_mono h2]
        rfl
      · cases h
    | [], h => simp [items] at h
    | [x], h => simp [items] at h
    | x :: y :: _ :: _, h => simp [items] at h
section
variable {X : Cx} {Γ : Fs} {elt tg iter : Expr} {ifs : List Expr} {scope : Scope} {own : List (Str × Nat)} {pos : Pos} {k : Ik} {cs ci ce : E} {g : G}
theorem w_lc {σ : L2.St} {H : Hp} {Q : VK} {vs : List Nat} (h : tr X.K Γ (.lc k cs g ci ce vs) σ H Q) : tLc (trI X.K Γ k cs) (trG X.K g) (trT X.K Γ ci) (tr X.K Γ ce) vs σ H Q := by
  obtain ⟨α, env, S, d, S', ok, en, e, kn⟩ := h
  simp only [ev] at e
  split at e
  · rename_i hgo
    simp only [Option.bind_eq_some_iff, Option.map_eq_some_iff, Prod.mk.injEq] at e
    obtain ⟨⟨d1, S1⟩, e1, ds, e2, its, e3, S2, e4, rfl, rfl⟩ := e
    cases argsOf_some e2
    refine ⟨α, env, S, ds, S1, its, ok, en, e1, e3, fun α1 H1 J G Y x1 ok1 w hG hY Dl hD => ?_⟩
    have okD : Ok X.K (α1 ++ [Dl]) (S1 ++ [.lst []]) (upd H1 Dl (.lst [])) := ok1.snoc hD (o := .lst []) (u := .lst []) Rps.nil
    have xD : Xt X.K α1 H1 (α1 ++ [Dl]) (upd H1 Dl (.lst [])) := Xt.snoc hD
    have kD : (α1 ++ [Dl])[S1.length]? = some Dl := by rw [← ok1.len]; simp
    refine lc_it w (fun i H2 => ∃ α2 S3, Ok X.K α2 S3 H2 ∧ Xt X.K (α1 ++ [Dl]) (upd H1 Dl (.lst [])) α2 H2 ∧ items k ds S3 = some its ∧
      loopH (fun d S1' => (asgG g d (wipeD env vs)).bind fun env1 => (tst (ev Γ ci env1 S1')).bind fun t => if t.1 = true then (ev Γ ce env1 t.2).bind fun y => pushD S1.length y.1 y.2 else some t.2)
        (fun S1' => items k ds S1' = some its) (its.drop i) S3 = some S2) ⟨_, _, okD, Xt.refl, items_mono e3, e4⟩ ?_ ?_ ?_
    · rintro i H2 hi ⟨α2, S3, ok2, x2, it2, _⟩
      exact hG α2 S3 H2 (xD.trans x2) ok2 it2
    · rintro i x H2 H3 hi ⟨α2, S3, ok2, x2, it2, lp⟩ y
      obtain ⟨dx, q1, x3, ok3, r3⟩ := hY i α2 S3 H2 x H3 (xD.trans x2) ok2 it2 hi y
      have hdrop : its.drop i = dx :: its.drop (i + 1) := by
        rw [List.drop_eq_getElem_cons hi]
        rw [List.getElem?_eq_getElem hi] at q1
        rw [Option.some.inj q1]
      rw [hdrop] at lp
      simp only [loopH, Option.bind_eq_some_iff] at lp
      obtain ⟨S4, ⟨env1, a1, ⟨b, S5⟩, t1, f1⟩, lp⟩ := lp
      split at lp
      · rename_i st4
        have en3 : En X.K α2 H3 (wipeD env vs) (wipe σ vs) := wipeD_En (en.mono (x1.trans (xD.trans (x2.trans x3)))) vs
        refine ⟨α2, _, dx, env1, r3, en3, a1, fun σ2 en4 w4 => ⟨by rw [w4 vs hgo]; exact wipe_wipe fun _ h => h, ?_⟩⟩
        refine ⟨α2, env1, S3, b, S5, ok3, en4, t1, fun α5 H5 x5 ok5 => ?_⟩
        cases b with
        | true =>
          rw [if_pos rfl] at f1 ⊢
          simp only [Option.bind_eq_some_iff] at f1
          obtain ⟨⟨dy, S6⟩, f1, f2⟩ := f1
          refine ⟨α5, env1, S5, dy, S6, ok5, en4.mono x5, f1, fun α6 H6 vy x6 ok6 r6 => ?_⟩
          simp only [pushD] at f2
          split at f2
          · rename_i acc e7
            split at f2
            · rename_i hz
              simp only [Option.some.injEq] at f2
              subst f2
              have xx := x2.trans (x3.trans (x5.trans x6))
              have kk := xx.pre _ _ kD
              obtain ⟨a', vacc, e8, e9, e10, e11⟩ := ok6.lst e7 (.ref kk)
              cases e8
              exact ⟨vacc, e10, most_lt (by rw [e11.len]; exact hz), α6, _, ok6.write kk e10 (o := .lst (acc ++ [dy])) (u := .lst (vacc ++ [vy])) (e11.append (Rps.one r6)), xx.trans (Xt.write e10), st4, lp⟩
            · cases f2
          · cases f2
        | false =>
          rw [if_neg Bool.false_ne_true] at f1 ⊢
          simp only [Option.some.injEq] at f1
          subst f1
          exact ⟨α5, _, ok5, x2.trans (x3.trans x5), st4, lp⟩
      · cases lp
    · rintro H2 ⟨α2, S3, ok2, x2, it2, lp⟩
      rw [List.drop_length] at lp
      simp only [loopH, Option.some.injEq] at lp
      subst lp
      exact kn α2 H2 _ (x1.trans (xD.trans x2)) ok2 (.ref (x2.pre _ _ kD))
  · cases e
theorem tYes_of {K : PySem.W.Frag} {σ : L2.St} {H : Hp} {Q : Bool → Hp → Prop} (h : trT K Γ (.c (.bl true)) σ H Q) : tYes σ H Q := by
  obtain ⟨α, env, S, b, S', ok, en, e, k⟩ := h
  simp only [tst, ev, Option.bind_some, tru, Option.map_some, Option.some.injEq, Prod.mk.injEq] at e
  obtain ⟨rfl, rfl⟩ := e
  exact k α H Xt.refl ok
theorem xts_nil : PTs X [] (trT X.K Γ (.c (.bl true))) := ⟨fun pins s σ H Q I h => pts_nil.run pins s σ H Q I (tYes_of h)⟩
theorem xts_one {c : Expr} (h : PT X c (trT X.K Γ ci)) : PTs X [c] (trT X.K Γ ci) := pts_one h
theorem xe_lc (hc : X.calm = true) (hN : X.N.Nodup) (hi : PI X tg iter (trI X.K Γ k cs)) (N0 : List Str) (sc0 : Scope) (ok : blkC N0 sc0 scope own = true)
    (hg : ∀ (s : Shared) (H : Hp) (C : Addr) (cl : List (Str × Addr)) (fp : List Addr), PG (X.blk s H scope (compEnvC scope cl C X.env) fp) tg (trG X.K g)) (ht : ∀ (s : Shared) (H : Hp) (C : Addr) (cl : List (Str × Addr)) (fp : List Addr), PTs (X.blk s H scope (compEnvC scope cl C X.env) fp) ifs (trT X.K Γ ci))
    (he : ∀ (s : Shared) (H : Hp) (C : Addr) (cl : List (Str × Addr)) (fp : List Addr), PE (X.blk s H scope (compEnvC scope cl C X.env) fp) elt (tr X.K Γ ce)) (hs : ∀ x, foldedSetIterable iter X.env x = pure x := by intro _; rfl) (hN0 : X.N = N0 := by rfl) (hs0 : X.env.scope = sc0 := by rfl) :
    PE X (.ListComp elt [⟨tg, iter, ifs, 0⟩] scope pos) (tr X.K Γ (.lc k cs g ci ce (own.map (·.2)))) :=
  pe_w (pe_lc hc hN hi (blkOk_by (by rw [hN0, hs0]; exact ok)) hg ht he hs) fun σ H Q h => w_lc h
theorem xs_setlc {i : Nat} {y : Str} {py spos : Pos} (hc : X.calm = true) (hN : X.N.Nodup) (hy : X.N[i]? = some y) (hyl : X.env.scope.names.lookup y = some .local)
    (hsw : swapsWith (.ListComp elt [⟨tg, iter, ifs, 0⟩] scope pos) (some (.Name y py)) spos.line X.env = pure true) (hi : PI X tg iter (trI X.K Γ k cs)) (N0 : List Str) (sc0 : Scope) (ok : blkC N0 sc0 scope own = true)
    (hg : ∀ (s : Shared) (H : Hp) (C : Addr) (cl : List (Str × Addr)) (fp : List Addr), PG (X.blk s H scope (compEnvC scope cl C X.env) fp) tg (trG X.K g)) (ht : ∀ (s : Shared) (H : Hp) (C : Addr) (cl : List (Str × Addr)) (fp : List Addr), PTs (X.blk s H scope (compEnvC scope cl C X.env) fp) ifs (trT X.K Γ ci))
    (he : ∀ (s : Shared) (H : Hp) (C : Addr) (cl : List (Str × Addr)) (fp : List Addr), PE (X.blk s H scope (compEnvC scope cl C X.env) fp) elt (tr X.K Γ ce)) (hs : ∀ x, foldedSetIterable iter X.env x = pure x := by intro _; rfl) (hN0 : X.N = N0 := by rfl) (hs0 : X.env.scope = sc0 := by rfl) :
    PS X (.Assign [.Name y py] (.ListComp elt [⟨tg, iter, ifs, 0⟩] scope pos) spos) (trS X.K Γ (.asg (.name i) (.lc k cs g ci ce (own.map (·.2))))) :=
  ps_w (ps_setLc hc hN hy hyl hsw hi (blkOk_by (by rw [hN0, hs0]; exact ok)) hg ht he hs) fun D σ H ⟨α, env, S, o, env', S', ok, en, e, kn⟩ => by
    simp only [ex, Option.bind_eq_some_iff, Option.map_eq_some_iff, Prod.mk.injEq, asgG, Option.some.injEq] at e
    obtain ⟨⟨d, S1⟩, e1, _, rfl, rfl, rfl, rfl⟩ := e
    exact w_lc ⟨α, env, S, d, S1, ok, en, e1, fun α1 H1 v x1 ok1 r1 => kn α1 H1 x1 ok1 _ ((en.mono x1).set i r1)⟩
end

/-! ### statements -/
section
variable {X : Cx} {Γ : Fs} {st : Stmt} {rest a b : List Stmt} {e tg : Expr} {c1 c2 : Sx} {ce cs : E} {pos : Pos} {g : G}
theorem xs_nil : PSs X [] (trS X.K Γ .skip) := pss_w pss_nil fun D σ H ⟨α, env, S, o, env', S', ok, en, e, k⟩ => by
  simp only [ex, Option.some.injEq, Prod.mk.injEq] at e
  obtain ⟨rfl, rfl, rfl⟩ := e
  exact k α H Xt.refl ok σ en
theorem xs_cons (h1 : PS X st (trS X.K Γ c1)) (h2 : PSs X rest (trS X.K Γ c2)) : PSs X (st :: rest) (trS X.K Γ (.seq c1 c2)) :=
  pss_w (pss_cons h1 h2) fun D σ H ⟨α, env, S, o, env', S', ok, en, e, k⟩ => by
    simp only [ex, Option.bind_eq_some_iff] at e
    obtain ⟨⟨o1, env1, S1⟩, e1, e2⟩ := e
    refine ⟨α, env, S, o1, env1, S1, ok, en, e1, fun α1 H1 x1 ok1 => ?_⟩
    cases o1 with
    | nx => exact fun σ1 en1 => ⟨α1, env1, S1, o, env', S', ok1, en1, e2, fun α2 H2 x2 ok2 => k α2 H2 (x1.trans x2) ok2⟩
    | _ =>
      simp only [Option.some.injEq, Prod.mk.injEq] at e2
      obtain ⟨rfl, rfl, rfl⟩ := e2
      exact k α1 H1 x1 ok1
theorem xs_one (h1 : PS X st (trS X.K Γ c1)) : PSs X [st] (trS X.K Γ c1) := pss_one h1
theorem xs_pass : PS X (.Pass pos) (trS X.K Γ .skip) := ps_w ps_pass fun D σ H ⟨α, env, S, o, env', S', ok, en, e, k⟩ => by
  simp only [ex, Option.some.injEq, Prod.mk.injEq] at e
  obtain ⟨rfl, rfl, rfl⟩ := e
  exact k α H Xt.refl ok σ en
theorem xs_brk : PS X (.Break pos) (trS X.K Γ .brk) := ps_w ps_break fun D σ H ⟨α, env, S, o, env', S', ok, en, e, k⟩ => by
  simp only [ex, Option.some.injEq, Prod.mk.injEq] at e
  obtain ⟨rfl, rfl, rfl⟩ := e
  exact k α H Xt.refl ok σ en
theorem xs_cont : PS X (.Continue pos) (trS X.K Γ .cont) := ps_w ps_continue fun D σ H ⟨α, env, S, o, env', S', ok, en, e, k⟩ => by
  simp only [ex, Option.some.injEq, Prod.mk.injEq] at e
  obtain ⟨rfl, rfl, rfl⟩ := e
  exact k α H Xt.refl ok σ en
theorem xs_stuck : PS X st (trS X.K Γ .stuck) := ps_w ps_never fun D σ H ⟨α, env, S, o, env', S', ok, en, e, k⟩ => by simp [ex] at e
theorem xs_drop (he : PE X e (tr X.K Γ ce)) (hs : swapsWith e none pos.line X.env = pure false := by rfl) : PS X (.Expr e pos) (trS X.K Γ (.drop ce)) := ps_w (ps_expr he hs) fun D σ H ⟨α, env, S, o, env', S', ok, en, e, k⟩ => by
  simp only [ex, Option.map_eq_some_iff, Prod.mk.injEq] at e
  obtain ⟨⟨d, S1⟩, e1, rfl, rfl, rfl⟩ := e
  exact ⟨α, env, S, d, S1, ok, en, e1, fun α1 H1 v x1 ok1 r1 => k α1 H1 x1 ok1 σ (en.mono x1)⟩
theorem xs_ret (he : PE X e (tr X.K Γ ce)) : PS X (.Return (some e) pos) (trS X.K Γ (.ret ce)) := ps_w (ps_ret he) fun D σ H ⟨α, env, S, o, env', S', ok, en, e, k⟩ => by
  simp only [ex, Option.map_eq_some_iff, Prod.mk.injEq] at e
  obtain ⟨⟨d, S1⟩, e1, rfl, rfl, rfl⟩ := e
  exact ⟨α, env, S, d, S1, ok, en, e1, fun α1 H1 v x1 ok1 r1 => k α1 H1 x1 ok1 v r1⟩
theorem xs_retN : PS X (.Return none pos) (trS X.K Γ .retN) := ps_w ps_retN fun D σ H ⟨α, env, S, o, env', S', ok, en, e, k⟩ => by
  simp only [ex, Option.some.injEq, Prod.mk.injEq] at e
  obtain ⟨rfl, rfl, rfl⟩ := e
  exact k α H Xt.refl ok _ .non
theorem xs_if {c : Expr} (hc : PT X c (trT X.K Γ ce)) (ha : PSs X a (trS X.K Γ c1)) (hb : PSs X b (trS X.K Γ c2)) : PS X (.If c a b pos) (trS X.K Γ (.ite ce c1 c2)) :=
  ps_w (ps_if hc ha hb) fun D σ H ⟨α, env, S, o, env', S', ok, en, e, k⟩ => by
    simp only [ex, Option.bind_eq_some_iff] at e
    obtain ⟨⟨t, S1⟩, e1, e2⟩ := e
    refine ⟨α, env, S, t, S1, ok, en, e1, fun α1 H1 x1 ok1 => ?_⟩
    cases t with
    | true =>
      rw [if_pos rfl] at e2 ⊢
      exact ⟨α1, env, S1, o, env', S', ok1, en.mono x1, e2, fun α2 H2 x2 ok2 => k α2 H2 (x1.trans x2) ok2⟩
    | false =>
      rw [if_neg Bool.false_ne_true] at e2 ⊢
      exact ⟨α1, env, S1, o, env', S', ok1, en.mono x1, e2, fun α2 H2 x2 ok2 => k α2 H2 (x1.trans x2) ok2⟩
theorem xs_asg (he : PE X e (tr X.K Γ ce)) (hg : PG X tg (trG X.K g)) (hs : swapsWithSole [tg] e pos.line X.env = pure false := by rfl) (hw : swappedStores [tg] e X.env = pure none := by rfl)
    (h1 : (assignEach [tg] X.env).map (·.2) = [assign tg X.env] := by rfl) : PS X (.Assign [tg] e pos) (trS X.K Γ (.asg g ce)) :=
  ps_w (ps_asg he hg hs hw h1) fun D σ H ⟨α, env, S, o, env', S', ok, en, e, k⟩ => by
    simp only [ex, Option.bind_eq_some_iff, Option.map_eq_some_iff, Prod.mk.injEq] at e
    obtain ⟨⟨d, S1⟩, e1, env1, e2, rfl, rfl, rfl⟩ := e
    exact ⟨α, env, S, d, S1, ok, en, e1, fun α1 H1 v x1 ok1 r1 => ⟨α1, env, d, env1, r1, en.mono x1, e2, fun σ' en' _ => k α1 H1 x1 ok1 σ' en'⟩⟩
theorem xs_set (i : Nat) {x : Str} {pos' : Pos} (hN : X.N.Nodup) (he : PE X e (tr X.K Γ ce)) (hi : X.N[i]? = some x := by rfl) (hx : Loc X.env.scope x := by first | exact Or.inl rfl | exact Or.inr rfl) (hs : swapsWith e (some (.Name x pos')) pos.line X.env = pure false := by rfl) (hf : X.fn x = true ∨ X.env.scope.names.lookup x = some .local := by first | exact .inl rfl | exact .inr rfl | assumption) :
    PS X (.Assign [.Name x pos'] e pos) (trS X.K Γ (.asg (.name i) ce)) :=
  ps_w (ps_set hN hi hx he hs hf) fun D σ H ⟨α, env, S, o, env', S', ok, en, e, k⟩ => by
    simp only [ex, Option.bind_eq_some_iff, Option.map_eq_some_iff, Prod.mk.injEq, asgG, Option.some.injEq] at e
    obtain ⟨⟨d, S1⟩, e1, env1, rfl, rfl, rfl, rfl⟩ := e
    exact ⟨α, env, S, d, S1, ok, en, e1, fun α1 H1 v x1 ok1 r1 => k α1 H1 x1 ok1 _ ((en.mono x1).set i r1)⟩
def rSet (K : PySem.W.Frag) : TSet := fun o i v H Q => ∃ α S d1 d2 d3 S', Ok K α S H ∧ Rp K α H d1 o ∧ Rp K α H d2 i ∧ Rp K α H d3 v ∧ setD d1 d2 d3 S = some S' ∧ ∀ α' H', Xt K α H α' H' → Ok K α' S' H' → Q H'
theorem p_set : PSet X (rSet X.K) := by
  intro pins s σ H o i v ov iv u Q I ro ri rv ⟨α, S, d1, d2, d3, S', ok, r1, r2, r3, e, k⟩
  cases d1 with
  | ref kk =>
    cases d2 with
    | int j =>
      simp only [setD] at e
      split at e
      · rename_i xs e1
        simp only [Option.map_eq_some_iff] at e
        obtain ⟨m, e2, rfl⟩ := e
        obtain ⟨p, vs, rfl, e3, e4, e5⟩ := ok.lst e1 r1
        cases r2
        exact set_list pins s σ H _ _ v ov iv u Q I ro ri rv ⟨p, vs, j, m, rfl, rfl, e4, by rw [e5.len]; exact e2, k α _ (Xt.write e4) (ok.write e3 e4 (o := .lst (xs.set m d3)) (u := .lst (vs.set m v)) (e5.set m r3))⟩
      · cases e
    | _ => simp [setD] at e
  | _ => simp [setD] at e
theorem xs_setix {o i : Expr} {co ci : E} {p : Pos} (he : PE X e (tr X.K Γ ce)) (ho : PE X o (tr X.K Γ co)) (hi : PE X i (tr X.K Γ ci)) (hs : swapsWithSole [.Subscript o i p] e pos.line X.env = pure false := by rfl) (hw : swappedStores [.Subscript o i p] e X.env = pure none := by rfl)
    (h1 : (assignEach [.Subscript o i p] X.env).map (·.2) = [assign (.Subscript o i p) X.env] := by rfl)
    (ha : ∀ v, assign (.Subscript o i p) X.env v = (do
      let ov ← holding [v] (eval o X.env)
      let iv ← holding [v, ov] (eval i X.env)
      standAt p
      holding [v, ov, iv] (setItem ov iv v)
      release [v, ov, iv] []) := by intro _; rfl) : PS X (.Assign [.Subscript o i p] e pos) (trS X.K Γ (.setix co ci ce)) :=
  ps_w (ps_asg he (pg_sub ho hi p_set ha) hs hw h1) fun D σ H ⟨α, env, S, oo, env', S', ok, en, e, k⟩ => by
    simp only [ex, Option.bind_eq_some_iff, Option.map_eq_some_iff, Prod.mk.injEq] at e
    obtain ⟨⟨d, S1⟩, e1, ⟨d2, S2⟩, e2, ⟨d3, S3⟩, e3, S4, e4, rfl, rfl, rfl⟩ := e
    exact ⟨α, env, S, d, S1, ok, en, e1, fun α1 H1 v x1 ok1 r1 => ⟨α1, env, S1, d2, S2, ok1, en.mono x1, e2, fun α2 H2 v2 x2 ok2 r2 => ⟨α2, env, S2, d3, S3, ok2, en.mono (x1.trans x2), e3, fun α3 H3 v3 x3 ok3 r3 =>
      ⟨α3, S3, d2, d3, d, S4, ok3, r2.mono x3, r3, r1.mono (x2.trans x3), e4, fun α4 H4 x4 ok4 => k α4 H4 (x1.trans (x2.trans (x3.trans x4))) ok4 σ (en.mono (x1.trans (x2.trans (x3.trans x4))))⟩⟩⟩⟩
theorem xs_for {k : Ik} {iter : Expr} {body : List Stmt} (hp : PassesOwn (model X.prog X.w) X.A X.env X.xe) (hc : X.calm = true) (hi : PI X tg iter (trI X.K Γ k cs)) (hg : PG X tg (trG X.K g)) (hb : PSs X body (trS X.K Γ c1))
    (hs : ∀ x, foldedSetIterable iter X.env x = pure x := by intro _; rfl) : PS X (.For tg iter body [] pos) (trS X.K Γ (.for_ k cs g c1)) :=
  ps_w (ps_for hp hc hi hg hb hs) fun D σ H ⟨α, env, S, o, env', S', ok, en, e, kn⟩ => by
    simp only [ex, Option.bind_eq_some_iff] at e
    obtain ⟨⟨d1, S1⟩, e1, ds, e2, its, e3, e4⟩ := e
    cases argsOf_some e2
    refine ⟨α, env, S, ds, S1, its, ok, en, e1, e3, fun α1 H1 J G Y x1 ok1 w hG hY => ?_⟩
    refine for_it w (fun i σ2 H2 => ∃ α2 env2 S2, Ok X.K α2 S2 H2 ∧ En X.K α2 H2 env2 σ2 ∧ Xt X.K α1 H1 α2 H2 ∧ items k ds S2 = some its ∧
      loopS (fun d env1 S1' => (asgG g d env1).bind fun env2 => ex Γ c1 env2 S1') (fun S1' => items k ds S1' = some its) (its.drop i) env2 S2 = some (o, env', S')) ⟨α1, env, S1, ok1, en.mono x1, Xt.refl, e3, e4⟩ ?_ ?_ ?_
    · rintro i σ2 H2 hi ⟨α2, env2, S2, ok2, en2, x2, it2, _⟩
      exact hG α2 S2 H2 x2 ok2 it2
    · rintro i x σ2 H2 H3 hi ⟨α2, env2, S2, ok2, en2, x2, it2, lp⟩ y
      obtain ⟨dx, q1, x3, ok3, r3⟩ := hY i α2 S2 H2 x H3 x2 ok2 it2 hi y
      have hdrop : its.drop i = dx :: its.drop (i + 1) := by
        rw [List.drop_eq_getElem_cons hi]
        rw [List.getElem?_eq_getElem hi] at q1
        rw [Option.some.inj q1]
      rw [hdrop] at lp
      simp only [loopS, Option.bind_eq_some_iff] at lp
      obtain ⟨⟨o3, env3, S3⟩, ⟨env4, a1, f1⟩, lp⟩ := lp
      refine ⟨α2, env2, dx, env4, r3, en2.mono x3, a1, fun σ4 en4 _ => ⟨α2, env4, S2, o3, env3, S3, ok3, en4, f1, fun α5 H5 x5 ok5 => ?_⟩⟩
      have xx := x1.trans (x2.trans (x3.trans x5))
      cases o3 with
      | nx =>
        simp only at lp
        split at lp
        · rename_i st4
          exact fun σ5 en5 => ⟨α5, env3, S3, ok5, en5, x2.trans (x3.trans x5), st4, lp⟩
        · cases lp
      | cont =>
        simp only at lp
        split at lp
        · rename_i st4
          exact fun σ5 en5 => ⟨α5, env3, S3, ok5, en5, x2.trans (x3.trans x5), st4, lp⟩
        · cases lp
      | brk =>
        simp only [Option.some.injEq, Prod.mk.injEq] at lp
        obtain ⟨rfl, rfl, rfl⟩ := lp
        exact kn α5 H5 xx ok5
      | ret d =>
        simp only [Option.some.injEq, Prod.mk.injEq] at lp
        obtain ⟨rfl, rfl, rfl⟩ := lp
        exact kn α5 H5 xx ok5
    · rintro σ2 H2 ⟨α2, env2, S2, ok2, en2, x2, it2, lp⟩
      rw [List.drop_length] at lp
      simp only [loopS, Option.some.injEq, Prod.mk.injEq] at lp
      obtain ⟨rfl, rfl, rfl⟩ := lp
      exact kn α2 H2 (x1.trans x2) ok2 σ2 en2
end

/-! ### a def -/
section
variable {P : Program} {w : World} {K : PySem.W.Frag} {mg : Str → Option Value} {base : Heap}
theorem start_En {α : List Addr} {H : Hp} {ds : List D} {vs : List V} (r : Rps K α H ds vs) (N : List Str) (m : Nat) (hm : N.length = m) : En K α H (ds.map some ++ List.replicate (m - ds.length) none) (L2.start N vs) := by
  refine ⟨by simp [L2.start, r.len, hm], fun i d h => ?_⟩
  unfold L2.start
  by_cases hi : i < ds.length
  · rw [List.getElem?_append_left (by simpa using hi), List.getElem?_map] at h
    rw [List.getElem?_eq_getElem hi] at h
    obtain ⟨v, h1, h2⟩ := r.get (List.getElem?_eq_getElem hi)
    simp only [Option.map_some, Option.some.injEq] at h
    subst h
    exact ⟨v, by rw [List.getElem?_append_left (by rw [List.length_map, r.len]; exact hi), List.getElem?_map, h1]; rfl, h2⟩
  · rw [List.getElem?_append_right (by simpa using hi), List.getElem?_replicate] at h
    split at h <;> cases h
theorem run_succ {T : Nat → Option Fd} {n f : Nat} {ds : List D} {S : Hd} {r : D × Hd} {F : Fd} (hT : T f = some F) (h : run T (n + 1) f ds S = some r) :
    ds.length = F.np ∧ outD (ex (run T n) F.body (ds.map some ++ List.replicate (F.m - ds.length) none) S) = some r := by
  simp only [run_step, hT, Option.bind_some] at h
  split at h
  · exact ⟨by assumption, h⟩
  · cases h
theorem fn_okA {T : Nat → Option Fd} {n f : Nat} {x : Str} {ps N : List Str} {st : Stmt} {fa : Addr} {fd : FuncData} {F : Fd} (hF : FunA K x st fa fd) (S : FnScope N ps (defScope st)) (hT : T f = some F) (hnp : ps.length = F.np) (hm : N.length = F.m)
    (der : ∀ (cdv : Value) (A : Around) (outer : List Env) (s : Shared) (H : Hp) (E : XK), RoomG n (A.deeper (PyProof.Rows.envOfC x (defScope st) s.heap.objs.size fa cdv)) →
      PSs (cxOf CX0 P w K mg base N x (defScope st) fa cdv A outer s H E).nox (defBody st) (trS K (run T n) F.body)) :
    FnG P w K mg base (n + 1) fa fd ps (spF K (run T (n + 1)) f) := by
  refine fnG_of hF S (fun vs H Q E h => ?_) fun cdv A outer s H vs Q E hr h => ?_
  · obtain ⟨α, S0, ds, d, S', ok, rs, e, _⟩ := h
    rw [rs.len, (run_succ hT e).1, hnp]
  · obtain ⟨α, S0, ds, d, S', ok, rs, e, k⟩ := h
    refine ⟨_, der cdv A outer s H E hr, ?_⟩
    have h2 := (run_succ hT e).2
    unfold outD at h2
    simp only [Option.bind_eq_some_iff] at h2
    obtain ⟨⟨o, env', S1⟩, e1, e2⟩ := h2
    refine ⟨α, _, S0, o, env', S1, ok, start_En rs N F.m hm, e1, fun α1 H1 x1 ok1 => ?_⟩
    cases o with
    | nx =>
      simp only [Option.some.injEq, Prod.mk.injEq] at e2
      obtain ⟨rfl, rfl⟩ := e2
      exact fun σ' _ => k α1 H1 _ x1 ok1 .non
    | ret d' =>
      simp only [Option.some.injEq, Prod.mk.injEq] at e2
      obtain ⟨rfl, rfl⟩ := e2
      exact fun v r => k α1 H1 v x1 ok1 r
    | _ => cases e2
theorem fn_ok {T : Nat → Option Fd} {n f : Nat} {x : Str} {ps N : List Str} {st : Stmt} {fa : Addr} {fd : FuncData} {F : Fd} (hF : Fun K x x st fa fd) (S : FnScope N ps (defScope st)) (hT : T f = some F) (hnp : ps.length = F.np) (hm : N.length = F.m)
    (der : ∀ (cdv : Value) (A : Around) (outer : List Env) (s : Shared) (H : Hp) (E : XK), RoomG n (A.deeper (PyProof.Rows.envOfC x (defScope st) s.heap.objs.size fa cdv)) →
      PSs (cxOf CX0 P w K mg base N x (defScope st) fa cdv A outer s H E).nox (defBody st) (trS K (run T n) F.body)) :
    FnG P w K mg base (n + 1) fa fd ps (spF K (run T (n + 1)) f) := fn_okA (fun_A hF) S hT hnp hm der
theorem fn_ok0A {T : Nat → Option Fd} {f : Nat} {x : Str} {ps N : List Str} {st : Stmt} {fa : Addr} {fd : FuncData} (hF : FunA K x st fa fd) (S : FnScope N ps (defScope st)) : FnG P w K mg base 0 fa fd ps (spF K (run T 0) f) := by
  have no : ∀ vs H Q E, ¬ spF K (run T 0) f vs H Q E := fun vs H Q E ⟨α, S0, ds, d, S', ok, rs, e, _⟩ => by simp [run_zero] at e
  exact ⟨fun vs H Q E h => absurd h (no vs H Q E), fun _ _ _ _ h => absurd h (no _ _ _ _)⟩
theorem fn_ok0 {T : Nat → Option Fd} {f : Nat} {x : Str} {ps N : List Str} {st : Stmt} {fa : Addr} {fd : FuncData} (hF : Fun K x x st fa fd) (S : FnScope N ps (defScope st)) : FnG P w K mg base 0 fa fd ps (spF K (run T 0) f) := fn_ok0A (fun_A hF) S
end
end Ix

namespace Ix
open PySem PySem.Spec PyProof.Rows L2
/-! ### enumerate over a tuple -/
/-- the tuple at a, each item beside its number in a new pair -/
def ItnT (K : PySem.W.Frag) (a : Addr) : It where
  go := fun i H => ∃ (vs : List V) (v : V), SqT K H a vs ∧ vs[i]? = some v
  yld := fun i H u H' => ∃ p v, u = .ref p ∧ H p = none ∧ H' = upd H p (.tup [.int (i : Nat), v]) ∧ ∀ vs, SqT K H a vs → vs[i]? = some v
  stop := fun i H => ∃ vs : List V, SqT K H a vs ∧ vs.length ≤ i
def enSt (a e it : Addr) (i : Nat) (h : Heap) : Prop := (∃ last, IsEnum h e it ((i : Nat) : Int) last) ∧ h.IsTupleIter it a i ∧ e ≠ it ∧ e ≠ a ∧ a ≠ it
theorem turn_numT {prog : Program} {wd : World} {F : PySem.W.Frag} {ts : List Expr} {j : Nat} {tp : Pos} (a e it : Addr) :
    Turn prog wd F (.Tuple ts j tp) (ItnT F a) [e, it] e (enSt a e it) where
  mem := List.mem_cons_self
  obj := by
    rintro i h ⟨⟨last, en⟩, ⟨o, ho, hc, hd⟩, _⟩ b hb
    rcases List.mem_cons.mp hb with z | z
    · subst z
      exact ⟨_, en, fun v q => nomatch q⟩
    · rw [List.mem_singleton.mp z]
      exact ⟨o, ho, fun v q => by rw [hd] at q; cases q⟩
  keep := by
    rintro i h h' ⟨⟨last, en⟩, ti, r⟩ k
    exact ⟨⟨last, k e List.mem_cons_self _ en⟩, ti.at fun o q => k it (by simp) o q, r⟩
  item := by
    intro Y hP hw hK hc i pins s σ H E I hf st hg
    subst hP hw hK
    obtain ⟨⟨last, en⟩, ti, n1, n2, n3⟩ := st
    obtain ⟨vs, v, sq, hv⟩ := hg
    obtain ⟨its, rv, p, _⟩ := I.tuple sq
    obtain ⟨u, hu, ru⟩ := rv.get hv
    have le : e < s.heap.objs.size := Heap.lt_size en
    have li : it < s.heap.objs.size := by
      obtain ⟨_, q, _⟩ := ti
      exact Heap.lt_size q
    have hi : i < its.toArray.size := by
      have := (List.getElem?_eq_some_iff.mp hu).1
      simpa using this
    have none1 : Y.A.in1.handled = none := I.ok.hd hc
    refine wpAny_pyNext_enum_itemD (Draws.tuple none1 it a n3 its.toArray) en ⟨ti, p⟩ hi n1 (by simp [n1, n2]) fun x h' tk hx ho hit hT hsz hk => ?_
    have ex : x = u := by
      have : its[i]? = some x := by simpa using hx
      rw [hu] at this
      exact (Option.some.inj this).symm
    subst ex
    refine ⟨_, rfl, wpAny_letOwnedTupleGo_enum (s := { s with heap := h', toks := tk + 1 }) ho fun h2 en2 sb => ?_⟩
    have hT2 : h2.get? s.heap.objs.size = some { cls := .type "tuple", data := .seq #[.int i tk, x] } := (sb.2 _ (Nat.ne_of_gt le)).trans hT
    have new : ObjOk Y.prog Y.w (upd H s.heap.objs.size (.tup [.int (i : Nat), v])) h2 s.heap.objs.size (.tup [.int (i : Nat), v]) := by
      refine ⟨?_, [.int i tk, x], .cons ⟨_, rfl⟩ (.cons ru .nil), ⟨_, hT2, rfl, _, rfl⟩⟩
      show 2 ≤ sizeLine
      decide
    have keepAll : ∀ b o, b ∉ [e, it] → s.heap.get? b = some o → h2.get? b = some o := by
      intro b o hb q
      have b1 : b ≠ e := fun z => hb (by simp [z])
      have b2 : b ≠ it := fun z => hb (by simp [z])
      exact (sb.2 b b1).trans (hk b o b1 b2 q)
    have I1 : Inv Y pins σ (upd H s.heap.objs.size (.tup [.int (i : Nat), v])) { s with heap := h2, toks := tk + 1 } :=
      I.turnedNew (t' := tk + 1) (ch := [e, it]) (fun b o hb q => keepAll b o hb q) hf (Nat.le_refl _) new
    refine ⟨.ref s.heap.objs.size, _, I1, rfl, ⟨_, v, rfl, I.hok.fresh (Nat.le_refl _), rfl, fun ws hw2 => by rw [I.tuple_inj hw2 sq]; exact hv⟩, ⟨⟨x, ?_⟩, hit.1.at fun o q => (sb.2 it (Ne.symm n1)).trans q, n1, n2, n3⟩, ?_⟩
    · rw [show ((i + 1 : Nat) : Int) = (i : Int) + 1 by omega]
      exact en2
    · intro b hb
      have lb : b < s.heap.objs.size := by
        rcases List.mem_cons.mp hb with z | z
        · rw [z]; exact le
        · rw [List.mem_singleton.mp z]; exact li
      rw [upd_ne (Nat.ne_of_lt lb)]
      exact (hf b hb).1
  done := by
    intro Y hP hw hK hc i pins s σ H E I hf st hg
    subst hP hw hK
    obtain ⟨⟨last, en⟩, ti, n1, n2, n3⟩ := st
    obtain ⟨vs, sq, hv⟩ := hg
    obtain ⟨its, rv, p, _⟩ := I.tuple sq
    obtain ⟨f0, f1, f2, f3, f4, f5⟩ := hf it (by simp)
    have hl := rv.length
    have hT : s.TypeIs (.ref e) "enumerate" := ⟨_, en, rfl⟩
    unfold pyNext
    refine wpAny_bind (wpAny_attempt (wpAny_callSpecial?_slot (name := Str.ofString "__next__") hT F.slot_enumerate_next
      (wpAny_call_entry F.slot_enumerate_next hT F.entry_enumerate_next ?_ (F.args_enumerate_next_1 _))))
    show wpAny _ _ (field (.ref e) 2 >>= _) _ _ _
    refine wpAny_bind (wpAny_field en rfl (x := .ref it) rfl ?_)
    refine wpAny_bind (wpAny_nextOf_tuple_end (I.ok.hd hc) ti p (by simp; omega) fun h' x ex hx => ?_)
    obtain ⟨o, ho, hcl⟩ := hx
    refine wpAny_bind (wpAny_isInstance (T := "StopIteration") (b := true) ⟨o, ho, hcl⟩ isSubtype_stop ?_)
    exact wpAny_pure ⟨rfl, I.turned (t' := s.toks) (fun b o hb q => ex b o hb q) f0 f1 f3 f4 f5⟩
  self := fun A i s Q E st h => by
    obtain ⟨⟨last, en⟩, _⟩ := st
    exact wpAny_pyIter_enum en h
/-- enumerate(v) of one argument: its two new objects -/
theorem enum_new1 {v : Value} {o : Obj} {G : Heap → Prop} (B : Begins v o G) :
    Meets (Builtin.«enumerate.__new__» ⟨[.type "enumerate", v], []⟩) (fun _ R s => G s.heap ∧
      R (.ok (.ret (.ref (s.heap.push o).objs.size)))
        { s with heap := (s.heap.push o).push { cls := .type "enumerate", data := .fields #[.none, .bool false, .ref s.heap.objs.size, rawInt 0, .none, .none] } }) :=
  .of_wp fun prog w A R s h => by
    obtain ⟨hp, g, d, tk, os⟩ := s
    obtain ⟨g1, h⟩ := h
    have hsub := sub_enumerate
    have it1 : ∀ {A' : Around} {E : Value → Shared → Prop} {Q : Value → Shared → Prop}, Q (.ref hp.objs.size) ⟨hp.push o, g, d, tk, os⟩ →
        wpAny (model prog w) A' (pyIter v) Q E ⟨hp, g, d, tk, os⟩ := fun q => B.iter prog w _ _ ⟨hp, g, d, tk, os⟩ _ g1 q
    wp_walk using it1
    refine wpAny_stack_any fun st => wpAny_pure ?_
    split
    · rename_i c _ _ _ _ _
      cases (c == Value.type "enumerate") <;> (wp_walk using it1; exact ⟨_, rfl, h⟩)
    · wp_walk using it1
      exact ⟨_, rfl, h⟩
theorem call_enum1 {prog : Program} {w : World} {A : Around} {E : Value → Shared → Prop} {s : Shared} {v : Value} {o : Obj} {G : Heap → Prop} {Q : Value → Shared → Prop} (B : Begins v o G) (g1 : G s.heap)
    (h : ∀ h', IsEnum h' (s.heap.objs.size + 1) s.heap.objs.size 0 .none → h'.get? s.heap.objs.size = some o → h'.objs.size = s.heap.objs.size + 2 →
      (∀ b z, s.heap.get? b = some z → h'.get? b = some z) → Q (.ref (s.heap.objs.size + 1)) { s with heap := h' }) :
    wpAny (model prog w) A (call (.type "enumerate") [v]) Q E s := by
  refine callType_new F.called_enumerate (by decide) (F.typeCall_enumerate_1 _) (F.newCall_enumerate_1 _) (fun obj => F.args_object_init_2 obj _)
    F.entry_enumerate_new (enum_new1 B) ⟨g1, ?_⟩
  have sz : (s.heap.push o).objs.size = s.heap.objs.size + 1 := Heap.size_push ..
  show _ ∧ _
  rw [sz]
  have en : IsEnum ((s.heap.push o).push { cls := .type "enumerate", data := .fields #[.none, .bool false, .ref s.heap.objs.size, rawInt 0, .none, .none] })
      (s.heap.objs.size + 1) s.heap.objs.size 0 .none := by
    have q := Heap.get?_push_size (s.heap.push o) (o := { cls := .type "enumerate", data := .fields #[.none, .bool false, .ref s.heap.objs.size, rawInt 0, .none, .none] }) rfl
    rw [sz] at q
    exact q
  refine ⟨⟨_, en, rfl⟩, h _ en (Heap.get?_push_of_some _ (Heap.get?_push_size _ B.free)) (by rw [Heap.size_push, sz]) fun b z q => ?_⟩
  exact Heap.get?_push_of_some _ (Heap.get?_push_of_some _ q)
def iNum (K : PySem.W.Frag) (ta : TA) : TI := fun σ H R => ta σ H fun us H1 => ∃ a vs, us = [.ref a] ∧ SqT K H1 a vs ∧ R (ItnT K a) H1
theorem pi_enumT {X : Cx} {e : Expr} {ta : TA} {p pos tp : Pos} {ts : List Expr} {j : Nat} (hg : Gl X "enumerate") (hm : X.mg "enumerate" = none) (ha : PA X [e] ta) (hs : starEach [e] X.env = [(false, eval e X.env)] := by rfl) :
    PI X (.Tuple ts j tp) (.Call (.Name "enumerate" p) [e] [] pos) (iNum X.K ta) := by
  refine ⟨fun pins s σ H R I h => ?_⟩
  refine Call_ (ld_blt I hg hm boot_enumerate (PyProof.Rows.callWith_type1 (thn (ha.run pos pins s σ H _ I h) fun us s1 ⟨vs, H1, I1, r1, a, xs, q0, sq, q⟩ => ?_) hs rfl))
  subst q0
  cases r1 with
  | cons r rr =>
    cases rr
    cases r
    obtain ⟨its, rv, p', _⟩ := I1.tuple sq
    refine call_enum1 (begins_tuple a its.toArray) p' fun h' en hit hsz hk => wpAny_pyIter_enum en ?_
    have I2 : Inv X pins σ H1 { s1 with heap := h' } := I1.kept (t' := s1.toks) hk
    have la : a < s1.heap.objs.size := by
      obtain ⟨oa, ho, _⟩ := id p'
      exact Heap.lt_size ho
    refine ⟨s1.heap.objs.size + 1, [s1.heap.objs.size + 1, s1.heap.objs.size], _, _, H1, rfl, I2, turn_numT a (s1.heap.objs.size + 1) s1.heap.objs.size, ⟨⟨.none, en⟩, ⟨_, hit, rfl, rfl⟩, Nat.succ_ne_self _, Nat.ne_of_gt (Nat.lt_succ_of_lt la), Nat.ne_of_lt la⟩, fun b hb => ?_, q⟩
    have lb : s1.heap.objs.size ≤ b := by
      rcases List.mem_cons.mp hb with z | z
      · rw [z]; exact Nat.le_succ _
      · rw [List.mem_singleton.mp z]; exact Nat.le_refl _
    exact I1.fpOk lb (I1.hok.fresh lb)
end Ix

namespace Ix
open PySem L2
/-! ### x += e, enumerate -/
section
variable {X : Cx} {Γ : Fs} {e : Expr} {ce : E} {pos : Pos}
theorem w_aug {i : Nat} {o : Bo} {D : Ends} {σ : L2.St} {H : Hp} (f : Int → Int → Int) (hf : ∀ env S a b S1, env[i]? = some (some (.int a)) → ev Γ ce env S = some (.int b, S1) → ex Γ (.aug i o ce) env S = some (.nx, env.set i (some (.int (f a b))), S1))
    (ho : o = .add ∨ o = .sub) (h : trS X.K Γ (.aug i o ce) D σ H) : tAug i (tr X.K Γ ce) (ipI f) D σ H := by
  obtain ⟨α, env, S, out, env', S', ok, en, e1, k⟩ := h
  have e0 := e1
  simp only [ex] at e1
  split at e1
  · rename_i a ea
    simp only [Option.bind_eq_some_iff] at e1
    obtain ⟨⟨d, S1⟩, e2, e3⟩ := e1
    have hd : ∃ b, d = .int b := by
      rcases ho with rfl | rfl <;> (cases d <;> simp at e3; exact ⟨_, rfl⟩)
    obtain ⟨b, rfl⟩ := hd
    rw [hf env S a b S1 ea e2] at e0
    simp only [Option.some.injEq, Prod.mk.injEq] at e0
    obtain ⟨rfl, rfl, rfl⟩ := e0
    obtain ⟨v, hv, rv⟩ := en.at_ i _ ea
    cases rv
    refine ⟨_, hv, α, env, S, .int b, S1, ok, en, e2, fun α1 H1 w x1 ok1 r1 => ?_⟩
    cases r1
    exact ⟨a, b, rfl, rfl, k α1 H1 x1 ok1 _ ((en.mono x1).set i (.int _))⟩
  · cases e1
theorem xs_aug_add (i : Nat) {x : Str} {p : Pos} (hN : X.N.Nodup) (he : PE X e (tr X.K Γ ce)) (hi : X.N[i]? = some x := by rfl) (hx : Loc X.env.scope x := by first | exact Or.inl rfl | exact Or.inr rfl)
    (hf : X.fn x = true ∨ X.env.scope.names.lookup x = some .local := by first | exact .inl rfl | exact .inr rfl | assumption) : PS X (.AugAssign (.Name x p) .Add e pos) (trS X.K Γ (.aug i .add ce)) :=
  ps_w (ps_aug hN hi hx he ip_add hf) fun D σ H h => w_aug (fun a b => a + b) (fun env S a b S1 h1 h2 => by simp only [ex, h1, h2, Option.bind_some]) (.inl rfl) h
theorem xs_aug_sub (i : Nat) {x : Str} {p : Pos} (hN : X.N.Nodup) (he : PE X e (tr X.K Γ ce)) (hi : X.N[i]? = some x := by rfl) (hx : Loc X.env.scope x := by first | exact Or.inl rfl | exact Or.inr rfl)
    (hf : X.fn x = true ∨ X.env.scope.names.lookup x = some .local := by first | exact .inl rfl | exact .inr rfl | assumption) : PS X (.AugAssign (.Name x p) .Sub e pos) (trS X.K Γ (.aug i .sub ce)) :=
  ps_w (ps_aug hN hi hx he ip_sub hf) fun D σ H h => w_aug (fun a b => a - b) (fun env S a b S1 h1 h2 => by simp only [ex, h1, h2, Option.bind_some]) (.inr rfl) h
end
section
variable {X : Cx} {Γ : Fs} {a b : Expr} {cs : E} {pos : Pos}
/-- x, y = a, b -/
theorem xs_par {i j : Nat} {x y : Str} {px py pt : Pos} {kt k2 pt2} (hc : X.calm = true) (hN : X.N.Nodup) (hi : X.N[i]? = some x) (hj : X.N[j]? = some y) (hij : i ≠ j)
    (hx : X.env.scope.names.lookup x = some .local) (hy : X.env.scope.names.lookup y = some .local) (ha : PA X [a, b] (trA X.K Γ cs))
    (hw : swappedStores [.Tuple [.Name x px, .Name y py] kt pt] (.Tuple [a, b] k2 pt2) X.env = pure (some [x, y]) := by rfl)
    (hs : swapsWithSole [.Tuple [.Name x px, .Name y py] kt pt] (.Tuple [a, b] k2 pt2) pos.line X.env = pure false := by rfl) :
    PS X (.Assign [.Tuple [.Name x px, .Name y py] kt pt] (.Tuple [a, b] k2 pt2) pos) (trS X.K Γ (.asg (.tup (.cons (.name i) (.cons (.name j) .nil))) (.tup cs))) :=
  ps_w (ps_par hc hN hi hj hij hx hy ha hw hs) fun D σ H ⟨α, env, S, o, env', S', ok, en, e1, k⟩ => by
    simp only [ex, ev, Option.bind_eq_some_iff, Option.map_eq_some_iff, Prod.mk.injEq] at e1
    obtain ⟨⟨d, S1⟩, ⟨⟨d2, S2⟩, e2, ds, e3, e4⟩, env1, e5, rfl, rfl, rfl⟩ := e1
    cases argsOf_some e3
    split at e4
    · simp only [Option.some.injEq, Prod.mk.injEq] at e4
      obtain ⟨rfl, rfl⟩ := e4
      refine ⟨α, env, S, ds, S2, ok, en, e2, fun α1 H1 vs x1 ok1 r1 => ?_⟩
      match ds, e5, r1 with
      | [d1, d2], e5, r1 =>
        obtain ⟨v, u, rfl, r2, r3⟩ := r1.two'
        simp only [asgG, Option.bind_some, Option.some.injEq] at e5
        subst e5
        exact ⟨v, u, rfl, k α1 H1 x1 ok1 _ (((en.mono x1).set i r2).set j r3)⟩
      | [], e5, r1 => simp [asgG] at e5
      | [_], e5, r1 => simp [asgG] at e5
      | _ :: _ :: _ :: _, e5, r1 => simp [asgG] at e5
    · cases e4
end
section
variable {K : PySem.W.Frag} {a : Addr} {n : Nat}
theorem walk_numL : Walk (Ite K a) n (fun H => ∃ vs, SqL K H a vs ∧ vs.length = n) (fun i H v H' => ∃ T x, v = .ref T ∧ H T = none ∧ H' = upd H T (.tup [.int (i : Nat), x]) ∧ ∀ xs, SqL K H a xs → xs[i]? = some x) :=
  ⟨fun i _ hi ⟨vs, q, l⟩ => ⟨vs, vs[i]'(by omega), q, by simp⟩, fun _ ⟨vs, q, l⟩ => ⟨vs, q, by omega⟩, fun _ _ _ _ _ _ y => y⟩
theorem walk_numT : Walk (ItnT K a) n (fun H => ∃ vs, SqT K H a vs ∧ vs.length = n) (fun i H v H' => ∃ T x, v = .ref T ∧ H T = none ∧ H' = upd H T (.tup [.int (i : Nat), x]) ∧ ∀ xs, SqT K H a xs → xs[i]? = some x) :=
  ⟨fun i _ hi ⟨vs, q, l⟩ => ⟨vs, vs[i]'(by omega), q, by simp⟩, fun _ ⟨vs, q, l⟩ => ⟨vs, q, by omega⟩, fun _ _ _ _ _ _ y => y⟩
theorem num_turn {α : List Addr} {S : Hd} {H H3 : Hp} {xs : List D} {vs : List V} {v : V} {i : Nat} {T : Addr} {x : V} (ok : Ok K α S H) (r1 : Rps K α H xs vs) (e1 : v = .ref T) (hT : H T = none) (e2 : H3 = upd H T (.tup [.int (i : Nat), x]))
    (h1 : vs[i]? = some x) : ∃ d, (xs.mapIdx fun i d => D.tup [.int (i : Int), d])[i]? = some d ∧ Xt K α H α H3 ∧ Ok K α S H3 ∧ Rp K α H3 d v := by
  obtain ⟨dx, q1, q2⟩ := r1.getV h1
  subst e1 e2
  exact ⟨.tup [.int (i : Int), dx], by rw [List.getElem?_mapIdx, q1]; rfl, Xt.fresh hT, ok.fresh hT, Rp.newT hT (.cons (.int _) (.cons q2 .nil))⟩
end
section
variable {X : Cx} {Γ : Fs} {e : Expr} {cs : E} {pos p : Pos}
theorem num_items {S : Hd} {x : D} {its : List D} (h : items .enum [x] S = some its) : ∃ xs, seqOf S x = some xs ∧ its = xs.mapIdx fun i d => .tup [.int (i : Int), d] := by
  simp only [items, Option.map_eq_some_iff] at h
  obtain ⟨xs, h1, h2⟩ := h
  exact ⟨xs, h1, h2.symm⟩
theorem xi_enum {elts : List Expr} {kk : Nat} {tpos : Pos} (hg : Gl X "enumerate") (hm : X.mg "enumerate" = none) (ha : PA X [e] (trA X.K Γ cs)) (hs : starEach [e] X.env = [(false, eval e X.env)] := by rfl) :
    PI X (.Tuple elts kk tpos) (.Call (.Name "enumerate" p) [e] [] pos) (trI X.K Γ .enum cs) := by
  refine ⟨fun pins s σ H R I ⟨α, env, S, ds, S', its, ok, en, e1, e3, k⟩ => ?_⟩
  match ds, e1, e3 with
  | [x], e1, e3 =>
    obtain ⟨xs, h1, ei⟩ := num_items e3
    cases hx : isTup x with
    | true =>
      refine (pi_enumT hg hm ha hs).run pins s σ H R I ⟨α, env, S, _, S', ok, en, e1, fun α1 H1 vs x1 ok1 r1 => ?_⟩
      obtain ⟨v, rfl, r2⟩ := r1.one'
      obtain ⟨a, _, rfl, _, _⟩ := seq_of ok1 r2 h1
      obtain ⟨vs, z1, q1⟩ := seq_tup ok1 r2 h1 hx
      refine ⟨a, vs, rfl, z1, k α1 H1 _ _ _ x1 ok1 walk_numT (fun α2 S2 H2 x2 ok2 e4 => ?_) fun i α2 S2 H2 w H3 x2 ok2 e4 hi ⟨T, x', f1, f2, f3, f4⟩ => ?_⟩
      · obtain ⟨xs', g1, g3⟩ := num_items e4
        obtain ⟨vs', w1, w2⟩ := seq_tup ok2 (r2.mono x2) g1 hx
        exact ⟨vs', w1, by rw [w2.len, g3, List.length_mapIdx]⟩
      · obtain ⟨xs', g1, g3⟩ := num_items e4
        obtain ⟨vs', w1, w2⟩ := seq_tup ok2 (r2.mono x2) g1 hx
        rw [g3]
        exact num_turn ok2 w2 f1 f2 f3 (f4 _ w1)
    | false =>
      refine (pi_enum hg hm ha hs).run pins s σ H R I ⟨α, env, S, _, S', ok, en, e1, fun α1 H1 vs x1 ok1 r1 => ?_⟩
      obtain ⟨v, rfl, r2⟩ := r1.one'
      obtain ⟨a, _, rfl, _, _⟩ := seq_of ok1 r2 h1
      obtain ⟨vs, z1, q1⟩ := seq_lst ok1 r2 h1 hx
      refine ⟨a, vs, rfl, z1, k α1 H1 _ _ _ x1 ok1 walk_numL (fun α2 S2 H2 x2 ok2 e4 => ?_) fun i α2 S2 H2 w H3 x2 ok2 e4 hi ⟨T, x', f1, f2, f3, f4⟩ => ?_⟩
      · obtain ⟨xs', g1, g3⟩ := num_items e4
        obtain ⟨vs', w1, w2⟩ := seq_lst ok2 (r2.mono x2) g1 hx
        exact ⟨vs', w1, by rw [w2.len, g3, List.length_mapIdx]⟩
      · obtain ⟨xs', g1, g3⟩ := num_items e4
        obtain ⟨vs', w1, w2⟩ := seq_lst ok2 (r2.mono x2) g1 hx
        rw [g3]
        exact num_turn ok2 w2 f1 f2 f3 (f4 _ w1)
  | [], e1, e3 => simp [items] at e3
  | x :: y :: _, e1, e3 => simp [items] at e3
end

/-! ### defs with keyword-only defaults -/
section
/-- a def whose keyword-only parameters have defaults (kws) -/
structure FnID (P : Program) (w : World) (K : PySem.W.Frag) (mg : Str → Option Value) (base : Heap) (Γ : Fs) (n f : Nat) (x : Str) (ps : List Str) (st : Stmt) (kws : List (Str × V)) : Prop where
  ex : ∃ (fa : Addr) (fd : FuncData), mg x = some (.ref fa) ∧ FunD K x x (defArgs st) (defBody st) (defScope st) [] kws fa fd ∧ FnG P w K mg base n fa fd ps (spF K Γ f)
def conE : List D → E
  | [] => .nil
  | d :: ds => .cons (.c d) (conE ds)
def appE (c : E) (ds : List D) : E := match c with
  | .cons a es => .cons a (appE es ds)
  | _ => conE ds
theorem consts_ev {Γ : Fs} {env : Sl} {S : Hd} : ∀ ds : List D, ev Γ (conE ds) env S = some (.tup ds, S)
  | [] => rfl
  | d :: ds => by
    simp only [conE, ev, Option.bind_some, consts_ev ds, argsOf, Option.map_some]
theorem appE_ev {Γ : Fs} {env : Sl} : ∀ {ck : E} {m : Nat} {ds : List D} {S S' : Hd} {d : D}, narg ck = some m → ev Γ (appE ck ds) env S = some (d, S') → ∃ zs, ev Γ ck env S = some (.tup zs, S') ∧ d = .tup (zs ++ ds)
  | .nil, m, ds, S, S', d, _, e => by
    simp only [appE] at e
    rw [consts_ev] at e
    simp only [Option.some.injEq, Prod.mk.injEq] at e
    obtain ⟨rfl, rfl⟩ := e
    exact ⟨[], rfl, rfl⟩
  | .cons a es, m, ds, S, S', d, h, e => by
    simp only [narg, Option.map_eq_some_iff] at h
    obtain ⟨m1, h, _⟩ := h
    simp only [appE, ev, Option.bind_eq_some_iff, Option.map_eq_some_iff, Prod.mk.injEq] at e
    obtain ⟨⟨d1, S1⟩, e1, ⟨d2, S2⟩, e2, zs, e3, rfl, rfl⟩ := e
    obtain ⟨ws, w1, w2⟩ := appE_ev h e2
    cases argsOf_some e3
    cases w2
    exact ⟨d1 :: ws, by simp only [ev, e1, w1, Option.bind_some, argsOf, Option.map_some], rfl⟩
variable {X : Cx} {Γ : Fs} {e : Expr} {es : List Expr} {cs ck : E} {pos p : Pos} {n f : Nat} {x : Str} {ps : List Str} {st : Stmt} {kws0 : List (Str × V)}
theorem kb_of {fa : Addr} {fd : FuncData} (F : FunD X.K x x (defArgs st) (defBody st) (defScope st) [] kws0 fa fd) (ks : List Str) (ms : List (Str × V)) (perm : List Nat) (m : Nat) (hk0 : kws0 ≠ []) (hms : ∀ q ∈ ms, q ∈ kws0)
    (kb : ∀ (D : Addr) (doc pm : Value) (an : Option Addr) (cdv ct : Value) (us mv ws : List Value), us.length = m → mv.length = ms.length → ws.length = ks.length →
      KwChain D ((ms.map (·.1)).zip mv) (bindArgs (PySem.W.fnOf x x (defArgs st) (defBody st) (defScope st) .none (.ref D) doc pm an cdv ct) ⟨us, ks.zip ws⟩) (ps.zip (permV perm (us ++ (ws ++ mv))))) :
    ∃ mv : List Value, KBn X.K fd ps m ks (fun us ws => permV perm (us ++ (ws ++ mv))) (fun vs zs => permV perm (vs ++ (zs ++ ms.map (·.2)))) :=
  F.kbinds0 m ks ms (fun us mv ws => permV perm (us ++ (ws ++ mv))) hk0 hms (fun r1 r2 r3 => rel_perm (r1.append (r3.append r2)) perm) kb
/-- f(e, .., k = v, ..), the keyword-only parameters ms lack -/
theorem xe_callD {kws : List Keyword} (F : FnID X.prog X.w X.K X.mg X.base Γ n f x ps st kws0) (ks : List Str) (ms : List (Str × V)) (ds0 : List D) (perm : List Nat) (m : Nat) (hk0 : kws0 ≠ []) (hms : ∀ q ∈ ms, q ∈ kws0)
    (hds : ∀ α H, Rps X.K α H ds0 (ms.map (·.2)))
    (kb : ∀ (D : Addr) (doc pm : Value) (an : Option Addr) (cdv ct : Value) (us mv ws : List Value), us.length = m → mv.length = ms.length → ws.length = ks.length →
      KwChain D ((ms.map (·.1)).zip mv) (bindArgs (PySem.W.fnOf x x (defArgs st) (defBody st) (defScope st) .none (.ref D) doc pm an cdv ct) ⟨us, ks.zip ws⟩) (ps.zip (permV perm (us ++ (ws ++ mv)))))
    (hn : narg cs = some m) (hnk : narg ck = some ks.length) (hr : RoomG n X.A) (hg : Gl X x) (ha : PA X (e :: es) (trA X.K Γ cs)) (hk : PK X kws (trA X.K Γ ck))
    (hall : (backToKw pos (keywordEach kws X.env)).all (·.1.isSome) = true := by rfl) (hks : (backToKw pos (keywordEach kws X.env)).filterMap (·.1) = ks := by rfl)
    (hdb : (x == ("__debug__" : Str)) = false := by decide) (he : starEach (e :: es) X.env = (false, eval e X.env) :: starEach es X.env := by rfl)
    (hpl : ((backTo pos (starEach (e :: es) X.env)).any (·.1) || (backToKw pos (keywordEach kws X.env)).any (·.1.isNone)) = false := by rfl) :
    PE X (.Call (.Name x p) (e :: es) kws pos) (tr X.K Γ (.callK f cs (appE ck ds0) perm)) := by
  obtain ⟨fa, fd, h1, h2, h3⟩ := F.ex
  obtain ⟨mv, hB⟩ := kb_of h2 ks ms perm m hk0 hms kb
  refine pe_w (pe_callNG (E := E0) h3 hr hg h1 h2.kp hB pass0 ha hk hall hks hdb he hpl) fun σ H Q ⟨α, env, S, d, S', ok, en, e, k⟩ => ?_
  simp only [ev, Option.bind_eq_some_iff] at e
  obtain ⟨⟨d1, S1⟩, e1, ds, e2, ⟨d2, S2⟩, e3, zs, e4, e5⟩ := e
  cases argsOf_some e2
  obtain ⟨ws0, e6, e7⟩ := appE_ev hnk e3
  cases e7
  cases argsOf_some e4
  have l1 := narg_len hn e1
  have l2 := narg_len hnk e6
  exact ⟨α, env, S, ds, S1, ok, en, e1, fun α1 H1 vs x1 ok1 r1 => ⟨α1, env, S1, ws0, S2, ok1, en.mono x1, e6, fun α2 H2 ws x2 ok2 r2 => ⟨by rw [r1.len, l1], by rw [r2.len, l2],
      α2, S2, _, d, S', ok2, ((r1.mono x2).append (r2.append (hds _ _))).perm perm, e5, fun α3 H3 v x3 ok3 r3 => k α3 H3 v (x1.trans (x2.trans x3)) ok3 r3⟩⟩⟩
/-- f(k = v, ..), the same -/
theorem xe_callD0 {kws : List Keyword} (F : FnID X.prog X.w X.K X.mg X.base Γ n f x ps st kws0) (ks : List Str) (ms : List (Str × V)) (ds0 : List D) (perm : List Nat) (hk0 : kws0 ≠ []) (hms : ∀ q ∈ ms, q ∈ kws0)
    (hds : ∀ α H, Rps X.K α H ds0 (ms.map (·.2)))
    (kb : ∀ (D : Addr) (doc pm : Value) (an : Option Addr) (cdv ct : Value) (us mv ws : List Value), us.length = 0 → mv.length = ms.length → ws.length = ks.length →
      KwChain D ((ms.map (·.1)).zip mv) (bindArgs (PySem.W.fnOf x x (defArgs st) (defBody st) (defScope st) .none (.ref D) doc pm an cdv ct) ⟨us, ks.zip ws⟩) (ps.zip (permV perm (us ++ (ws ++ mv)))))
    (hnk : narg ck = some ks.length) (hr : RoomG n X.A) (hg : Gl X x) (hk : PK X kws (trA X.K Γ ck))
    (hall : (backToKw pos (keywordEach kws X.env)).all (·.1.isSome) = true := by rfl) (hks : (backToKw pos (keywordEach kws X.env)).filterMap (·.1) = ks := by rfl)
    (hdb : (x == ("__debug__" : Str)) = false := by decide)
    (hpl : ((backTo pos (starEach [] X.env)).any (·.1) || (backToKw pos (keywordEach kws X.env)).any (·.1.isNone)) = false := by rfl) :
    PE X (.Call (.Name x p) [] kws pos) (tr X.K Γ (.callK f .nil (appE ck ds0) perm)) := by
  obtain ⟨fa, fd, h1, h2, h3⟩ := F.ex
  obtain ⟨mv, hB⟩ := kb_of h2 ks ms perm 0 hk0 hms kb
  refine ⟨fun pins s σ H Q I h => ?_⟩
  obtain ⟨α, env, S, d, S', ok, en, e, k⟩ := h
  simp only [ev, Option.bind_eq_some_iff, Option.some.injEq] at e
  obtain ⟨_, rfl, ds, e1, ⟨d2, S2⟩, e3, zs, e4, e5⟩ := e
  cases argsOf_some e1
  obtain ⟨ws0, e6, e7⟩ := appE_ev hnk e3
  cases e7
  cases argsOf_some e4
  have l2 := narg_len hnk e6
  refine wpAny_Call_Name_kw (ld_glob I hg h1 ?_ hdb)
  refine PySem.W.callWith_KW0 (h₀ := X.base) I.ok.mod.kin h2.kp hall (thn (hk.run pos pins s σ H (fun ws H2 => ws.length = ks.length ∧ spF X.K Γ f (permV perm ([] ++ (ws ++ ms.map (·.2)))) H2 Q E0) I ?_) fun ws s2 ⟨zs, H2, I2, rz, l3, q2⟩ => ⟨I2.kIn, ?_⟩) hpl
  · exact ⟨α, env, S, ws0, S2, ok, en, e6, fun α2 H2 ws x2 ok2 r2 => ⟨by rw [r2.len, l2], α2, S2, _, d, S', ok2, Rps.perm (Rps.nil.append (r2.append (hds _ _))) perm, e5, fun α3 H3 v x3 ok3 r3 => k α3 H3 v (x2.trans x3) ok3 r3⟩⟩
  · rw [hks]
    exact run_fnG h3 hr hB pass0 I2 (.nil : Vals [] []) rz rfl l3 q2
/-- a def with defaults of parameters by position -/
structure FnIP (P : Program) (w : World) (K : PySem.W.Frag) (mg : Str → Option Value) (base : Heap) (Γ : Fs) (n f : Nat) (x : Str) (ps : List Str) (st : Stmt) (dvs : List V) : Prop where
  ex : ∃ (fa : Addr) (fd : FuncData), mg x = some (.ref fa) ∧ FunD K x x (defArgs st) (defBody st) (defScope st) dvs [] fa fd ∧ FnG P w K mg base n fa fd ps (spF K Γ f)
/-- f(e, ..): m are written, the defaults behind the first j fill up -/
theorem xe_callP {dvs : List V} (F : FnIP X.prog X.w X.K X.mg X.base Γ n f x ps st dvs) (ds0 : List D) (m j : Nat) (hd0 : dvs ≠ []) (hds : ∀ α H, Rps X.K α H ds0 (dvs.drop j)) (hl : m + (dvs.length - j) = ps.length)
    (kb : ∀ (T : Addr) (kV doc pm : Value) (an : Option Addr) (cdv ct : Value) (us its : List Value), us.length = m → its.length = dvs.length →
      ∃ k, bindArgs (PySem.W.fnOf x x (defArgs st) (defBody st) (defScope st) (.ref T) kV doc pm an cdv ct) ⟨us, []⟩ = seqItems? (.ref T) >>= k ∧ k (some its.toArray) = pure (ps.zip (us ++ its.drop j)))
    (hn : narg cs = some m) (hr : RoomG n X.A) (hg : Gl X x) (ha : PA X (e :: es) (trA X.K Γ cs))
    (hdb : (x == ("__debug__" : Str)) = false := by decide) (he : starEach (e :: es) X.env = (false, eval e X.env) :: starEach es X.env := by rfl) (hpl : (backTo pos (starEach es X.env)).any (·.1) = false := by rfl) :
    PE X (.Call (.Name x p) (e :: es) [] pos) (tr X.K Γ (.call f (appE cs ds0))) := by
  obtain ⟨fa, fd, h1, h2, h3⟩ := F.ex
  obtain ⟨ds, hv, hb⟩ := h2.binds1 m j hd0 hl kb
  refine pe_w (pe_callGP (E := E0) h3 hr hg h1 h2.kp hb hv pass0 ha hdb he hpl) fun σ H Q ⟨α, env, S, d, S', ok, en, e, k⟩ => ?_
  simp only [ev, Option.bind_eq_some_iff] at e
  obtain ⟨⟨d1, S1⟩, e1, zs, e2, e3⟩ := e
  obtain ⟨ws, e4, e5⟩ := appE_ev hn e1
  cases e5
  cases argsOf_some e2
  exact ⟨α, env, S, ws, S1, ok, en, e4, fun α1 H1 vs x1 ok1 r1 => ⟨α1, S1, _, d, S', ok1, r1.append (hds _ _), e3, fun α2 H2 v x2 ok2 r2 => k α2 H2 v (x1.trans x2) ok2 r2⟩⟩
end
end Ix

namespace Ix
open PySem PySem.Spec PyProof.Rows L2
/-! ### x or y by truth; sorted of pairs; sorted(set(..)); list(range(..)) -/
section
variable {X : Cx} {Γ : Fs} {a b e : Expr} {rest es : List Expr} {ca cb ce cs : E} {pos : Pos}
theorem xe_orv (ha : PE X a (tr X.K Γ ca)) (hb : PE X (.BoolOp .Or (b :: rest) pos) (tr X.K Γ cb)) : PE X (.BoolOp .Or (a :: b :: rest) pos) (tr X.K Γ (.orv ca cb)) :=
  pe_w (pe_orT ha hb) fun σ H Q ⟨α, env, S, d, S', ok, en, e, k⟩ => by
    simp only [ev, Option.bind_eq_some_iff] at e
    obtain ⟨⟨d1, S1⟩, e1, c, e2, e3⟩ := e
    refine ⟨α, env, S, d1, S1, ok, en, e1, fun α1 H1 v1 x1 ok1 r1 => ⟨c, tru_of ok1 r1 e2, ?_⟩⟩
    cases c with
    | true =>
      simp only [if_true, Option.some.injEq, Prod.mk.injEq] at e3 ⊢
      obtain ⟨rfl, rfl⟩ := e3
      exact k α1 H1 _ x1 ok1 r1
    | false =>
      simp only [Bool.false_eq_true, if_false] at e3 ⊢
      exact ⟨α1, env, S1, d, S', ok1, en.mono x1, e3, fun α2 H2 v2 x2 ok2 r2 => k α2 H2 v2 (x1.trans x2) ok2 r2⟩
end
/-! pairs in order -/
theorem lexLe_refl (p : Int × Int) : lexLe p p := .inr ⟨rfl, Int.le_refl _⟩
theorem lexLe_tot {p q : Int × Int} (h : ¬ lexLe p q) : lexLe q p := by
  unfold lexLe at h ⊢
  omega
theorem lexLe_trans {p q r : Int × Int} (h : lexLe p q) (k : lexLe q r) : lexLe p r := by
  unfold lexLe at h k ⊢
  omega
theorem lexLe_anti {p q : Int × Int} (h : lexLe p q) (k : lexLe q p) : p = q := by
  unfold lexLe at h k
  have h1 : p.1 = q.1 := by omega
  have h2 : p.2 = q.2 := by omega
  exact Prod.ext h1 h2
theorem insP_perm (p : Int × Int) : ∀ ps, (insP p ps).Perm (p :: ps)
  | [] => .refl _
  | q :: qs => by
    unfold insP
    split
    · exact .refl _
    · exact ((insP_perm p qs).cons q).trans (.swap p q qs)
theorem srtP_perm : ∀ ps : List (Int × Int), (srtP ps).Perm ps
  | [] => .refl _
  | p :: ps => (insP_perm p (srtP ps)).trans ((srtP_perm ps).cons p)
theorem insP_le (p : Int × Int) : ∀ {ps : List (Int × Int)}, ps.Pairwise lexLe → (insP p ps).Pairwise lexLe
  | [], _ => by simp [insP]
  | q :: qs, h => by
    unfold insP
    rw [List.pairwise_cons] at h
    split
    · rename_i c
      refine List.pairwise_cons.mpr ⟨fun r hr => ?_, List.pairwise_cons.mpr h⟩
      rcases List.mem_cons.mp hr with z | z
      · rw [z]; exact c
      · exact lexLe_trans c (h.1 r z)
    · rename_i c
      refine List.pairwise_cons.mpr ⟨fun r hr => ?_, insP_le p h.2⟩
      rcases List.mem_cons.mp ((insP_perm p qs).mem_iff.mp hr) with z | z
      · rw [z]; exact lexLe_tot c
      · exact h.1 r z
theorem srtP_le : ∀ ps : List (Int × Int), (srtP ps).Pairwise lexLe
  | [] => .nil
  | p :: ps => insP_le p (srtP_le ps)
theorem srtP_one {A B : List (Int × Int)} (p : A.Perm B) (ha : A.Pairwise lexLe) (hb : B.Pairwise lexLe) : A = B :=
  p.eq_of_pairwise (fun _ _ _ _ h k => lexLe_anti h k) ha hb
theorem pairsD_map : ∀ ps : List (Int × Int), pairsD (ps.map pairD) = some ps
  | [] => rfl
  | p :: ps => by
    have := pairsD_map ps
    simp only [List.map_cons, pairD, pairsD] at this ⊢
    rw [this]
    rfl
theorem pairsD_of : ∀ {xs : List D} {ps : List (Int × Int)}, pairsD xs = some ps → xs = ps.map pairD
  | [], ps, h => by
    simp only [pairsD, Option.some.injEq] at h
    subst h
    rfl
  | x :: xs, ps, h => by
    unfold pairsD at h
    split at h
    · rename_i heq
      cases heq
    · rename_i i j ds heq
      cases heq
      rw [Option.map_eq_some_iff] at h
      obtain ⟨qs, h1, rfl⟩ := h
      rw [pairsD_of h1]
      rfl
    · cases h
open Classical in
noncomputable def keyV (K : PySem.W.Frag) (H : Hp) (v : V) : Int × Int := if h : ∃ p : Int × Int, ∃ t : Addr, v = .ref t ∧ SqT K H t [.int p.1, .int p.2] then h.choose else (0, 0)
section
variable {X : Cx}
theorem keyV_of {pins : List (Addr × Obj)} {σ : L2.St} {H : Hp} {s : Shared} {t : Addr} {p : Int × Int} (I : Inv X pins σ H s) (h : SqT X.K H t [.int p.1, .int p.2]) : keyV X.K H (.ref t) = p := by
  have hx : ∃ p : Int × Int, ∃ t' : Addr, V.ref t = .ref t' ∧ SqT X.K H t' [.int p.1, .int p.2] := ⟨p, t, rfl, h⟩
  unfold keyV
  rw [dif_pos hx]
  obtain ⟨t', e, c2⟩ := hx.choose_spec
  cases e
  have c4 := I.tuple_inj c2 h
  simp only [List.cons.injEq, V.int.injEq, and_true] at c4
  exact Prod.ext c4.1 c4.2
/-- sorted(xs) of pairs, wherever the pairs lie -/
theorem b_sortp : CallR X (.builtin "sorted") (rA X.K (bltD .sortp_)) := by
  intro pins s σ H xs us Q I r ⟨α, S, ds, d, S', ok, rs, e, k⟩
  match ds, e with
  | [x], e =>
    simp only [bltD, Option.map_eq_some_iff, alloc, Prod.mk.injEq] at e
    obtain ⟨ps, h1, rfl, rfl⟩ := e
    obtain ⟨v, rfl, r1⟩ := rs.one'
    unfold pairsAt at h1
    split at h1
    · cases h1
    rename_i nt
    rw [Option.bind_eq_some_iff] at h1
    obtain ⟨ys, h2, h3⟩ := h1
    have h4 := pairsD_of h3
    subst h4
    obtain ⟨l, vs, rfl, rv, z⟩ := seq_of ok r1 h2
    have z : SqL X.K H l vs := by
      rcases z with z | z
      · exact absurd z.1 nt
      · exact z.2
    obtain ⟨its, rel, hl, hz⟩ := I.list z
    obtain ⟨u, rfl, ru⟩ := vals1 r
    have ru : u = Value.ref l := ru
    subst ru
    -- each item is a tuple of two ints
    have item : ∀ (i : Nat) (v : V), vs[i]? = some v → ∃ (t : Addr) (p : Int × Int), ps[i]? = some p ∧ v = V.ref t ∧ SqT X.K H t [V.int p.1, V.int p.2] := fun i v hv => by
      obtain ⟨x, hx, rx⟩ := rv.getV hv
      rw [List.getElem?_map] at hx
      cases hp : ps[i]? with
      | none => rw [hp] at hx; cases hx
      | some p =>
        rw [hp] at hx
        have hx : pairD p = x := by simpa using hx
        subst hx
        cases rx with
        | tup h l' q =>
          rename_i t ws
          refine ⟨t, p, rfl, rfl, ?_⟩
          match ws, l', h, q with
          | [w1, w2], _, h, q =>
            have q1 := q 0 _ _ rfl rfl
            have q2 := q 1 _ _ rfl rfl
            cases q1
            cases q2
            exact h
          | [], l', _, _ => simp at l'
          | [_], l', _, _ => simp at l'
          | _ :: _ :: _ :: _, l', _, _ => simp at l'
    have isref : ∀ v ∈ vs, ∃ t, v = V.ref t := fun v hv => by
      obtain ⟨i, hi⟩ := List.getElem?_of_mem hv
      obtain ⟨t, p, _, e, _⟩ := item i v hi
      exact ⟨t, e⟩
    obtain ⟨e1, e2⟩ := refs_back rel isref
    have keyp : ∀ (t : Addr) (p : Int × Int), SqT X.K H t [V.int p.1, V.int p.2] → keyV X.K H (V.ref t) = p := fun t p h => keyV_of I h
    generalize keyV X.K H = key at keyp
    refine SrtO.sorted_pairsO (k := fun u => key (backV u)) hl.isList (by rw [← rel.length]; exact hz) (fun v hv => ?_) fun h' dd out o1 o2 kp hd hn => ?_
    · obtain ⟨t, rfl⟩ := e2 v hv
      have hm : V.ref t ∈ vs := by rw [e1]; exact List.mem_map.mpr ⟨_, hv, rfl⟩
      obtain ⟨i, hi⟩ := List.getElem?_of_mem hm
      obtain ⟨t', p, _, et, sq⟩ := item i _ hi
      cases et
      have hk : key (backV (Value.ref t)) = p := keyp t p sq
      obtain ⟨its2, r2, tu, _⟩ := I.tuple sq
      obtain ⟨u1, u2, rfl, ri, rj⟩ := vals2 r2
      obtain ⟨t1, rfl⟩ := ri
      obtain ⟨t2, rfl⟩ := rj
      obtain ⟨o, ho, hcl, n, hd⟩ := tu
      simp only [hk]
      exact ⟨t, o, t1, t2, n, rfl, ho, hcl, hd⟩
    · have h3 : ∀ u ∈ out, ∃ t, u = Value.ref t := fun u hu => e2 u (o2.perm.mem_iff.mp hu)
      have srt := SrtO.srtd_map o1
      have stb : SrtO.Stb (ltP key) (out.map backV) vs := by
        rw [e1]
        exact SrtO.Stb.map (ltP_swo key) backV o2
      obtain ⟨n, hn⟩ := hn
      have hpn := I.hok.fresh hd
      refine ⟨.ref dd, upd H dd (.lst (out.map backV)), I.laid (t' := s.toks) kp hd ⟨?_, out, n, vals_back h3, hn⟩, rfl, ?_⟩
      · rw [stb.len]
        exact hz
      -- the values in order
      have mapk : vs.map key = ps := by
        apply List.ext_getElem?
        intro i
        rw [List.getElem?_map]
        cases hv : vs[i]? with
        | none =>
          have : ps[i]? = none := by
            rw [List.getElem?_eq_none_iff] at hv ⊢
            have := rv.len
            rw [List.length_map] at this
            omega
          rw [this]
          rfl
        | some v =>
          obtain ⟨t, p, hp, rfl, sq⟩ := item i v hv
          rw [hp, Option.map_some, keyp t p sq]
      have pm : ((out.map backV).map key).Perm ps := by
        rw [← mapk]
        exact stb.perm.map key
      have le : ((out.map backV).map key).Pairwise lexLe := by
        rw [List.map_map]
        refine List.Pairwise.imp ?_ srt
        intro x y h
        have := SrtO.lexB_no.mp h
        unfold lexLe
        omega
      have eo : (out.map backV).map key = srtP ps := srtP_one (pm.trans (srtP_perm ps).symm) le (srtP_le ps)
      refine go_new ok hpn ⟨?_, fun i x v h1 h2 => ?_⟩ k
      · have := congrArg List.length eo
        simp only [List.length_map] at this ⊢
        exact this
      · have hv : v ∈ vs := stb.perm.mem_iff.mp (List.mem_of_getElem? h2)
        obtain ⟨j, hj⟩ := List.getElem?_of_mem hv
        obtain ⟨t, p, hp, rfl, sq⟩ := item j v hj
        have h4 : ((out.map backV).map key)[i]? = some p := by rw [List.getElem?_map, h2, Option.map_some, keyp t p sq]
        rw [eo] at h4
        rw [List.getElem?_map, h4] at h1
        have h1 : pairD p = x := by simpa using h1
        subst h1
        exact .tup sq rfl fun i x v h1 h2 => by
          match i, h1, h2 with
          | 0, h1, h2 => cases h1; cases h2; exact .int _
          | 1, h1, h2 => cases h1; cases h2; exact .int _
          | i + 2, h1, h2 => simp at h1
  | [], e => simp [bltD] at e
  | _ :: _ :: _, e => simp [bltD] at e
end
section
variable {X : Cx} {Γ : Fs} {a b : Expr} {ca cb : E} {pos pos2 p p2 : Pos}
theorem xe_lrange (hc : X.calm = true) (hg : Gl X "list") (hm : X.mg "list" = none) (hg2 : Gl X "range") (hm2 : X.mg "range" = none) (ha : PE X a (tr X.K Γ ca)) (hb : PE X b (tr X.K Γ cb))
    (na : starEach [a, b] X.env = (false, eval a X.env) :: starEach [b] X.env := by rfl) (nb : starEach [b] X.env = (false, eval b X.env) :: starEach [] X.env := by rfl) (hp : (backTo pos2 (starEach [b] X.env)).any (·.1) = false := by rfl)
    (nr : starEach [.Call (.Name "range" p2) [a, b] [] pos2] X.env = (false, eval (.Call (.Name "range" p2) [a, b] [] pos2) X.env) :: starEach [] X.env := by rfl) :
    PE X (.Call (.Name "list" p) [.Call (.Name "range" p2) [a, b] [] pos2] [] pos) (tr X.K Γ (.blt .lrange_ (.cons ca (.cons cb .nil)))) :=
  pe_w (pe_listRg hc hg hm (prg_2 hg2 hm2 ha hb na nb hp) nr) fun σ H Q ⟨α, env, S, d, S', ok, en, e, k⟩ => by
    simp only [ev] at e
    cases h1 : ev Γ ca env S with
    | none => rw [h1] at e; cases e
    | some x =>
      obtain ⟨d1, S1⟩ := x
      rw [h1] at e
      simp only [Option.bind_some] at e
      cases h2 : ev Γ cb env S1 with
      | none => rw [h2] at e; cases e
      | some y =>
        obtain ⟨d2, S2⟩ := y
        rw [h2] at e
        simp only [Option.bind_some, argsOf, Option.map_some] at e
        refine ⟨α, env, S, d1, S1, ok, en, h1, fun α1 H1 v1 x1 ok1 r1 => ⟨α1, env, S1, d2, S2, ok1, en.mono x1, h2, fun α2 H2 v2 x2 ok2 r2 => ?_⟩⟩
        cases d1 with
        | int i =>
          cases d2 with
          | int j =>
            simp only [bltD] at e
            split at e
            · rename_i hb
              simp only [alloc, Option.some.injEq, Prod.mk.injEq] at e
              obtain ⟨rfl, rfl⟩ := e
              cases r1
              cases r2
              refine ⟨i, j, rfl, rfl, ⟨hb.1, hb.2.1, hb.2.2.1, hb.2.2.2.1, Nat.le_trans hb.2.2.2.2 (by decide)⟩, fun q hq => ?_⟩
              refine go_new ok2 hq ⟨by simp [rgV], fun m x v h1 h2 => ?_⟩ fun α3 H3 v x3 => k α3 H3 v (x1.trans (x2.trans x3))
              unfold rgV at h2
              rw [List.getElem?_map] at h1 h2
              cases hm : (List.range (j - i).toNat)[m]? with
              | none => rw [hm] at h1; cases h1
              | some z =>
                rw [hm] at h1 h2
                cases h1
                cases h2
                exact .int _
            · cases e
          | _ => simp [bltD] at e
        | _ => simp [bltD] at e
end
end Ix

namespace Ix
open PySem PySem.Spec PyProof.Rows L2
/-! ### == and in of data of any depth; a, b = a list -/
theorem un_of {k : Nat} {A : Around} (r : RoomG k A) : A.units + 65 < cLine := by
  have := r.room.un
  omega
section
variable {K : PySem.W.Frag} {α : List Addr} {S : Hd} {H : Hp}
theorem pyL_of {f : D → Option PyData} (hf : ∀ d v y, Rp K α H d v → f d = some y → Dp K H v y) : ∀ {ds : List D} {vs : List V} {ys : List PyData}, Rps K α H ds vs → pyL f ds = some ys → DpAll K H vs ys
  | [], vs, ys, r, e => by
    rw [r.unnil]
    simp only [pyL, Option.some.injEq] at e
    subst e
    exact .nil
  | d :: ds, vs, ys, r, e => by
    obtain ⟨w, ws, rfl, r1, r2⟩ := r.uncons
    simp only [pyL, Option.bind_eq_some_iff, Option.map_eq_some_iff] at e
    obtain ⟨x, e1, xs, e2, rfl⟩ := e
    exact .cons (hf _ _ _ r1 e1) (pyL_of hf r2 e2)
theorem py_of (ok : Ok K α S H) : ∀ (n : Nat) (d : D) (v : V) (y : PyData), Rp K α H d v → py n S d = some y → Dp K H v y
  | 0, d, v, y, r, e => by cases d <;> simp [py] at e
  | n + 1, d, v, y, r, e => by
    cases d with
    | non => cases r; simp only [py, Option.some.injEq] at e; subst e; exact .non
    | bl b => cases r; simp only [py, Option.some.injEq] at e; subst e; exact .bl b
    | int i => cases r; simp only [py, Option.some.injEq] at e; subst e; exact .int i
    | str x => cases r; simp only [py, Option.some.injEq] at e; subst e; exact .str x
    | ty x => simp [py] at e
    | ro xs => simp [py] at e
    | xcp c ns xs => simp [py] at e
    | tup xs =>
      simp only [py, Option.map_eq_some_iff] at e
      obtain ⟨ys, e1, rfl⟩ := e
      cases r with
      | tup h l q => exact .tup h (pyL_of (py_of ok n) ⟨l, q⟩ e1)
    | ref k =>
      simp only [py] at e
      split at e
      · rename_i xs e2
        simp only [Option.map_eq_some_iff] at e
        obtain ⟨ys, e1, rfl⟩ := e
        obtain ⟨a, vs, rfl, _, h, q⟩ := ok.lst e2 r
        exact .lst (SqL.of h) (pyL_of (py_of ok n) q e1)
      · cases e
end
def cdOf : Cd → CmpOp
  | .eq => .Eq | .ne => .NotEq | .in_ => .In | .notin => .NotIn
section
variable {X : Cx} {Γ : Fs} {a b : Expr} {ca cb : E} {pos : Pos}
theorem cd_of (hu : X.A.units + 65 < cLine) : ∀ o : Cd, OpR X (compareOp (cdOf o)) (rB X.K (cmpdD o))
  | .eq => fun pins s σ H x y v u Q I rx ry ⟨α, S, d1, d2, d, S', ok, r1, r2, e, k⟩ => by
    simp only [cmpdD, Option.bind_eq_some_iff] at e
    obtain ⟨y1, e1, y2, e2, e⟩ := e
    split at e
    · rename_i h
      simp only [Option.some.injEq, Prod.mk.injEq] at e
      obtain ⟨rfl, rfl⟩ := e
      exact op_eqD (by omega) pins s σ H _ _ v u Q I rx ry ⟨y1, y2, py_of ok _ _ _ _ r1 e1, py_of ok _ _ _ _ r2 e2, h.1, h.2, k α H _ Xt.refl ok (.bl _)⟩
    · cases e
  | .ne => fun pins s σ H x y v u Q I rx ry ⟨α, S, d1, d2, d, S', ok, r1, r2, e, k⟩ => by
    simp only [cmpdD, Option.bind_eq_some_iff] at e
    obtain ⟨y1, e1, y2, e2, e⟩ := e
    split at e
    · rename_i h
      simp only [Option.some.injEq, Prod.mk.injEq] at e
      obtain ⟨rfl, rfl⟩ := e
      exact op_neD (by omega) pins s σ H _ _ v u Q I rx ry ⟨y1, y2, py_of ok _ _ _ _ r1 e1, py_of ok _ _ _ _ r2 e2, h.1, h.2, k α H _ Xt.refl ok (.bl _)⟩
    · cases e
  | .in_ => fun pins s σ H x y v u Q I rx ry ⟨α, S, d1, d2, d, S', ok, r1, r2, e, k⟩ => by
    simp only [cmpdD, Option.bind_eq_some_iff] at e
    obtain ⟨y1, e1, y2, e2, e⟩ := e
    split at e
    · split at e
      · rename_i h
        simp only [Option.some.injEq, Prod.mk.injEq] at e
        obtain ⟨rfl, rfl⟩ := e
        exact op_inD hu pins s σ H _ _ v u Q I rx ry ⟨y1, _, py_of ok _ _ _ _ r1 e1, py_of ok _ _ _ _ r2 e2, h.1, h.2, k α H _ Xt.refl ok (.bl _)⟩
      · cases e
    · cases e
  | .notin => fun pins s σ H x y v u Q I rx ry ⟨α, S, d1, d2, d, S', ok, r1, r2, e, k⟩ => by
    simp only [cmpdD, Option.bind_eq_some_iff] at e
    obtain ⟨y1, e1, y2, e2, e⟩ := e
    split at e
    · split at e
      · rename_i h
        simp only [Option.some.injEq, Prod.mk.injEq] at e
        obtain ⟨rfl, rfl⟩ := e
        exact op_notInD hu pins s σ H _ _ v u Q I rx ry ⟨y1, _, py_of ok _ _ _ _ r1 e1, py_of ok _ _ _ _ r2 e2, h.1, h.2, k α H _ Xt.refl ok (.bl _)⟩
      · cases e
    · cases e
theorem cmpd_bl {o : Cd} {x y d : D} {S S' : Hd} (h : cmpdD o x y S = some (d, S')) : ∃ b, d = .bl b := by
  cases o <;> simp only [cmpdD, Option.bind_eq_some_iff] at h <;> obtain ⟨_, _, _, _, h⟩ := h <;> (repeat' split at h) <;> first | (cases h; done) | (simp only [Option.some.injEq, Prod.mk.injEq] at h; exact ⟨_, h.1.symm⟩)
theorem xe_cmpd (o : Cd) {k : Nat} (hr : RoomG k X.A) (ha : PE X a (tr X.K Γ ca)) (hb : PE X b (tr X.K Γ cb)) (hm : behindInMarks (cdOf o) b = false) : PE X (.Compare a [cdOf o] [b] pos) (tr X.K Γ (.cmpd o ca cb)) :=
  pe_w (pe_cmpR (cd_of (un_of hr) o) ha hb hm) fun σ H Q h => w_bin (fun _ _ => rfl) h
theorem xt_cmpd (o : Cd) {k : Nat} (hr : RoomG k X.A) (ha : PE X a (tr X.K Γ ca)) (hb : PE X b (tr X.K Γ cb)) (hm : behindInMarks (cdOf o) b = false) : PT X (.Compare a [cdOf o] [b] pos) (trT X.K Γ (.cmpd o ca cb)) :=
  pt_w (pt_cmpR (cd_of (un_of hr) o) ha hb hm) fun σ H Q h => w_test (fun env S d S' e => by
    simp only [ev, Option.bind_eq_some_iff] at e
    obtain ⟨_, _, _, _, e⟩ := e
    exact cmpd_bl e) (fun σ H Q h => w_bin (fun _ _ => rfl) h) h
end
section
variable {X : Cx} {Γ : Fs} {e : Expr} {ce : E} {pos tpos : Pos}
theorem xs_asgL {es : List Expr} {g : G} {k n : Nat} (hc : X.calm = true) (he : PE X e (tr X.K Γ ce)) (h : PGs X es (trGs X.K g)) (hl : gLen g = some n := by rfl) (hn : (assignEach es X.env).length = n := by rfl) (hst : (assignEach es X.env).findIdx? (·.1) = none := by rfl)
    (hs : swapsWithSole [.Tuple es k tpos] e pos.line X.env = pure false := by rfl) (hw : swappedStores [.Tuple es k tpos] e X.env = pure none := by rfl) (h1 : (assignEach [.Tuple es k tpos] X.env).map (·.2) = [assign (.Tuple es k tpos) X.env] := by rfl) :
    PS X (.Assign [.Tuple es k tpos] e pos) (trS X.K Γ (.asgL (.tup g) ce)) :=
  ps_w (ps_asg he (pg_unl hc h hn hst) hs hw h1) fun D σ H ⟨α, env, S, o, env', S', ok, en, e, kk⟩ => by
    simp only [ex, Option.bind_eq_some_iff, Option.map_eq_some_iff, Prod.mk.injEq] at e
    obtain ⟨⟨d, S1⟩, e1, xs, e2, env1, e3, rfl, rfl, rfl⟩ := e
    refine ⟨α, env, S, d, S1, ok, en, e1, fun α1 H1 v x1 ok1 r1 => ?_⟩
    split at e2
    · cases e2
    rename_i nt
    obtain ⟨a, vs, rfl, rs, z⟩ := seq_of ok1 r1 e2
    have z : SqL X.K H1 a vs := by
      rcases z with z | z
      · exact absurd z.1 nt
      · exact z.2
    simp only [asgG] at e3
    exact ⟨a, vs, rfl, z, by rw [rs.len, asg_len ⟨_, rfl⟩ hl e3], α1, env, xs, env1, rs, en.mono x1, e3, fun σ' en' _ => kk α1 H1 x1 ok1 σ' en'⟩
end
end Ix

namespace Ix
open PySem PySem.Spec PyProof.Rows L2
/-! ### sorted(set(numbers)) -/
/-- the set that a call of its class makes first -/
abbrev so (w : World) : Obj := { cls := .type "set", dict := none, data := .set #[] 0 (.fresh 0 0 (!w.params.followText "set-order")) }
section
variable {P : Program} {w : World} {A : Around} {E : Value → Shared → Prop} {s : Shared}
set_option maxHeartbeats 3200000 in
theorem set_of_list {l : Addr} {its : Array Value} (ns : List Int) {Q : Value → Shared → Prop} (nh : A.handled = none) (isl : s.heap.IsList l its) (ai : IntsAre its.toList ns) (room : ns.length + 1 < scanBound)
    (k : ∀ (h' : Heap) (tk c : Nat), SetR w h' s.heap.objs.size (fun j => decide (j ∈ ns)) c → c ≤ ns.length → (∀ b o, s.heap.get? b = some o → h'.get? b = some o) → Q (.ref s.heap.objs.size) { s with heap := h', toks := tk }) :
    wpAny (model P w) A (call (.type "set") [.ref l]) Q E s := by
  have sz : its.size = ns.length := by simpa using IntsAre.length ai
  obtain ⟨_, _, mro⟩ := F.called_set.mro
  have made := F.called_set.made
  have sub := F.called_set.sub
  refine wpAny_call (codeAny_of_tree ?_)
  show wpAny _ _ (callAny (.type "set") _) _ _ _
  refine wpAny_pure ⟨Code.quiet_builtin _ (by decide +kernel), codeAny_builtin F.entry_type_call ?_⟩
  rw [Around.under_plain (weight_type_call_type "set" [.ref l] []) rfl]
  have nt := F.called_set.notType
  have cc := F.called_set.canCreate
  have ct := F.typeCall_set_1 (.ref l)
  repeat (any_goals (first | assumption | wp_step))
  refine codeAny_mono (code_set_led1 (.ref l) (E := E) (Q₁ := fun u s₁ => u = .ref s.heap.objs.size ∧ s₁ = { s with heap := s.heap.push (so w) }) ⟨rfl, rfl⟩) fun r s₁ hr => ?_
  match r, hr with
  | .error _, hr => exact hr
  | .ok (.ret _), hr =>
    obtain ⟨rfl, rfl⟩ := hr
    have at1 : (s.heap.push (so w)).get? s.heap.objs.size = some (so w) := Heap.get?_push_size _ rfl
    have ty : Shared.TypeIs { s with heap := s.heap.push (so w) } (.ref s.heap.objs.size) "set" := ⟨_, at1, rfl⟩
    have lk := F.called_set.init.lookup
    have bd := F.called_set.init.bind (.ref s.heap.objs.size)
    repeat (any_goals (first | assumption | wp_step))
    refine codeAny_mono (codeAny_call_builtin (R := wants (fun u s₂ => u = .none ∧ ∃ h' tk c, s₂ = { s with heap := h', toks := tk } ∧ SetR w h' s.heap.objs.size (fun j => decide (j ∈ ns)) c ∧ c ≤ ns.length ∧ ∀ b o, s.heap.get? b = some o → h'.get? b = some o) E)
      F.called_set.init.plain F.entry_set_init (check_set_init_1 ty ?_)) fun r₂ s₂ hr₂ => ?_
    · obtain ⟨⟨oc, od, odt, os⟩, ho, e1, nl, e2⟩ := isl
      simp only at e1 e2
      subst e1 e2
      have ho' : (s.heap.push (so w)).get? l = some { cls := .type "list", dict := od, data := .seq its nl, slots := os } := Heap.get?_push_of_some _ ho
      have sl1 := F.sub_list_set
      have sl2 := F.sub_list_frozenset
      have nd : (Value.type "list" == Value.type "dict") = false := by decide
      have il : (s.heap.push (so w)).IsList l its := ⟨_, ho', rfl, nl, rfl⟩
      unfold Builtin.«set.__init__» noKeywords Builtin.Frozenset.updateFrom
      generalize hg : pyIter = PI
      wp_walk
      subst hg
      refine wpAny_pyIter_list il ?_
      refine wpAny_bind (wpAny_runValue ?_)
      have lt : l < s.heap.objs.size := Heap.lt_size ho
      have nh3 : A.in1.in1.in1.handled = none := by simp [nh]
      have z1 : (s.heap.push (so w)).objs.size = s.heap.objs.size + 1 := Heap.size_push ..
      have ne1 : l ≠ (s.heap.push (so w)).objs.size := by rw [z1]; exact Nat.ne_of_lt (Nat.lt_succ_of_lt lt)
      have nin : s.heap.objs.size ∉ [(s.heap.push (so w)).objs.size, l] := by
        rw [z1]
        simp only [List.mem_cons, List.not_mem_nil, or_false, not_or]
        exact ⟨Nat.ne_of_lt (Nat.lt_succ_self _), Nat.ne_of_gt lt⟩
      have val : ∀ (i : Nat) (v : Value), its[i]? = some v → ∃ m t, ns[i]? = some m ∧ v = .int m t := fun i v hv => by
        have hi : i < ns.length := by rw [← sz]; exact (Array.getElem?_eq_some_iff.mp hv).1
        obtain ⟨t, e⟩ := PyProof.Rows.IntsAre.int_at ai i v (by rw [Array.getElem?_toList]; exact hv)
        refine ⟨ns[i], t, List.getElem?_eq_getElem hi, ?_⟩
        rw [e, List.getD_eq_getElem?_getD, List.getElem?_eq_getElem hi] <;> rfl
      refine set_update_ints ((Walks.list nh3 _ l ne1 its).toS) s.heap.objs.size nin ns sz room val (its.size - 0) 0 _ (by omega) (Nat.zero_le _) ⟨⟨_, Heap.get?_push_size _ rfl, rfl, rfl⟩, il.push _⟩ ⟨0, Nat.le_refl 0, setR_new_at (Heap.get?_push_of_some _ at1)⟩ ?_
      intro s' c' mv hc' hS'
      obtain ⟨h', g2, d', tk', os'⟩ := s'
      obtain rfl : g2 = s.gens := mv.gens
      obtain rfl : d' = s.drawn := mv.drawn
      obtain rfl : os' = s.os := mv.os
      show wpAny _ _ _ _ _ _
      refine wpAny_pure ?_
      show wpAny _ _ (ret Value.none) _ _ _
      rw [sz] at hc'
      refine wpAny_pure ⟨rfl, h', tk', c', rfl, hS', hc', fun b o e => ?_⟩
      have lb : b < s.heap.objs.size := Heap.lt_size e
      refine mv.heap b o ?_ (Heap.get?_push_of_some _ (Heap.get?_push_of_some _ e))
      rw [z1]
      simp only [List.mem_cons, List.not_mem_nil, or_false, not_or]
      exact ⟨Nat.ne_of_lt lb, Nat.ne_of_lt (Nat.lt_succ_of_lt lb)⟩
    · match r₂, hr₂ with
      | .error _, hr₂ => exact hr₂
      | .ok (.ret _), hr₂ =>
        obtain ⟨rfl, h', tk, c', rfl, hS', hc', hk'⟩ := hr₂
        repeat (any_goals (first | assumption | wp_step))
        exact k _ _ _ hS' hc' hk'
end
theorem insU_mem {i x : Int} : ∀ {js : List Int}, x ∈ insU i js ↔ x = i ∨ x ∈ js
  | [] => by simp [insU]
  | j :: js => by
    unfold insU
    split
    · simp
    · split
      · rename_i e
        subst e
        simp
      · rw [List.mem_cons, insU_mem (js := js), List.mem_cons]
        constructor
        · rintro (h | h | h)
          · exact .inr (.inl h)
          · exact .inl h
          · exact .inr (.inr h)
        · rintro (h | h | h)
          · exact .inr (.inl h)
          · exact .inl h
          · exact .inr (.inr h)
theorem insU_asc {i : Int} : ∀ {js : List Int}, js.Pairwise (· < ·) → (insU i js).Pairwise (· < ·)
  | [], _ => by simp [insU]
  | j :: js, h => by
    unfold insU
    rw [List.pairwise_cons] at h
    split
    · rename_i c
      refine List.pairwise_cons.mpr ⟨fun x hx => ?_, List.pairwise_cons.mpr h⟩
      rcases List.mem_cons.mp hx with e | e
      · omega
      · have := h.1 x e
        omega
    · split
      · exact List.pairwise_cons.mpr h
      · refine List.pairwise_cons.mpr ⟨fun x hx => ?_, insU_asc h.2⟩
        rcases insU_mem.mp hx with e | e
        · omega
        · exact h.1 x e
theorem srtU_mem {x : Int} : ∀ {is : List Int}, x ∈ srtU is ↔ x ∈ is
  | [] => by simp [srtU]
  | i :: is => by rw [srtU, insU_mem, srtU_mem (is := is), List.mem_cons]
theorem srtU_asc : ∀ is : List Int, (srtU is).Pairwise (· < ·)
  | [] => .nil
  | i :: is => insU_asc (srtU_asc is)
theorem asc_one : ∀ {A B : List Int}, A.Pairwise (· < ·) → B.Pairwise (· < ·) → (∀ x, x ∈ A ↔ x ∈ B) → A = B
  | [], [], _, _, _ => rfl
  | [], b :: B, _, _, h => absurd ((h b).mpr List.mem_cons_self) (by simp)
  | a :: A, [], _, _, h => absurd ((h a).mp List.mem_cons_self) (by simp)
  | a :: A, b :: B, ha, hb, h => by
    rw [List.pairwise_cons] at ha hb
    have e : a = b := by
      rcases List.mem_cons.mp ((h a).mp List.mem_cons_self) with q | q
      · exact q
      · rcases List.mem_cons.mp ((h b).mpr List.mem_cons_self) with r | r
        · exact r.symm
        · have := ha.1 b r
          have := hb.1 a q
          omega
    subst e
    congr 1
    refine asc_one ha.2 hb.2 fun x => ⟨fun q => ?_, fun q => ?_⟩
    · rcases List.mem_cons.mp ((h x).mp (List.mem_cons_of_mem _ q)) with r | r
      · have := ha.1 x q
        omega
      · exact r
    · rcases List.mem_cons.mp ((h x).mpr (List.mem_cons_of_mem _ q)) with r | r
      · have := hb.1 x q
        omega
      · exact r
section
variable {X : Cx} {Γ : Fs} {a : Expr} {ca : E} {pos q p p2 : Pos}
/-- a set of numbers that a call of its class on a list makes -/
def rSetL' (w : World) (K : PySem.W.Frag) : List V → Hp → VK → Prop := fun vs H Q => ∃ (l : Addr) (ns : List Int), vs = [.ref l] ∧ SqL K H l (ns.map V.int) ∧ ns.length ≤ 4000 ∧ ∀ (p : Addr) (n : Nat), H p = none → (∀ ms : List Int, ms.Pairwise (· < ·) → (∀ x, x ∈ ms ↔ x ∈ ns) → ms.length = n) → Q (.ref p) (upd H p (SetO w p (fun j => decide (j ∈ ns)) n))
theorem ints_vals : ∀ {ns : List Int} {us : List Value}, Vals (ns.map V.int) us → IntsAre us ns
  | [], _, .nil => .nil
  | n :: ns, _, .cons r t => by
    obtain ⟨k, rfl⟩ := r
    exact .cons n k (ints_vals t)
theorem setR_count {w : World} {h : Heap} {a : Addr} {S : Int → Bool} {n : Nat} (R : SetR w h a S n) {ms : List Int} (hm : ms.Pairwise (· < ·)) (hs : ∀ x, x ∈ ms ↔ S x = true) : ms.length = n := by
  obtain ⟨o, es, ep, t, _, _, _, _, nd, km, _, _, hn, _⟩ := R
  have nm : ms.Nodup := hm.imp fun h => by omega
  have e : ms.Perm (es.toList.map keyOf) := (List.perm_ext_iff_of_nodup nm nd).mpr fun x => (hs x).trans (km x)
  rw [e.length_eq, List.length_map, Array.length_toList, hn]
theorem cr_setL (hc : X.calm = true) : CallR X (.type "set") (rSetL' X.w X.K) := by
  intro pins s σ H xs us Q I r ⟨l, ns, e, sq, hl, k⟩
  subst e
  obtain ⟨u, rfl, ru⟩ := vals1 r
  obtain rfl : u = Value.ref l := ru
  obtain ⟨its, rv, pl, hz⟩ := I.list sq
  refine set_of_list ns (I.ok.hd hc) pl.isList (by simpa using ints_vals rv) (by unfold scanBound; omega) fun h' tk c hS hc' hk => ?_
  have np := I.hok.fresh (Nat.le_refl s.heap.objs.size)
  refine ⟨.ref s.heap.objs.size, upd H s.heap.objs.size (SetO X.w s.heap.objs.size (fun j => decide (j ∈ ns)) c), I.laid (t' := tk) hk (Nat.le_refl _) (setO_new hS), rfl, k _ c np fun ms h1 h2 => setR_count hS h1 fun x => by rw [h2]; simp⟩
theorem xe_ssort (hc : X.calm = true) (hg : Gl X "sorted") (hm : X.mg "sorted" = none) (hg2 : Gl X "set") (hm2 : X.mg "set" = none) (ha : PE X a (tr X.K Γ ca))
    (he : starEach [a] X.env = (false, eval a X.env) :: starEach [] X.env := by rfl) (hpl : (backTo q (starEach [] X.env)).any (·.1) = false := by rfl)
    (he2 : starEach [.Call (.Name "set" p2) [a] [] q] X.env = (false, eval (.Call (.Name "set" p2) [a] [] q) X.env) :: starEach [] X.env := by rfl) (hpl2 : (backTo pos (starEach [] X.env)).any (·.1) = false := by rfl) :
    PE X (.Call (.Name "sorted" p) [.Call (.Name "set" p2) [a] [] q] [] pos) (tr X.K Γ (.blt .ssort_ (.cons ca .nil))) :=
  pe_w (pe_callB (cr_sortedSet hc) hg hm rfl (pa_cons (pe_callTy (cr_setL hc) hg2 hm2 rfl (pa_cons ha pa_nil he) (by decide) (by decide) he hpl) pa_nil he2) (by decide) (by decide) he2 hpl2) fun σ H Q ⟨α, env, S, d, S', ok, en, e, k⟩ => by
    simp only [ev] at e
    cases h1 : ev Γ ca env S with
    | none => rw [h1] at e; cases e
    | some x =>
      obtain ⟨d1, S1⟩ := x
      rw [h1] at e
      simp only [Option.bind_some, Option.map_some, argsOf, bltD, Option.bind_eq_some_iff] at e
      obtain ⟨ns, e1, e⟩ := e
      split at e
      · rename_i hb
        simp only [alloc, Option.some.injEq, Prod.mk.injEq] at e
        obtain ⟨rfl, rfl⟩ := e
        refine ⟨α, env, S, d1, S1, ok, en, h1, fun α1 H1 v1 x1 ok1 r1 => ?_⟩
        obtain ⟨l, rfl, sq⟩ := intsAt_of ok1 r1 e1
        refine ⟨l, ns, rfl, sq, hb.1, fun p n hp hn => ?_⟩
        have len : n < 64 := by
          have := hn (srtU ns) (srtU_asc ns) fun x => srtU_mem
          omega
        refine ⟨p, fun j => decide (j ∈ ns), n, rfl, upd_same, len, fun ms p' asc mem _ hp' => ?_⟩
        have em : ms = srtU ns := asc_one asc (srtU_asc ns) fun x => by rw [mem, srtU_mem]; simp
        subst em
        have ok2 : Ok X.K α1 S1 (upd H1 p (SetO X.w p (fun j => decide (j ∈ ns)) n)) := ok1.fresh hp
        refine go_new ok2 hp' ⟨by simp, fun i x v h1 h2 => ?_⟩ fun α' H' v x' => k α' H' v (x1.trans ((Xt.fresh hp).trans x'))
        rw [List.getElem?_map] at h1 h2
        cases hx : (srtU ns)[i]? with
        | none => rw [hx] at h1; cases h1
        | some m =>
          rw [hx] at h1 h2
          cases h1
          cases h2
          exact .int m
      · cases e
end
end Ix

namespace Ix
open PySem PySem.Spec PyProof.Rows L2
/-! ### dicts: displays, d[k] -/
def argsE : List (E × E) → E
  | [] => .nil
  | (k, v) :: r => .cons k (.cons v (argsE r))
inductive PsR (K : PySem.W.Frag) (α : List Addr) (H : Hp) : List D → List (V × V) → Prop where
  | nil : PsR K α H [] []
  | cons {k v : D} {a b : V} {ds : List D} {ps : List (V × V)} : Rp K α H k a → Rp K α H v b → PsR K α H ds ps → PsR K α H (k :: v :: ds) ((a, b) :: ps)
section
variable {K : PySem.W.Frag} {Γ : Fs} {α : List Addr} {S : Hd} {H : Hp}
theorem w_pairs {σ : L2.St} : ∀ {ces : List (E × E)} {env : Sl} {α : List Addr} {S S' : Hd} {H : Hp} {ds : List D} {Q : List (V × V) → Hp → Prop}, Ok K α S H → En K α H env σ → ev Γ (argsE ces) env S = some (.tup ds, S') →
    (∀ α' H' ps, Xt K α H α' H' → Ok K α' S' H' → PsR K α' H' ds ps → Q ps H') → tPairs (ces.map fun p => (tr K Γ p.1, tr K Γ p.2)) σ H Q
  | [], env, α, S, S', H, ds, Q, ok, en, e, k => by
    simp only [argsE, ev, Option.some.injEq, Prod.mk.injEq, D.tup.injEq] at e
    obtain ⟨rfl, rfl⟩ := e
    exact k α H [] Xt.refl ok .nil
  | (ck, cv) :: r, env, α, S, S', H, ds, Q, ok, en, e, k => by
    simp only [argsE, ev, Option.bind_eq_some_iff, Option.map_eq_some_iff] at e
    obtain ⟨⟨d1, S1⟩, e1, ⟨d2, S2⟩, ⟨⟨d3, S3⟩, e3, ⟨d4, S4⟩, e4, ds4, e5, e6⟩, ds2, e7, e8⟩ := e
    cases e6
    cases e8
    simp only [argsOf, Option.some.injEq] at e7
    subst e7
    cases argsOf_some e5
    refine ⟨α, env, S, d1, S1, ok, en, e1, fun α1 H1 v1 x1 ok1 r1 => ⟨α1, env, S1, d3, S3, ok1, en.mono x1, e3, fun α2 H2 v2 x2 ok2 r2 => ?_⟩⟩
    refine w_pairs ok2 (en.mono (x1.trans x2)) e4 fun α3 H3 ps x3 ok3 rs => ?_
    exact k α3 H3 _ (x1.trans (x2.trans x3)) ok3 (.cons (r1.mono (x2.trans x3)) (r2.mono x3) rs)
theorem psr_kvs : ∀ {ds : List D} {ps : List (V × V)} {ks : List (Key × D)}, PsR K α H ds ps → pairUp ds = some ks → ∃ kvs : List (Key × V), ps = kvs.map (fun kv => (kV kv.1, kv.2)) ∧ kvs.map (·.1) = ks.map (·.1) ∧ Rps K α H (ks.map (·.2)) (kvs.map (·.2))
  | [], ps, ks, r, e => by
    cases r
    simp only [pairUp, Option.some.injEq] at e
    subst e
    exact ⟨[], rfl, rfl, .nil⟩
  | [_], ps, ks, r, e => by simp [pairUp] at e
  | k :: v :: ds, ps, ks, r, e => by
    simp only [pairUp, Option.bind_eq_some_iff, Option.map_eq_some_iff] at e
    obtain ⟨x, e1, ks', e2, rfl⟩ := e
    cases r with
    | @cons _ _ a b _ ps r1 r2 r3 =>
      obtain ⟨kvs, rfl, h1, h2⟩ := psr_kvs r3 e2
      have ea : a = kV x := by
        cases k with
        | int i =>
          simp only [keyD, Option.some.injEq] at e1
          subst e1
          cases r1
          rfl
        | str z =>
          simp only [keyD, Option.some.injEq] at e1
          subst e1
          cases r1
          rfl
        | _ => simp [keyD] at e1
      subst ea
      exact ⟨(x, b) :: kvs, rfl, by simp [h1], h2.cons r2⟩
theorem mergeK_nodup : ∀ {more acc : List (Key × V)}, ((acc ++ more).map (·.1)).Nodup → mergeK acc more = acc ++ more
  | [], acc, _ => by simp [mergeK]
  | (k, v) :: more, acc, h => by
    have hk : (acc.any fun kv => decide (kv.1 = k)) = false := by
      rw [List.any_eq_false]
      intro x hx
      simp only [decide_eq_true_eq]
      intro e
      rw [List.map_append, List.nodup_append] at h
      exact h.2.2 x.1 (List.mem_map_of_mem hx) k (by simp) e
    have e : putK acc k v = acc ++ [(k, v)] := by
      unfold putK
      rw [hk]
      rfl
    have ih := mergeK_nodup (more := more) (acc := acc ++ [(k, v)]) (by rw [List.append_assoc]; exact h)
    rw [List.append_assoc] at ih
    show mergeK (putK acc k v) more = _
    rw [e, ih]
    rfl
theorem find_of : ∀ {ks : List (Key × D)} {vs : List (Key × V)} {k : Key} {d : D}, vs.map (·.1) = ks.map (·.1) → Rps K α H (ks.map (·.2)) (vs.map (·.2)) → findK ks k = some d → ∃ v, valV vs k = some v ∧ Rp K α H d v
  | [], vs, k, d, _, _, e => by simp [findK] at e
  | (x, dx) :: ks, [], k, d, h, _, _ => by simp at h
  | (x, dx) :: ks, (y, vy) :: vs, k, d, h, r, e => by
    simp only [List.map_cons, List.cons.injEq] at h
    obtain ⟨rfl, h⟩ := h
    obtain ⟨w, ws, e1, r1, r2⟩ := r.uncons
    simp only [List.map_cons, List.cons.injEq] at e1
    obtain ⟨rfl, rfl⟩ := e1
    unfold findK at e
    unfold valV
    rw [List.find?_cons] at e ⊢
    by_cases c : y = k
    · simp only [c, decide_true, Option.map_some, Option.some.injEq] at e ⊢
      subst e
      exact ⟨_, rfl, r1⟩
    · simp only [c, decide_false] at e ⊢
      exact find_of h r2 e
end
section
variable {X : Cx} {Γ : Fs} {a b : Expr} {ca cb : E} {pos : Pos} {keys : List (Option Expr)} {values : List Expr}
theorem xe_dct (ces : List (E × E)) (h : PPs X pos keys values (ces.map fun p => (tr X.K Γ p.1, tr X.K Γ p.2))) (hall : keys.all (·.isSome) = true) (hl : keys.length = values.length) (h0 : keys ≠ []) (h15 : keys.length ≤ 15) : PE X (.Dict keys values pos) (tr X.K Γ (.dct (argsE ces))) :=
  pe_w (pe_disp h hall hl h0 h15) fun σ H Q ⟨α, env, S, d, S', ok, en, e, k⟩ => by
    intro p hp
    simp only [ev, Option.bind_eq_some_iff] at e
    obtain ⟨⟨d1, S1⟩, e1, ds, e2, ks, e3, e⟩ := e
    cases argsOf_some e2
    split at e
    · rename_i hc
      simp only [Option.some.injEq, Prod.mk.injEq] at e
      obtain ⟨rfl, rfl⟩ := e
      obtain ⟨nd, len, hm⟩ := hc
      have okD : Ok X.K (α ++ [p]) (S ++ [.dct []]) (upd H p (.dK [])) := ok.snoc hp (o := .dct []) (u := .dK []) ⟨rfl, Rps.nil⟩
      refine w_pairs okD (en.mono (Xt.snoc hp)) e1 fun α1 H1 ps x1 ok1 rs => ?_
      have cell : S1[S.length]? = some (.dct []) := by
        revert hm
        generalize S1[S.length]? = q
        unfold isE
        split
        · intro _
          rfl
        · intro h
          cases h
      have kD : (α ++ [p])[S.length]? = some p := by rw [← ok.len]; simp
      have kk := x1.pre _ _ kD
      obtain ⟨a', vs, e4, e5, e6, e7, e8⟩ := ok1.dct cell (.ref kk)
      cases e4
      have vn : vs = [] := by simpa using e7
      subst vn
      obtain ⟨kvs, rfl, q1, q2⟩ := psr_kvs rs e3
      have len2 : kvs.length ≤ 15 := by
        have := congrArg List.length q1
        simp only [List.length_map] at this
        omega
      refine ⟨e6, kvs, rfl, len2, ?_⟩
      rw [mergeK_nodup (acc := []) (by rw [List.nil_append, q1]; exact nd), List.nil_append]
      have q2' : Rps X.K α1 (upd H1 p (.dK kvs)) (ks.map (·.2)) (kvs.map (·.2)) := q2.mono (Xt.writeD e6)
      exact k α1 _ _ ((Xt.snoc hp).trans (x1.trans (Xt.writeD e6))) (ok1.writeD e5 e6 (o := .dct ks) (u := .dK kvs) ⟨q1, q2⟩) (.ref kk)
    · cases e
theorem xe_dct0 : PE X (.Dict [] [] pos) (tr X.K Γ (.dct .nil)) :=
  pe_w pe_dnewK fun σ H Q ⟨α, env, S, d, S', ok, en, e, k⟩ => by
    intro p hp
    simp only [ev, Option.bind_some, argsOf, pairUp] at e
    split at e
    · simp only [Option.some.injEq, Prod.mk.injEq] at e
      obtain ⟨rfl, rfl⟩ := e
      have okD : Ok X.K (α ++ [p]) (S ++ [.dct []]) (upd H p (.dK [])) := ok.snoc hp (o := .dct []) (u := .dK []) ⟨rfl, Rps.nil⟩
      refine k _ _ _ (Xt.snoc hp) ?_ (Rp.snoc ok.len)
      rw [show (S ++ [O.dct []]).set S.length (.dct []) = S ++ [.dct []] by simp]
      exact okD
    · cases e
theorem xe_dget {k : Nat} (hr : RoomG k X.A) (ha : PE X a (tr X.K Γ ca)) (hb : PE X b (tr X.K Γ cb)) (hs : NoSl b) : PE X (.Subscript a b pos) (tr X.K Γ (.dget ca cb)) :=
  pe_w (pe_dget (by have := un_of hr; omega) ha hb hs) fun σ H Q ⟨α, env, S, d, S', ok, en, e, k⟩ => by
    simp only [ev, Option.bind_eq_some_iff] at e
    obtain ⟨⟨d1, S1⟩, e1, ⟨d2, S2⟩, e2, e3⟩ := e
    refine ⟨α, env, S, d1, S1, ok, en, e1, fun α1 H1 v1 x1 ok1 r1 => ⟨α1, env, S1, d2, S2, ok1, en.mono x1, e2, fun α2 H2 v2 x2 ok2 r2 => ?_⟩⟩
    have r1' := r1.mono x2
    cases d1 with
    | ref m =>
      simp only [dgetD] at e3
      split at e3
      · rename_i ks e4
        simp only [Option.bind_eq_some_iff, Option.map_eq_some_iff, Prod.mk.injEq] at e3
        obtain ⟨y, e5, d', e6, rfl, rfl⟩ := e3
        obtain ⟨p, vs, rfl, e7, e8, e9, e10⟩ := ok2.dct e4 r1'
        obtain ⟨v, e11, r3⟩ := find_of e9 e10 e6
        have ey : v2 = kV y := by
          cases d2 with
          | int i => simp only [keyD, Option.some.injEq] at e5; subst e5; cases r2; rfl
          | str z => simp only [keyD, Option.some.injEq] at e5; subst e5; cases r2; rfl
          | _ => simp [keyD] at e5
        subst ey
        refine ⟨p, v, rfl, ?_, k α2 H2 v (x1.trans x2) ok2 r3⟩
        rw [← e11]
        exact DGet.k e8
      · cases e3
    | _ => simp [dgetD] at e3
end
end Ix

namespace Ix
open PySem PySem.Spec PyProof.Rows L2
/-! ### dicts of the module: d[k], d.get(k); xs.count(text) -/
section
variable {X : Cx} {Γ : Fs} {a b : Expr} {ca cb : E} {pos p : Pos}
/-- what the written dict at a holds, as the table t tells it -/
def Kd (K : PySem.W.Frag) (w : World) (a : Addr) (t : List (Str × D)) : Prop := ∀ z d, lookC t z = some d → ∃ v, KDct K w a z v ∧ ∀ α H, Rp K α H d v
theorem xe_cix {x : Str} {t : List (Str × D)} {f : Addr} (hg : Gl X x) (hm : X.mg x = some (.ref f)) (hk : Kd X.K X.w f t) (hb : PE X b (tr X.K Γ cb)) (hs : PlainIx b) (hd : (x == ("__debug__" : Str)) = false := by decide) :
    PE X (.Subscript (.Name x p) b pos) (tr X.K Γ (.cix t cb)) :=
  pe_w (pe_ix ix_kdict (pe_glob (v := .ref f) hg hm rfl hd) hb hs) fun σ H Q ⟨α, env, S, d, S', ok, en, e, k⟩ => by
    simp only [ev, Option.bind_eq_some_iff] at e
    obtain ⟨⟨d1, S1⟩, e1, e2⟩ := e
    refine ⟨α, env, S, d1, S1, ok, en, e1, fun α1 H1 v1 x1 ok1 r1 => ?_⟩
    cases d1 with
    | str z =>
      simp only [Option.map_eq_some_iff, Prod.mk.injEq] at e2
      obtain ⟨d', e3, rfl, rfl⟩ := e2
      obtain ⟨v, kd, r⟩ := hk z d' e3
      cases r1
      exact ⟨f, z, v, rfl, rfl, kd, k α1 H1 v x1 ok1 (r α1 H1)⟩
    | _ => simp at e2
/-- the dict's look-up, or nothing -/
def KGet (K : PySem.W.Frag) (w : World) (a : Addr) (z : Str) (o : Option V) : Prop :=
  ∃ es n r, K.lookup a = some ⟨.type "dict", none, .dict es n, #[]⟩ ∧ PySem.W.KeysLit w.params es.toList ∧ (a == sysModules) = false ∧ PySem.W.nsIn K a z = some r ∧
    (match r, o with | some u, some v => RelV v u | none, none => True | _, _ => False)
def Kg (K : PySem.W.Frag) (w : World) (a : Addr) (t : List (Str × D)) : Prop := ∀ z, ∃ o, KGet K w a z o ∧ ∀ α H, Rp K α H ((lookC t z).getD .non) (o.getD .non)
def tKGet (K : PySem.W.Frag) (w : World) (f : Addr) (ty : TE) : TE := fun σ H Q => ty σ H fun y H2 => ∃ z o, y = .str z ∧ KGet K w f z o ∧ Q (o.getD .non) H2
theorem pe_kget {x : Str} {f : Addr} {e : Expr} {ty : TE} {apos cpos : Pos} (hg : Gl X x) (hm : X.mg x = some (.ref f)) (hty : ∃ es n, X.K.lookup f = some ⟨.type "dict", none, .dict es n, #[]⟩ ∧ PySem.W.KeysLit X.w.params es.toList) (he : PE X e ty) (m : M1 X (.Name x p) "get" apos e cpos)
    (hd : (x == ("__debug__" : Str)) = false := by decide) : PE X (.Call (.Attribute (.Name x p) "get" apos) [e] [] cpos) (tKGet X.K X.w f ty) := by
  obtain ⟨es0, n0, hl0, hk0⟩ := hty
  refine ⟨fun pins s σ H Q I h => ?_⟩
  have tyD : ∀ {pins : List (Addr × Obj)} {s : Shared} {σ : L2.St} {H : Hp}, Inv X pins σ H s → s.TypeIs (.ref f) "dict" := fun I => (PySem.W.mapOf_K (prog := X.prog) (w := X.w) I.kIn hl0 hk0).typeIs
  refine wpAny_Call_method m.base m.few m.line PySem.F.plainAttrs_dict PySem.F.slot_dict_get PySem.F.type_dict_get (ld_glob I hg hm ?_ hd)
  refine ⟨tyD I, fun b q => ?_, ?_⟩
  · cases q
    exact ⟨_, I.kIn _ _ hl0, rfl⟩
  rw [m.trees]
  refine Calls.callWith_builtin rfl (Calls.evalArgs_plain (Calls.spliced_cons (thn (he.run pins s σ H _ I h) fun iv s2 ⟨y, H2, I2, ry, z, o, ey, ⟨es, n, r, hl, hk, low, hn, hr⟩, q2⟩ => Calls.spliced_nil ?_)))
  subst ey
  obtain ⟨t, rfl⟩ := (show ∃ t, iv = Value.str z t from ry)
  have hm' := PySem.W.mapOf_K (prog := X.prog) (w := X.w) I2.kIn hl hk
  refine call_meetsIn PySem.F.slot_dict_get hm'.typeIs PySem.F.entry_dict_get (PySem.F.args_dict_get_2 _ _) (meets_dict_get (strKind X.prog X.w) f (strKind_is X.prog X.w z t) low) ⟨_, hm', ?_⟩
  rw [PySem.W.find_K hl hn]
  refine ⟨o.getD .non, H2, I2.tok _, ?_, q2⟩
  cases r with
  | none =>
    cases o with
    | none => rfl
    | some v => exact hr.elim
  | some u =>
    cases o with
    | none => exact hr.elim
    | some v => exact hr
theorem xe_cget {x : Str} {t : List (Str × D)} {f : Addr} {apos cpos : Pos} (hg : Gl X x) (hm : X.mg x = some (.ref f)) (hk : Kg X.K X.w f t) (hb : PE X b (tr X.K Γ cb)) (m : M1 X (.Name x p) "get" apos b cpos) (hd : (x == ("__debug__" : Str)) = false := by decide) :
    PE X (.Call (.Attribute (.Name x p) "get" apos) [b] [] cpos) (tr X.K Γ (.cget t cb)) := by
  obtain ⟨o0, ⟨es0, n0, _, hl0, hk0, _⟩, _⟩ := hk ""
  refine pe_w (pe_kget hg hm ⟨es0, n0, hl0, hk0⟩ hb m hd) fun σ H Q ⟨α, env, S, d, S', ok, en, e, k⟩ => ?_
  simp only [ev, Option.bind_eq_some_iff] at e
  obtain ⟨⟨d1, S1⟩, e1, e2⟩ := e
  refine ⟨α, env, S, d1, S1, ok, en, e1, fun α1 H1 v1 x1 ok1 r1 => ?_⟩
  cases d1 with
  | str z =>
    simp only [Option.some.injEq, Prod.mk.injEq] at e2
    obtain ⟨rfl, rfl⟩ := e2
    obtain ⟨o, kg, r⟩ := hk z
    cases r1
    exact ⟨z, o, rfl, kg, k α1 H1 _ x1 ok1 (r α1 H1)⟩
  | _ => simp at e2
/-- the rows of a written dict, as a table tells them -/
inductive TabR (K : PySem.W.Frag) : List DictEntry → List (Str × D) → Prop where
  | nil : TabR K [] []
  | cons {e : DictEntry} {es : List DictEntry} {z : Str} {d : D} {t : List (Str × D)} (tk : Tok) (v : V) (hk : e.key = .str z tk) (rv : RelV v e.val) (r : ∀ α H, Rp K α H d v) : TabR K es t → TabR K (e :: es) ((z, d) :: t)
theorem tab_find {K : PySem.W.Frag} (z : Str) : ∀ {es : List DictEntry} {t : List (Str × D)}, TabR K es t →
    (∃ e d v, es.find? (·.key.isStr z) = some e ∧ lookC t z = some d ∧ RelV v e.val ∧ ∀ α H, Rp K α H d v) ∨ (es.find? (·.key.isStr z) = none ∧ lookC t z = none ∧ es.any (·.refKey) = false)
  | _, _, .nil => .inr ⟨rfl, rfl, rfl⟩
  | _, _, @TabR.cons _ e es y d t tk v hk rv r rest => by
    have hs : e.key.isStr z = decide (y = z) := by
      rw [hk]
      show (y == z) = decide (y = z)
      by_cases h : y = z
      · subst h
        simp
      · simp [h]
    have hr : e.refKey = false := by
      unfold DictEntry.refKey
      rw [hk]
    by_cases h : y = z
    · refine .inl ⟨e, d, v, ?_, ?_, rv, r⟩
      · rw [List.find?_cons, hs]
        simp [h]
      · unfold lookC
        rw [List.find?_cons]
        simp [h]
    · have l1 : (e :: es).find? (·.key.isStr z) = es.find? (·.key.isStr z) := by
        rw [List.find?_cons, hs]
        simp [h]
      have l2 : lookC ((y, d) :: t) z = lookC t z := by
        unfold lookC
        rw [List.find?_cons]
        simp [h]
      rw [l1, l2]
      rcases tab_find z rest with ⟨e', d', v', h1, h2, h3, h4⟩ | ⟨h1, h2, h3⟩
      · exact .inl ⟨e', d', v', h1, h2, h3, h4⟩
      · exact .inr ⟨h1, h2, by rw [List.any_cons, hr, h3]; rfl⟩
/-- which keys there are -/
def Kn (K : PySem.W.Frag) (w : World) (a : Addr) (t : List (Str × D)) : Prop := ∃ es n, KDict K w a es n ∧ ∀ z, ∃ r, PySem.W.nsIn K a z = some r ∧ r.isSome = (lookC t z).isSome
def Kt (K : PySem.W.Frag) (w : World) (a : Addr) (t : List (Str × D)) : Prop := Kd K w a t ∧ Kg K w a t ∧ Kn K w a t
theorem kt_of {K : PySem.W.Frag} {w : World} {a : Addr} {es : Array DictEntry} {n : Nat} {t : List (Str × D)} (hl : K.lookup a = some ⟨.type "dict", none, .dict es n, #[]⟩) (hk : PySem.W.KeysLit w.params es.toList) (low : (a == sysModules) = false) (ht : TabR K es.toList t) : Kt K w a t := by
  have ns : ∀ z, PySem.W.nsIn K a z = match es.toList.find? (·.key.isStr z) with
      | some e => some (some e.val)
      | none => if es.toList.any (·.refKey) then none else some none := fun z => by
    unfold PySem.W.nsIn
    rw [hl]
    rfl
  refine ⟨?_, ?_, es, n, ⟨hl, hk, low⟩, fun z => ?_⟩
  · intro z d hd
    rcases tab_find z ht with ⟨e, d', v, h1, h2, h3, h4⟩ | ⟨h1, h2, h3⟩
    · rw [hd] at h2
      cases h2
      exact ⟨v, ⟨es, n, e.val, hl, hk, by rw [ns, h1], h3⟩, h4⟩
    · rw [hd] at h2
      cases h2
  · intro z
    rcases tab_find z ht with ⟨e, d', v, h1, h2, h3, h4⟩ | ⟨h1, h2, h3⟩
    · exact ⟨some v, ⟨es, n, some e.val, hl, hk, low, by rw [ns, h1], h3⟩, fun α H => by rw [h2]; exact h4 α H⟩
    · exact ⟨none, ⟨es, n, none, hl, hk, low, by rw [ns, h1, h3]; rfl, trivial⟩, fun α H => by rw [h2]; exact .non⟩
  · rcases tab_find z ht with ⟨e, d', v, h1, h2, h3, h4⟩ | ⟨h1, h2, h3⟩
    · exact ⟨some e.val, by rw [ns, h1], by rw [h2]; rfl⟩
    · exact ⟨none, by rw [ns, h1, h3]; rfl, by rw [h2]; rfl⟩
theorem strs_vals : ∀ {ys : List Str} {its : List Value}, Vals (ys.map V.str) its → StrsAre its ys
  | [], _, r => by cases r; exact .nil
  | y :: ys, _, r => by
    cases r with
    | cons h r =>
      obtain ⟨t, rfl⟩ := h
      exact .cons y t (strs_vals r)
def rCntS (K : PySem.W.Frag) : V → List V → Hp → VK → Prop := fun x xs H Q => ∃ (q : Addr) (ys : List Str) (z : Str), x = .ref q ∧ xs = [.str z] ∧ SqL K H q (ys.map V.str) ∧ Q (.int (PySem.Spec.countIn (.str z) (ys.map PyData.str))) H
theorem mt_countS : MtR X "list.count" (rCntS X.K) := by
  intro pins s σ H x xs v us Q I rx rxs h
  obtain ⟨q, ys, z, rfl, rfl, hs, hq⟩ := h
  cases rx
  obtain ⟨u, rfl, ru⟩ := rxs.one
  obtain ⟨t, rfl⟩ := ru
  obtain ⟨its, rv, isl, hlen⟩ := I.list hs
  obtain ⟨o, n, ho, hc, hdn, hd⟩ := isl
  exact count_list_strs (vs := its) ⟨o, ho, hc, n, hd⟩ (strs_vals rv) ⟨.int (PySem.Spec.countIn (.str z) (ys.map PyData.str)), H, I.tok _, ⟨s.toks, rfl⟩, hq⟩
theorem strsD_map : ∀ {ds : List D} {ys : List Str} {K : PySem.W.Frag} {α : List Addr} {H : Hp} {vs : List V}, strsD ds = some ys → Rps K α H ds vs → vs = ys.map V.str
  | [], ys, K, α, H, vs, e, r => by
    simp only [strsD, Option.some.injEq] at e
    subst e
    exact r.unnil
  | d :: ds, ys, K, α, H, vs, e, r => by
    obtain ⟨w, ws, rfl, r1, r2⟩ := r.uncons
    cases d with
    | str z =>
      simp only [strsD, Option.map_eq_some_iff] at e
      obtain ⟨zs, e1, rfl⟩ := e
      cases r1
      rw [strsD_map e1 r2]
      rfl
    | _ => simp [strsD] at e
theorem xe_cnts {apos cpos : Pos} {o e : Expr} {co ce : E} (ho : PE X o (tr X.K Γ co)) (he : PE X e (tr X.K Γ ce))
    (hbase : attributeBase o "count" X.env (eval o X.env) = eval o X.env := by rfl)
    (hfew : ((backTo cpos (starEach [e] X.env)).all (fun x => !x.1) && (backToKw cpos (keywordEach [] X.env)).all (fun x => x.1.isSome)
      && decide (([e] : List Expr).length + ([] : List Keyword).length + (if ([] : List Keyword).isEmpty then 0 else 1) < 30)) = true := by rfl)
    (hline : (apos.endLine == cpos.line) = true := by rfl) (hs : starEach [e] X.env = (false, eval e X.env) :: starEach [] X.env := by rfl) (hplain : (backTo cpos (starEach ([] : List Expr) X.env)).any (·.1) = false := by rfl) :
    PE X (.Call (.Attribute o "count" apos) [e] [] cpos) (tr X.K Γ (.cnts co ce)) :=
  pe_w (pe_bm PySem.F.plainAttrs_list PySem.F.slot_list_count PySem.F.type_list_count mt_countS ho (pa_cons he pa_nil hs) hbase hfew hline hs hplain) fun σ H Q ⟨α, env, S, d, S', ok, en, e, k⟩ => by
    simp only [ev, Option.bind_eq_some_iff] at e
    obtain ⟨⟨d1, S1⟩, e1, e2⟩ := e
    split at e2
    · rename_i hl
      simp only [Option.bind_eq_some_iff] at e2
      obtain ⟨⟨d2, S2⟩, e2, e3⟩ := e2
      refine ⟨α, env, S, d1, S1, ok, en, e1, fun α1 H1 v1 x1 ok1 r1 => ⟨lst_ty ok1 r1 hl, α1, env, S1, d2, S2, ok1, en.mono x1, e2, fun α2 H2 v2 x2 ok2 r2 => ?_⟩⟩
      have r1' := r1.mono x2
      cases d1 with
      | ref m =>
        cases d2 with
        | str z =>
          simp only [cntD] at e3
          split at e3
          · rename_i xs e4
            simp only [Option.map_eq_some_iff, Prod.mk.injEq] at e3
            obtain ⟨ys, e5, rfl, rfl⟩ := e3
            obtain ⟨q, vs, rfl, _, h, rs⟩ := ok2.lst e4 r1'
            have ev := strsD_map e5 rs
            subst ev
            cases r2
            exact ⟨q, ys, z, rfl, rfl, SqL.of h, k α2 H2 _ (x1.trans x2) ok2 (.int _)⟩
          · cases e3
        | _ => simp [cntD] at e3
      | _ => simp [cntD] at e3
    · cases e2
end
section
variable {X : Cx} {Γ : Fs} {a b c : Expr} {cs : E} {pos : Pos}
/-- x, y, z = a, b, c -/
theorem xs_par3 {i j l : Nat} {x y z : Str} {px py pz pt : Pos} {kt k2 pt2} (hc : X.calm = true) (hN : X.N.Nodup) (hi : X.N[i]? = some x) (hj : X.N[j]? = some y) (hl : X.N[l]? = some z) (hij : i ≠ j) (hil : i ≠ l) (hjl : j ≠ l)
    (hx : X.env.scope.names.lookup x = some .local) (hy : X.env.scope.names.lookup y = some .local) (hz : X.env.scope.names.lookup z = some .local) (ha : PA X [a, b, c] (trA X.K Γ cs))
    (hw : swappedStores [.Tuple [.Name x px, .Name y py, .Name z pz] kt pt] (.Tuple [a, b, c] k2 pt2) X.env = pure (some [x, y, z]) := by rfl)
    (hs : swapsWithSole [.Tuple [.Name x px, .Name y py, .Name z pz] kt pt] (.Tuple [a, b, c] k2 pt2) pos.line X.env = pure false := by rfl) :
    PS X (.Assign [.Tuple [.Name x px, .Name y py, .Name z pz] kt pt] (.Tuple [a, b, c] k2 pt2) pos) (trS X.K Γ (.asg (.tup (.cons (.name i) (.cons (.name j) (.cons (.name l) .nil)))) (.tup cs))) :=
  ps_w (ps_par3 hc hN hi hj hl hij hil hjl hx hy hz ha hw hs) fun D σ H ⟨α, env, S, o, env', S', ok, en, e1, k⟩ => by
    simp only [ex, ev, Option.bind_eq_some_iff, Option.map_eq_some_iff, Prod.mk.injEq] at e1
    obtain ⟨⟨d, S1⟩, ⟨⟨d2, S2⟩, e2, ds, e3, e4⟩, env1, e5, rfl, rfl, rfl⟩ := e1
    cases argsOf_some e3
    split at e4
    · simp only [Option.some.injEq, Prod.mk.injEq] at e4
      obtain ⟨rfl, rfl⟩ := e4
      refine ⟨α, env, S, ds, S2, ok, en, e2, fun α1 H1 vs x1 ok1 r1 => ?_⟩
      match ds, e5, r1 with
      | [d1, d2, d3], e5, r1 =>
        obtain ⟨u, us, rfl, r2, r1⟩ := r1.uncons
        obtain ⟨v, vs, rfl, r3, r1⟩ := r1.uncons
        obtain ⟨w, ws, rfl, r4, r1⟩ := r1.uncons
        have e0 := r1.unnil
        subst e0
        simp only [asgG, Option.bind_some, Option.some.injEq] at e5
        subst e5
        exact ⟨u, v, w, rfl, k α1 H1 x1 ok1 _ ((((en.mono x1).set i r2).set j r3).set l r4)⟩
      | [], e5, r1 => simp [asgG] at e5
      | [_], e5, r1 => simp [asgG] at e5
      | [_, _], e5, r1 => simp [asgG] at e5
      | _ :: _ :: _ :: _ :: _, e5, r1 => simp [asgG] at e5
    · cases e4
end
end Ix

namespace Ix
open PySem PySem.Spec PyProof.Rows L2
/-! ### repr of data -/
section
variable {X : Cx} {Γ : Fs} {e : Expr} {ce : E} {pos p : Pos} {k : Nat}
def rRepr (K : PySem.W.Frag) : List V → Hp → VK → Prop := fun xs H Q => ∃ (a : Addr) (d : PyData), xs = [.ref a] ∧ Dp K H (.ref a) d ∧ d.showable = true ∧ d.hasDict = false ∧ d.depth ≤ 64 ∧ d.shown.length ≤ sizeLine ∧ Q (.str d.shown) H
theorem call_reprD (hr : RoomG k X.A) : CallR X (.builtin "repr") (rRepr X.K) := by
  intro pins s σ H xs us Q I r h
  obtain ⟨a, d, rfl, hd, h1, h2, h3, h4, q⟩ := h
  obtain ⟨u, rfl, ru⟩ := vals1 r
  obtain ⟨as, rd⟩ := Dp.reads I d _ _ hd ru
  cases ru
  have un := hr.room.un
  refine repr_of_reads' rd h1 (fun z => by rw [h2] at z; cases z) hr.none (by omega) (fun _ _ z => z) (fun h' v tk keep => ?_) h4
  exact ⟨.str d.shown, H, I.kept keep, ⟨v, rfl⟩, q⟩
theorem xe_rpr {x : Str} (hr : RoomG k X.A) (hg : Gl X x) (hm : X.mg x = none) (hv : bootBuiltins x = some (.builtin "repr")) (ha : PE X e (tr X.K Γ ce)) (hn : x ≠ "__name__" := by decide) (hdb : (x == ("__debug__" : Str)) = false := by decide)
    (he : starEach [e] X.env = (false, eval e X.env) :: starEach [] X.env := by rfl) (hpl : (backTo pos (starEach ([] : List Expr) X.env)).any (·.1) = false := by rfl) : PE X (.Call (.Name x p) [e] [] pos) (tr X.K Γ (.rpr ce)) :=
  pe_w (pe_callB (call_reprD hr) hg hm hv (pa_cons ha pa_nil he) hn hdb he hpl) fun σ H Q ⟨α, env, S, d, S', ok, en, e, k⟩ => by
    simp only [ev, Option.bind_eq_some_iff] at e
    obtain ⟨⟨d1, S1⟩, e1, e2⟩ := e
    refine ⟨α, env, S, d1, S1, ok, en, e1, fun α1 H1 v1 x1 ok1 r1 => ?_⟩
    have fin : ∀ a, v1 = .ref a → (py 9 S1 d1).bind (fun d => if PyData.showable d = true ∧ PyData.hasDict d = false ∧ PyData.depth d ≤ 64 ∧ (PyData.shown d).length ≤ sizeLine then some (D.str (PyData.shown d), S1) else none) = some (d, S') → rRepr X.K [v1] H1 Q := fun a ea e3 => by
      simp only [Option.bind_eq_some_iff] at e3
      obtain ⟨y, e4, e5⟩ := e3
      split at e5
      · rename_i c
        simp only [Option.some.injEq, Prod.mk.injEq] at e5
        obtain ⟨rfl, rfl⟩ := e5
        subst ea
        exact ⟨a, y, rfl, py_of ok1 _ _ _ _ r1 e4, c.1, c.2.1, c.2.2.1, c.2.2.2, k α1 H1 _ x1 ok1 (.str _)⟩
      · cases e5
    cases d1 with
    | tup xs =>
      cases r1 with
      | tup h l q => exact fin _ rfl e2
    | ref m =>
      cases r1 with
      | ref h => exact fin _ rfl e2
    | _ => simp [rprD] at e2
end
end Ix

namespace Ix
open PySem PySem.Spec PyProof.Rows L2
/-! ### clear, join, get with a default -/
section
variable {X : Cx} {Γ : Fs} {a b c : Expr} {ca cb cc : E} {pos p : Pos}
theorem xe_clear {apos cpos : Pos} {o : Expr} {co : E} (ho : PE X o (tr X.K Γ co)) (hbase : attributeBase o "clear" X.env (eval o X.env) = eval o X.env := by rfl) (hline : (apos.endLine == cpos.line) = true := by rfl) :
    PE X (.Call (.Attribute o "clear" apos) [] [] cpos) (tr X.K Γ (.meth .clear co .nil)) :=
  pe_w (pe_bm0 PySem.F.plainAttrs_list PySem.F.slot_list_clear PySem.F.type_list_clear m_clear ho hbase hline) fun σ H Q ⟨α, env, S, d, S', ok, en, e, k⟩ => by
    simp only [ev, Option.bind_eq_some_iff] at e
    obtain ⟨⟨d1, S1⟩, e1, e2⟩ := e
    split at e2
    · rename_i hl
      simp only [Option.bind_some, argsOf] at e2
      exact ⟨α, env, S, d1, S1, ok, en, e1, fun α1 H1 v1 x1 ok1 r1 => ⟨lst_ty ok1 r1 hl, ⟨α1, S1, d1, [], d, S', ok1, r1, Rps.nil, e2, fun α3 H3 v x3 ok3 r3 => k α3 H3 v (x1.trans x3) ok3 r3⟩⟩⟩
    · cases e2
theorem strs_of {K : PySem.W.Frag} {α : List Addr} {H : Hp} : ∀ {xs : List D} {ys : List Str} {vs : List V}, strsD xs = some ys → Rps K α H xs vs → vs = ys.map V.str
  | [], ys, vs, h, r => by
    simp only [strsD, Option.some.injEq] at h
    subst h
    exact r.unnil
  | d :: ds, ys, vs, h, r => by
    cases d with
    | str z =>
      simp only [strsD, Option.map_eq_some_iff] at h
      obtain ⟨zs, h1, rfl⟩ := h
      obtain ⟨w, ws, rfl, r1, r2⟩ := r.uncons
      cases r1
      rw [strs_of h1 r2]
      rfl
    | _ => simp [strsD] at h
theorem xe_joinS {apos : Pos} {z : Str} {j : Nat} {p2 : Pos} (ha : PE X a (tr X.K Γ ca)) (hs : starEach [a] X.env = [(false, eval a X.env)] := by rfl)
    (hbase : attributeBase (.Constant (.str z) j p2) "join" X.env (eval (.Constant (.str z) j p2) X.env) = eval (.Constant (.str z) j p2) X.env := by rfl) (hline : (apos.endLine == pos.line) = true := by rfl) :
    PE X (.Call (.Attribute (.Constant (.str z) j p2) "join" apos) [a] [] pos) (tr X.K Γ (.joinS z ca)) :=
  pe_w (pe_join (pe_str (x := z)) ha hs hbase hline) fun σ H Q ⟨α, env, S, d, S', ok, en, e, k⟩ => by
    simp only [ev, Option.bind_eq_some_iff, joinD] at e
    obtain ⟨⟨d1, S1⟩, e1, ys, ⟨xs, e2, e3⟩, e4⟩ := e
    split at e4
    · rename_i hz
      simp only [Option.some.injEq, Prod.mk.injEq] at e4
      obtain ⟨rfl, rfl⟩ := e4
      refine ⟨⟨z, rfl⟩, α, env, S, d1, S1, ok, en, e1, fun α1 H1 v1 x1 ok1 r1 => ?_⟩
      obtain ⟨q, vs, rfl, rs, t⟩ := seq_of ok1 r1 e2
      have ev := strs_of e3 rs
      subst ev
      exact ⟨z, q, ys, rfl, rfl, t.elim (fun t => .inr t.2) fun t => .inl t.2, hz, k α1 H1 _ x1 ok1 (.str _)⟩
    · cases e4
theorem find_no {K : PySem.W.Frag} {α : List Addr} {H : Hp} : ∀ {ks : List (Key × D)} {vs : List (Key × V)} {k : Key}, vs.map (·.1) = ks.map (·.1) → findK ks k = none → valV vs k = none
  | [], [], k, _, _ => rfl
  | [], _ :: _, k, h, _ => by simp at h
  | (x, dx) :: ks, [], k, h, _ => by simp at h
  | (x, dx) :: ks, (y, vy) :: vs, k, h, e => by
    simp only [List.map_cons, List.cons.injEq] at h
    obtain ⟨rfl, h⟩ := h
    unfold findK at e
    unfold valV
    rw [List.find?_cons] at e ⊢
    by_cases c : y = k
    · simp [c] at e
    · simp only [c, decide_false] at e ⊢
      exact find_no (K := K) (α := α) (H := H) h e
theorem xe_getd {k : Nat} {apos cpos : Pos} (hr : RoomG k X.A) (ha : PE X a (tr X.K Γ ca)) (hb : PE X b (tr X.K Γ cb)) (hc : PE X c (tr X.K Γ cc)) (m : M2 X a "get" apos b c cpos) :
    PE X (.Call (.Attribute a "get" apos) [b, c] [] cpos) (tr X.K Γ (.getd ca cb cc)) :=
  pe_w (pe_dget2 (by have := un_of hr; omega) ha hb hc m) fun σ H Q ⟨α, env, S, d, S', ok, en, e, k⟩ => by
    simp only [ev, Option.bind_eq_some_iff] at e
    obtain ⟨⟨d1, S1⟩, e1, e2⟩ := e
    split at e2
    · rename_i hd
      simp only [Option.bind_eq_some_iff] at e2
      obtain ⟨⟨d2, S2⟩, e2, ⟨d3, S3⟩, e3, e4⟩ := e2
      refine ⟨α, env, S, d1, S1, ok, en, e1, fun α1 H1 v1 x1 ok1 r1 => ?_⟩
      cases d1 with
      | ref m =>
        have hd2 : ∃ ks, S1[m]? = some (.dct ks) := by
          simp only [isDct] at hd
          split at hd
          · exact ⟨_, by assumption⟩
          · cases hd
        obtain ⟨ks0, hk0⟩ := hd2
        obtain ⟨p0, vs0, rfl, e7, e8, _, _⟩ := ok1.dct hk0 r1
        refine ⟨p0, rfl, .inl ⟨vs0, .inl e8⟩, α1, env, S1, d2, S2, ok1, en.mono x1, e2, fun α2 H2 v2 x2 ok2 r2 => ⟨α2, env, S2, d3, S3, ok2, en.mono (x1.trans x2), e3, fun α3 H3 v3 x3 ok3 r3 => ?_⟩⟩
        have r1' := r1.mono (x2.trans x3)
        have r2' := r2.mono x3
        simp only [getdD] at e4
        split at e4
        · rename_i ks e5
          simp only [Option.map_eq_some_iff, Prod.mk.injEq] at e4
          obtain ⟨y, e6, rfl, rfl⟩ := e4
          obtain ⟨p, vs, ep, e9, e10, e11, e12⟩ := ok3.dct e5 r1'
          cases ep
          have ey : v2 = kV y := by
            cases d2 with
            | int i => simp only [keyD, Option.some.injEq] at e6; subst e6; cases r2; rfl
            | str z => simp only [keyD, Option.some.injEq] at e6; subst e6; cases r2; rfl
            | _ => simp [keyD] at e6
          subst ey
          refine ⟨valV vs y, DGet.k e10, ?_⟩
          cases hf : findK ks y with
          | none =>
            rw [find_no (K := X.K) (α := α3) (H := H3) e11 hf]
            rw [hf] at k
            exact k α3 H3 v3 (x1.trans (x2.trans x3)) ok3 r3
          | some dd =>
            obtain ⟨v, e13, r4⟩ := find_of e11 e12 hf
            rw [e13]
            rw [hf] at k
            exact k α3 H3 v (x1.trans (x2.trans x3)) ok3 r4
        · cases e4
      | _ => simp [isDct] at hd
    · cases e2
theorem xe_din {k : Nat} (hr : RoomG k X.A) (ha : PE X a (tr X.K Γ ca)) (hb : PE X b (tr X.K Γ cb)) (hm : behindInMarks .In b = false) : PE X (.Compare a [.In] [b] pos) (tr X.K Γ (.din ca cb)) :=
  pe_w (pe_cmp (pc_din (by have := un_of hr; omega) ha hb) hm) fun σ H Q ⟨α, env, S, d, S', ok, en, e, k⟩ => by
    simp only [ev, Option.bind_eq_some_iff] at e
    obtain ⟨⟨d1, S1⟩, e1, ⟨d2, S2⟩, e2, e3⟩ := e
    refine ⟨α, env, S, d1, S1, ok, en, e1, fun α1 H1 v1 x1 ok1 r1 => ⟨α1, env, S1, d2, S2, ok1, en.mono x1, e2, fun α2 H2 v2 x2 ok2 r2 => ?_⟩⟩
    cases d2 with
    | ref m =>
      simp only [dinD] at e3
      split at e3
      · rename_i ks e5
        simp only [Option.map_eq_some_iff, Prod.mk.injEq] at e3
        obtain ⟨y, e6, rfl, rfl⟩ := e3
        obtain ⟨p, vs, ep, e9, e10, e11, e12⟩ := ok2.dct e5 r2
        cases ep
        have r1' := r1.mono x2
        have ey : v1 = kV y := by
          cases d1 with
          | int i => simp only [keyD, Option.some.injEq] at e6; subst e6; cases r1; rfl
          | str z => simp only [keyD, Option.some.injEq] at e6; subst e6; cases r1; rfl
          | _ => simp [keyD] at e6
        subst ey
        refine ⟨p, valV vs y, rfl, DGet.k e10, ?_⟩
        cases hf : findK ks y with
        | none =>
          rw [find_no (K := X.K) (α := α2) (H := H2) e11 hf]
          rw [hf] at k
          exact k α2 H2 (.bl false) (x1.trans x2) ok2 (.bl _)
        | some d0 =>
          obtain ⟨v, ev1, rv⟩ := find_of (K := X.K) (α := α2) (H := H2) e11 e12 hf
          rw [ev1]
          rw [hf] at k
          exact k α2 H2 (.bl true) (x1.trans x2) ok2 (.bl _)
      · cases e3
    | _ => simp [dinD] at e3
end
end Ix

namespace Ix
open PySem PySem.Spec PyProof.Rows L2
/-! ### while, signs of texts, keys of written dicts -/
section
variable {X : Cx} {Γ : Fs} {a b : Expr} {ca cb : E} {pos p : Pos}
theorem loopW_succ {test : Sl → Hd → Option (Bool × Hd)} {body : Sl → Hd → Option (Out × Sl × Hd)} {n : Nat} {env : Sl} {S : Hd} : loopW test body (n + 1) env S = (test env S).bind fun t => if t.1 = true then (body env t.2).bind fun r => match r.1 with
    | .brk => some (.nx, r.2)
    | .ret x => some (.ret x, r.2)
    | _ => loopW test body n r.2.1 r.2.2
    else some (.nx, env, t.2) := rfl
theorem xs_while {body : List Stmt} {cc : E} {c1 : Sx} {c : Expr} (hp : PassesOwn (model X.prog X.w) X.A X.env X.xe) (hc : PT X c (trT X.K Γ cc)) (hb : PSs X body (trS X.K Γ c1)) : PS X (.While c body [] pos) (trS X.K Γ (.while_ cc c1)) :=
  ps_w (ps_while hp hc hb) fun D σ H ⟨α, env, S, o, env', S', ok, en, e, kn⟩ => by
    simp only [ex] at e
    refine ⟨fun m σ1 H1 => ∃ α1 env1 S1, Ok X.K α1 S1 H1 ∧ En X.K α1 H1 env1 σ1 ∧ Xt X.K α H α1 H1 ∧ loopW (fun e S1 => tst (ev Γ cc e S1)) (fun e S1 => ex Γ c1 e S1) m env1 S1 = some (o, env', S'), ⟨most, α, env, S, ok, en, Xt.refl, e⟩, ?_⟩
    rintro m σ1 H1 ⟨α1, env1, S1, ok1, en1, x1, lp⟩
    cases m with
    | zero => simp [loopW] at lp
    | succ m =>
      rw [loopW_succ] at lp
      simp only [Option.bind_eq_some_iff] at lp
      obtain ⟨⟨t, S2⟩, e1, e2⟩ := lp
      refine ⟨α1, env1, S1, t, S2, ok1, en1, e1, fun α2 H2 x2 ok2 => ?_⟩
      cases t with
      | false =>
        rw [if_neg Bool.false_ne_true] at e2 ⊢
        simp only [Option.some.injEq, Prod.mk.injEq] at e2
        obtain ⟨rfl, rfl, rfl⟩ := e2
        exact kn α2 H2 (x1.trans x2) ok2 σ1 (en1.mono x2)
      | true =>
        rw [if_pos rfl] at e2 ⊢
        simp only [Option.bind_eq_some_iff] at e2
        obtain ⟨⟨o3, env3, S3⟩, e3, e4⟩ := e2
        refine ⟨fun σ4 H4 => ∃ α4 env4 S4, Ok X.K α4 S4 H4 ∧ En X.K α4 H4 env4 σ4 ∧ Xt X.K α H α4 H4 ∧ loopW (fun e S1 => tst (ev Γ cc e S1)) (fun e S1 => ex Γ c1 e S1) m env4 S4 = some (o, env', S'), fun σ4 H4 w => ⟨m, Nat.lt_succ_self m, w⟩, ?_⟩
        refine ⟨α2, env1, S2, o3, env3, S3, ok2, en1.mono x2, e3, fun α5 H5 x5 ok5 => ?_⟩
        have xx := x1.trans (x2.trans x5)
        cases o3 with
        | nx => exact fun σ5 en5 => ⟨α5, env3, S3, ok5, en5, xx, e4⟩
        | cont => exact fun σ5 en5 => ⟨α5, env3, S3, ok5, en5, xx, e4⟩
        | brk =>
          simp only [Option.some.injEq, Prod.mk.injEq] at e4
          obtain ⟨rfl, rfl, rfl⟩ := e4
          exact kn α5 H5 xx ok5
        | ret d =>
          simp only [Option.some.injEq, Prod.mk.injEq] at e4
          obtain ⟨rfl, rfl, rfl⟩ := e4
          exact kn α5 H5 xx ok5
theorem w_cin {x : Str} {t : List (Str × D)} {f : Addr} {es : Array DictEntry} {n : Nat} (hz : ∀ z, ∃ r, PySem.W.nsIn X.K f z = some r ∧ r.isSome = (lookC t z).isSome) {σ : L2.St} {H : Hp} {Q : VK} (h : tr X.K Γ (.cin false t cb) σ H Q) :
    tOp (fun x y H Q => ∃ (z : Str) (r : Option Value), x = .str z ∧ y = .ref f ∧ PySem.W.nsIn X.K f z = some r ∧ Q (.bl r.isSome) H) (tr X.K Γ cb) (tC (.ref f)) σ H Q := by
  obtain ⟨α, env, S, d, S', ok, en, e, k⟩ := h
  simp only [ev, Option.bind_eq_some_iff] at e
  obtain ⟨⟨d1, S1⟩, e1, e2⟩ := e
  refine ⟨α, env, S, d1, S1, ok, en, e1, fun α1 H1 v1 x1 ok1 r1 => ?_⟩
  cases d1 with
  | str z =>
    simp only [Option.some.injEq, Prod.mk.injEq] at e2
    obtain ⟨rfl, rfl⟩ := e2
    obtain ⟨r, h1, h2⟩ := hz z
    cases r1
    refine ⟨z, r, rfl, rfl, h1, ?_⟩
    rw [h2]
    exact k α1 H1 _ x1 ok1 (.bl _)
  | _ => simp at e2
theorem w_notcin {x : Str} {t : List (Str × D)} {f : Addr} {es : Array DictEntry} {n : Nat} (hz : ∀ z, ∃ r, PySem.W.nsIn X.K f z = some r ∧ r.isSome = (lookC t z).isSome) {σ : L2.St} {H : Hp} {Q : VK} (h : tr X.K Γ (.cin true t cb) σ H Q) :
    tOp (fun x y H Q => ∃ (z : Str) (r : Option Value), x = .str z ∧ y = .ref f ∧ PySem.W.nsIn X.K f z = some r ∧ Q (.bl (!r.isSome)) H) (tr X.K Γ cb) (tC (.ref f)) σ H Q := by
  obtain ⟨α, env, S, d, S', ok, en, e, k⟩ := h
  simp only [ev, Option.bind_eq_some_iff] at e
  obtain ⟨⟨d1, S1⟩, e1, e2⟩ := e
  refine ⟨α, env, S, d1, S1, ok, en, e1, fun α1 H1 v1 x1 ok1 r1 => ?_⟩
  cases d1 with
  | str z =>
    simp only [Option.some.injEq, Prod.mk.injEq] at e2
    obtain ⟨rfl, rfl⟩ := e2
    obtain ⟨r, h1, h2⟩ := hz z
    cases r1
    refine ⟨z, r, rfl, rfl, h1, ?_⟩
    rw [h2]
    exact k α1 H1 _ x1 ok1 (.bl _)
  | _ => simp at e2
theorem cin_bl {neg : Bool} {t : List (Str × D)} {env : Sl} {S S' : Hd} {d : D} (e : ev Γ (.cin neg t cb) env S = some (d, S')) : ∃ b, d = .bl b := by
  simp only [ev, Option.bind_eq_some_iff] at e
  obtain ⟨⟨d1, S1⟩, e1, e2⟩ := e
  cases d1 with
  | str z =>
    simp only [Option.some.injEq, Prod.mk.injEq] at e2
    exact ⟨_, e2.1.symm⟩
  | _ => simp at e2
/-- x in a written dict -/
theorem xe_cin {x : Str} {t : List (Str × D)} {f : Addr} (hg : Gl X x) (hm : X.mg x = some (.ref f)) (hk : Kn X.K X.w f t) (hb : PE X b (tr X.K Γ cb)) (hd : (x == ("__debug__" : Str)) = false := by decide) (hmk : behindInMarks .In (.Name x p) = false := by rfl) :
    PE X (.Compare b [.In] [.Name x p] pos) (tr X.K Γ (.cin false t cb)) := by
  obtain ⟨es, n, D, hz⟩ := hk
  exact pe_w (pe_cmpR (op_in_kd D) hb (pe_glob (v := .ref f) hg hm rfl hd) hmk) fun σ H Q h => w_cin (x := x) (es := es) (n := n) hz h
theorem xe_notcin {x : Str} {t : List (Str × D)} {f : Addr} (hg : Gl X x) (hm : X.mg x = some (.ref f)) (hk : Kn X.K X.w f t) (hb : PE X b (tr X.K Γ cb)) (hd : (x == ("__debug__" : Str)) = false := by decide) (hmk : behindInMarks .NotIn (.Name x p) = false := by rfl) :
    PE X (.Compare b [.NotIn] [.Name x p] pos) (tr X.K Γ (.cin true t cb)) := by
  obtain ⟨es, n, D, hz⟩ := hk
  exact pe_w (pe_cmpR (op_notIn_kd D) hb (pe_glob (v := .ref f) hg hm rfl hd) hmk) fun σ H Q h => w_notcin (x := x) (es := es) (n := n) hz h
theorem xt_cin {x : Str} {t : List (Str × D)} {f : Addr} (hg : Gl X x) (hm : X.mg x = some (.ref f)) (hk : Kn X.K X.w f t) (hb : PE X b (tr X.K Γ cb)) (hd : (x == ("__debug__" : Str)) = false := by decide) (hmk : behindInMarks .In (.Name x p) = false := by rfl) :
    PT X (.Compare b [.In] [.Name x p] pos) (trT X.K Γ (.cin false t cb)) := by
  obtain ⟨es, n, D, hz⟩ := hk
  exact pt_w (pt_cmpR (op_in_kd D) hb (pe_glob (v := .ref f) hg hm rfl hd) hmk) fun σ H Q h => w_test (fun _ _ _ _ e => cin_bl e) (fun σ H Q h => w_cin (x := x) (es := es) (n := n) hz h) h
theorem xt_notcin {x : Str} {t : List (Str × D)} {f : Addr} (hg : Gl X x) (hm : X.mg x = some (.ref f)) (hk : Kn X.K X.w f t) (hb : PE X b (tr X.K Γ cb)) (hd : (x == ("__debug__" : Str)) = false := by decide) (hmk : behindInMarks .NotIn (.Name x p) = false := by rfl) :
    PT X (.Compare b [.NotIn] [.Name x p] pos) (trT X.K Γ (.cin true t cb)) := by
  obtain ⟨es, n, D, hz⟩ := hk
  exact pt_w (pt_cmpR (op_notIn_kd D) hb (pe_glob (v := .ref f) hg hm rfl hd) hmk) fun σ H Q h => w_test (fun _ _ _ _ e => cin_bl e) (fun σ H Q h => w_notcin (x := x) (es := es) (n := n) hz h) h
/-- a sign in a text -/
theorem xe_sgn (ha : PE X a (tr X.K Γ ca)) (hb : PE X b (tr X.K Γ cb)) (hmk : behindInMarks .In b = false := by rfl) : PE X (.Compare a [.In] [b] pos) (tr X.K Γ (.sgn ca cb)) :=
  pe_w (pe_cmpR op_in_sign ha hb hmk) fun σ H Q ⟨α, env, S, d, S', ok, en, e, k⟩ => by
    simp only [ev, Option.bind_eq_some_iff] at e
    obtain ⟨⟨d1, S1⟩, e1, ⟨d2, S2⟩, e2, e3⟩ := e
    refine ⟨α, env, S, d1, S1, ok, en, e1, fun α1 H1 v1 x1 ok1 r1 => ⟨α1, env, S1, d2, S2, ok1, en.mono x1, e2, fun α2 H2 v2 x2 ok2 r2 => ?_⟩⟩
    have r1' := r1.mono x2
    cases d1 with
    | str u =>
      cases d2 with
      | str z =>
        simp only at e3
        split at e3
        · rename_i hs
          simp only [Option.some.injEq, Prod.mk.injEq] at e3
          obtain ⟨rfl, rfl⟩ := e3
          cases r1'
          cases r2
          have eu : u = ⟨#[u.cps.getD 0 0]⟩ := by
            obtain ⟨⟨l⟩⟩ := u
            match l, hs with
            | [c], _ => rfl
          exact ⟨u.cps.getD 0 0, z, by rw [← eu], rfl, k α2 H2 _ (x1.trans x2) ok2 (.bl _)⟩
        · cases e3
      | _ => simp at e3
    | _ => simp at e3
theorem xe_stw {apos : Pos} {z : Str} {j : Nat} {p2 : Pos} (ha : PE X a (tr X.K Γ ca)) (hs : starEach [(.Constant (.str z) j p2 : Expr)] X.env = [(false, eval (.Constant (.str z) j p2) X.env)] := by rfl)
    (hbase : attributeBase a "startswith" X.env (eval a X.env) = eval a X.env := by rfl) (hline : (apos.endLine == pos.line) = true := by rfl) :
    PE X (.Call (.Attribute a "startswith" apos) [.Constant (.str z) j p2] [] pos) (tr X.K Γ (.stw ca z)) :=
  pe_w (pe_m1 F.slot_str_startswith F.type_str_startswith mt_startswith ha pe_str hs hbase hline) fun σ H Q ⟨α, env, S, d, S', ok, en, e, k⟩ => by
    simp only [ev, Option.bind_eq_some_iff] at e
    obtain ⟨⟨d1, S1⟩, e1, e2⟩ := e
    refine ⟨α, env, S, d1, S1, ok, en, e1, fun α1 H1 v1 x1 ok1 r1 => ?_⟩
    cases d1 with
    | str u =>
      simp only [Option.some.injEq, Prod.mk.injEq] at e2
      obtain ⟨rfl, rfl⟩ := e2
      cases r1
      exact ⟨⟨u, rfl⟩, u, z, rfl, rfl, k α1 H1 _ x1 ok1 (.bl _)⟩
    | _ => simp at e2
theorem strs_rps {K : PySem.W.Frag} {α : List Addr} {H : Hp} : ∀ ys : List Str, Rps K α H (ys.map D.str) (ys.map V.str)
  | [] => Rps.nil
  | y :: ys => Rps.cons (.str y) (strs_rps ys)
theorem xe_split {apos : Pos} {z : Str} {j : Nat} {p2 : Pos} (ha : PE X a (tr X.K Γ ca)) (hs : starEach [(.Constant (.str z) j p2 : Expr)] X.env = [(false, eval (.Constant (.str z) j p2) X.env)] := by rfl)
    (hbase : attributeBase a "split" X.env (eval a X.env) = eval a X.env := by rfl) (hline : (apos.endLine == pos.line) = true := by rfl) :
    PE X (.Call (.Attribute a "split" apos) [.Constant (.str z) j p2] [] pos) (tr X.K Γ (.split ca z)) :=
  pe_w (pe_split ha pe_str hs hbase hline) fun σ H Q ⟨α, env, S, d, S', ok, en, e, k⟩ => by
    simp only [ev, Option.bind_eq_some_iff] at e
    obtain ⟨⟨d1, S1⟩, e1, e2⟩ := e
    refine ⟨α, env, S, d1, S1, ok, en, e1, fun α1 H1 v1 x1 ok1 r1 => ?_⟩
    cases d1 with
    | str u =>
      simp only at e2
      split at e2
      · rename_i hc
        simp only [Option.some.injEq, alloc, Prod.mk.injEq] at e2
        obtain ⟨rfl, rfl⟩ := e2
        cases r1
        refine ⟨⟨u, rfl⟩, u, z, rfl, rfl, hc.1, Nat.le_trans (Nat.add_le_add_right hc.2.1 2) (by decide), fun q hq => ?_⟩
        exact go_new ok1 hq (strs_rps _) fun α2 H2 v2 x2 ok2 r2 => k α2 H2 v2 (x1.trans x2) ok2 r2
      · cases e2
    | _ => simp at e2
theorem b_slen : CallR X (.builtin "len") (rA X.K (bltD .slen)) := by
  intro pins s σ H xs us Q I r ⟨α, S, ds, d, S', ok, rs, e, k⟩
  match ds, e with
  | [x], e =>
    obtain ⟨v, rfl, r1⟩ := rs.one'
    cases x with
    | str z =>
      simp only [bltD] at e
      split at e
      · rename_i hz
        simp only [Option.some.injEq, Prod.mk.injEq] at e
        obtain ⟨rfl, rfl⟩ := e
        cases r1
        exact call_len_str pins s σ H _ us Q I r ⟨z, rfl, most_line hz, k α H _ Xt.refl ok (.int _)⟩
      · cases e
    | _ => simp [bltD] at e
  | [], e => simp [bltD] at e
  | x :: _ :: _, e => cases x <;> simp [bltD] at e
theorem b_sint : CallR X (.type "int") (rA X.K (bltD .sint)) := by
  intro pins s σ H xs us Q I r ⟨α, S, ds, d, S', ok, rs, e, k⟩
  match ds, e with
  | [x], e =>
    obtain ⟨v, rfl, r1⟩ := rs.one'
    cases x with
    | str z =>
      simp only [bltD] at e
      split at e
      · rename_i hz
        simp only [Option.map_eq_some_iff, Prod.mk.injEq] at e
        obtain ⟨n, h1, rfl, rfl⟩ := e
        cases r1
        exact call_int_str pins s σ H _ us Q I r ⟨z, n, rfl, h1, hz, k α H _ Xt.refl ok (.int _)⟩
      · cases e
    | _ => simp [bltD] at e
  | [], e => simp [bltD] at e
  | x :: _ :: _, e => cases x <;> simp [bltD] at e
theorem xi_chars {tg e : Expr} {c : E} (h : PE X e (tr X.K Γ c)) : PI X tg e (trI X.K Γ .chars (.cons c .nil)) := by
  refine ⟨fun pins s σ H R I ⟨α, env, S, ds, S', its, ok, en, e1, e2, k⟩ => ?_⟩
  simp only [ev, Option.bind_eq_some_iff, Option.map_eq_some_iff, Option.some.injEq, Prod.mk.injEq, D.tup.injEq] at e1
  obtain ⟨⟨d, S1⟩, e1, _, rfl, dr, e3, rfl, rfl⟩ := e1
  cases argsOf_some e3
  cases d with
  | str z =>
    simp only [items, Option.some.injEq] at e2
    subst e2
    refine (pi_str h).run pins s σ H R I ⟨α, env, S, .str z, S1, ok, en, e1, fun α1 H1 v x1 ok1 r1 => ?_⟩
    cases r1
    have hw : Walk (Its z) (z.cps.toList.map fun c => D.str ⟨#[c]⟩).length (fun _ => True) (fun i H v H' => H' = H ∧ ∃ c, z.cps[i]? = some c ∧ v = .str ⟨#[c]⟩) := by
      rw [List.length_map, Array.length_toList]
      exact walk_str
    refine ⟨z, rfl, k α1 H1 _ _ _ x1 ok1 hw (fun α2 S2 H2 x2 ok2 e4 => trivial) fun i α2 S2 H2 x H3 x2 ok2 e4 hi ⟨y1, c, y2, y3⟩ => ?_⟩
    subst y1 y3
    refine ⟨.str ⟨#[c]⟩, ?_, Xt.refl, ok2, .str _⟩
    rw [List.getElem?_map, Array.getElem?_toList, y2]
    rfl
  | _ => simp [items] at e2
end
end Ix

namespace Ix
open PySem PySem.Spec PyProof.Rows L2 NdefX
/-! ### errors made, as values -/
theorem txt_of {K : PySem.W.Frag} {α : List Addr} {H : Hp} {d : D} {v : V} (r : Rp K α H d v) (h : txtD d = true) : ∃ y, txtV v = some y := by
  cases r with
  | str x =>
    simp only [txtD, decide_eq_true_eq] at h
    exact ⟨x, by simp only [txtV, if_pos h]⟩
  | int i =>
    simp only [txtD, decide_eq_true_eq] at h
    exact ⟨Str.ofString (toString i), by simp only [txtV, if_pos h]⟩
  | bl b => exact ⟨_, rfl⟩
  | non => exact ⟨_, rfl⟩
  | _ => simp [txtD] at h
/-- what __init__ promises: the fields laid -/
def spN (C : Addr) (ns : List Str) : Sp := fun vs H Q _ => ∃ (a : Addr) (ys : List V), vs = .ref a :: ys ∧ ys.length = ns.length ∧ H a = some (exo a C none) ∧ (∀ y ∈ ys, ∃ x, txtV y = some x) ∧
  ∀ dx, H dx = none → dx ≠ a → Q .non (upd (upd H dx (exd dx (ns.reverse.zip ys.reverse))) a (exo a C (some dx)))
/-- an own error class whose __init__ keeps its arguments -/
structure MkX (P : Program) (w : World) (K : PySem.W.Frag) (mg : Str → Option Value) (base : Heap) (c : Str) (ns : List Str) (ar : Arguments) : Prop where
  ex : ∃ (C fI : Addr) (fd : FuncData), (∃ (F : NF) (doc pm ct : Value), F.params = ar ∧ fd = F.fd doc pm ct) ∧ mg c = some (.ref C) ∧ XCl K C c ∧ OexC K C ∧ PySem.W.findIn K (.ref C) "__init__" = some (some (.ref fI)) ∧ PySem.W.typeIn K (.ref fI) = some (.type "function") ∧ Binds K fd (("self" : Str) :: ns) [] ∧
    ∀ {A : Around} {outer : List Env} {s : Shared} {H : Hp} {args : Args} {us : List Value} {vs : List V} {Q : VK} {E : XK}, A.handled = none → A.depth < recursionLimit → Env0 P w K mg base A outer s H → BindsTo s fd args ((("self" : Str) :: ns).zip us) → Vals vs us → spN C ns vs H Q E →
      codeAny (model P w) A (.call (.ref fI) args) (CR CX0 outer P w H s Q E) s
/-- an own error class without __init__ -/
structure MkM (K : PySem.W.Frag) (mg : Str → Option Value) (c : Str) : Prop where
  ex : ∃ (C : Addr), mg c = some (.ref C) ∧ XCl K C c ∧ OexC K C ∧ PySem.W.findIn K (.ref C) "__init__" = some (some (.builtin "ValueError.__init__"))
section
variable {X : Cx} {Γ : Fs} {e : Expr} {es : List Expr} {cs : E} {c : Str} {ns : List Str} {p pos : Pos}
theorem w_mkx {σ : L2.St} {H : Hp} {Q : VK} {own : Bool} (h : tr X.K Γ (.mkx c ns own cs) σ H Q) : trA X.K Γ cs σ H fun vs H1 => ∃ α S ds d, Ok X.K α S H1 ∧ Rps X.K α H1 ds vs ∧ mkxD c ns own ds = some d ∧ ∀ α' H' v, Xt X.K α H1 α' H' → Ok X.K α' S H' → Rp X.K α' H' d v → Q v H' := by
  obtain ⟨α, env, S, d, S', ok, en, e, k⟩ := h
  simp only [ev, Option.bind_eq_some_iff, Option.map_eq_some_iff, Prod.mk.injEq] at e
  obtain ⟨⟨d1, S1⟩, e1, ds, e2, d2, e3, rfl, rfl⟩ := e
  cases argsOf_some e2
  exact ⟨α, env, S, ds, S1, ok, en, e1, fun α' H' vs x1 ok1 r1 => ⟨α', S1, ds, d2, ok1, r1, e3, fun α2 H2 v x2 ok2 r2 => k α2 H2 v (x1.trans x2) ok2 r2⟩⟩
theorem rps_rev {K : PySem.W.Frag} {α : List Addr} {H : Hp} {xs : List D} {vs : List V} (r : Rps K α H xs vs) : Rps K α H xs.reverse vs.reverse := r.reverse
theorem xe_mkx {ar : Arguments} (M : MkX X.prog X.w X.K X.mg X.base c ns ar) {n : Nat} (hr : RoomG n X.A) (hg : Gl X c) (ha : PA X (e :: es) (trA X.K Γ cs)) (hn : ns.length ≤ 1000 := by decide) (hdb : (c == ("__debug__" : Str)) = false := by decide)
    (he : starEach (e :: es) X.env = (false, eval e X.env) :: starEach es X.env := by rfl) (hpl : (backTo pos (starEach es X.env)).any (·.1) = false := by rfl) : PE X (.Call (.Name c p) (e :: es) [] pos) (tr X.K Γ (.mkx c ns true cs)) := by
  obtain ⟨C, fI, fd, _, hm, k, T, iC, tI, hb, run⟩ := M.ex
  refine pe_w (pe_mkV (sp := spN C ns) T iC tI (fun vs H Q E ⟨a, ys, e1, e2, _⟩ => by rw [e1]; simp [e2]) run hr.room.hd (by have := hr.room.dp; omega) hb pass0 hg hm ha hdb he hpl) fun σ H Q h => ?_
  obtain ⟨α, env, S, ds, S1, ok, en, e1, kk⟩ := w_mkx h
  refine ⟨α, env, S, ds, S1, ok, en, e1, fun α' H' vs x1 ok1 r1 => ?_⟩
  obtain ⟨α2, S2, ds2, d2, ok2, r2, e3, k2⟩ := kk α' H' vs x1 ok1 r1
  unfold mkxD at e3
  rw [if_pos rfl] at e3
  split at e3
  · rename_i hz
    cases e3
    have lv : vs.length = ns.length := by rw [r2.len, hz.1]
    refine ⟨by rw [lv]; exact hn, fun a hna => ⟨a, vs, rfl, lv, upd_same, fun y hy => ?_, fun dx hdx hne => ⟨rfl, ?_⟩⟩⟩
    · obtain ⟨i, hi⟩ := List.getElem?_of_mem hy
      obtain ⟨z, ez, rz⟩ := r2.getV hi
      exact txt_of rz (List.all_eq_true.mp hz.2 z (List.mem_of_getElem? ez))
    · have hdx' : H' dx = none := by rw [upd_ne hne] at hdx; exact hdx
      have ha' : upd H' dx (exd dx (ns.reverse.zip vs.reverse)) a = none := by rw [upd_ne (Ne.symm hne)]; exact hna
      have eH : upd (upd (upd H' a (exo a C none)) dx (exd dx (ns.reverse.zip vs.reverse))) a (exo a C (some dx)) = upd (upd H' dx (exd dx (ns.reverse.zip vs.reverse))) a (exo a C (some dx)) := by
        funext b
        by_cases hb : b = a
        · rw [hb, upd_same, upd_same]
        · rw [upd_ne hb, upd_ne hb]
          by_cases hd : b = dx
          · rw [hd, upd_same, upd_same]
          · rw [upd_ne hd, upd_ne hd, upd_ne hb]
      rw [eH]
      have x1' : Xt X.K α2 H' α2 (upd H' dx (exd dx (ns.reverse.zip vs.reverse))) := Xt.fresh hdx'
      have x2' : Xt X.K α2 (upd H' dx (exd dx (ns.reverse.zip vs.reverse))) α2 (upd (upd H' dx (exd dx (ns.reverse.zip vs.reverse))) a (exo a C (some dx))) := Xt.fresh ha'
      have rr := (r2.reverse.mono x1').mono x2'
      refine k2 α2 _ _ (x1'.trans x2') ((ok2.fresh hdx').fresh ha') (.xcp k (XcA.dict upd_same ?_) ?_ rr.len rr.at_)
      · rw [upd_ne hne, upd_same]
      · rw [List.length_reverse, List.length_reverse, hz.1]
  · cases e3
theorem xe_mkm (M : MkM X.K X.mg c) (hg : Gl X c) (ha : PA X [e] (trA X.K Γ cs)) (hdb : (c == ("__debug__" : Str)) = false := by decide)
    (he : starEach [e] X.env = (false, eval e X.env) :: starEach [] X.env := by rfl) : PE X (.Call (.Name c p) [e] [] pos) (tr X.K Γ (.mkx c ns false cs)) := by
  obtain ⟨C, hm, kc, T, iC⟩ := M.ex
  refine ⟨fun pins s σ H Q I h => ?_⟩
  obtain ⟨nm, q, N, bs, bm, sn, sub, ab, col, dd, k0, k1, k2, k3, k5, hC, hbm⟩ := T.cls
  refine wpAny_Call_Name_kw (ld_glob I hg hm ?_ hdb)
  refine PySem.W.callWith_K (h₀ := X.base) I.ok.mod.kin T.kC (thn (ha.run pos pins s σ H _ I (w_mkx h)) fun us s1 ⟨vs, H1, I1, r1, α2, S2, ds, d, ok2, r2, e3, kk⟩ => ⟨I1.kIn, ?_⟩) he (by rfl)
  unfold mkxD at e3
  rw [if_neg (by decide)] at e3
  split at e3
  · rename_i hz
    cases e3
    have hl : us.length ≤ sizeLine := by rw [← r1.length, r2.len, hz, sizeLine_eq]; omega
    show wpAny _ _ (call (.ref C) us) _ _ _
    obtain ⟨hp, g, dr, tk, os⟩ := s1
    refine PySem.W.call_B F.excBase_ValueError (fun Y => PySem.HandSPX.refsVE_contains Y bm hbm) (I1.kIn _ _ hC) (PySem.W.looks_findIn I1.kIn iC) hl fun h' k e1 e2 => ?_
    have hn : H1 (hp.objs.size + 1) = none := I1.hok.fresh (Nat.le_succ _)
    have I2 : Inv X pins σ (upd H1 (hp.objs.size + 1) (exo (hp.objs.size + 1) C none)) ⟨h', g, dr, tk, os⟩ := I1.laid (t' := tk) (a := hp.objs.size + 1) k (Nat.le_succ _) (exo_ok e1)
    exact ⟨.ref (hp.objs.size + 1), _, I2, rfl, kk α2 _ _ (Xt.fresh hn) (ok2.fresh hn) (.xcp (vs := []) kc (XcA.bare upd_same) rfl rfl fun i x v z => by simp at z)⟩
  · cases e3
end
end Ix

namespace Ix
open PySem PySem.Spec PyProof.Rows L2 NdefX
/-! ### an own error class by what the written part says -/
def clsInit (st : Stmt) : Stmt := match st with
  | .ClassDef _ _ _ b _ _ _ _ _ _ _ => b.getD 0 (.Pass ⟨0, 0, 0, 0⟩)
  | _ => .Pass ⟨0, 0, 0, 0⟩
/-- what is asked of the class itself; bm: the classes behind it -/
structure XRaw (K : PySem.W.Frag) (c : Str) (C HE : Addr) (bm : List Value) : Prop where
  g : PySem.W.nsIn K mainGlobals c = some (some (.ref C))
  he : PySem.W.nsIn K mainGlobals "HourError" = some (some (.ref HE))
  hbm : bm = (if c = "HourError" then [] else [.ref HE]) ++ [.type "ValueError", .type "Exception", .type "BaseException", .type "object"]
  l : ∃ q N bs sn sub ab col dd k0 k1 k2 k3 k5, K.lookup C = some (excClassObj c q C N bs bm true sn sub ab col dd k0 k1 k2 k3 k5 "ValueError.__new__")
  sa : PySem.W.findIn K (.ref C) "__setattr__" = some (some (.builtin "object.__setattr__"))
  ga : PySem.W.findIn K (.ref C) "__getattribute__" = some (some (.builtin "BaseException.__getattribute__"))
  gt : PySem.W.findIn K (.ref C) "__getattr__" = some none
  ex : PySem.W.subIn K (.ref C) (.type "BaseException") = some true
  hd : PySem.W.hasDictIn K C = true
  ca : PySem.W.findIn K (.ref C) "__class__" = some (some (.builtin "object.__class__"))
  cn : PySem.W.specialIn K (.builtin "object.__class__") "__get__" = some (some (.builtin "getset_descriptor.__get__"))
  ct : PySem.W.takesIn K (.builtin "object.__class__") = some true
  cm : PySem.W.mroIn K C (.type "object") = some true
  ty : PySem.W.typeIn K (.ref C) = some (.type "type")
  kp : PySem.W.keepIn K (.ref C) = true
  i1 : PySem.W.subIn K (.ref C) (.type "int") = some false
  i2 : PySem.W.subIn K (.ref C) (.type "bool") = some false
  i3 : PySem.W.subIn K (.ref C) (.type "str") = some false
  i4 : PySem.W.subIn K (.ref C) (.type "tuple") = some false
  i5 : PySem.W.subIn K (.ref C) (.type "list") = some false
section
variable {K : PySem.W.Frag} {mg : Str → Option Value} {c : Str} {C HE : Addr} {bm : List Value}
theorem XRaw.cls (r : XRaw K c C HE bm) : ∃ q N bs sn sub ab col, PySem.W.clsIn K C = some { name := c, bases := bs, mro := .ref C :: bm, ns := N, qualname := q, hasDict := true, slotNames := sn, subclasses := sub, abstract := ab, collection := col, hasDel := false } := by
  obtain ⟨q, N, bs, sn, sub, ab, col, dd, k0, k1, k2, k3, k5, h⟩ := r.l
  exact ⟨q, N, bs, sn, sub, ab, col, by unfold PySem.W.clsIn; rw [h] <;> rfl⟩
theorem XRaw.xcl (r : XRaw K c C HE bm) : XCl K C c := by
  refine ⟨⟨r.ga, r.gt, r.ex, r.hd, r.ca, r.cn, r.ct, r.cm⟩, r.ty, fun T hT => ?_, r.g, ?_⟩
  · simp only [List.mem_cons, List.mem_nil_iff, or_false] at hT
    rcases hT with rfl | rfl | rfl | rfl | rfl
    · exact r.i1
    · exact r.i2
    · exact r.i3
    · exact r.i4
    · exact r.i5
  · obtain ⟨q, N, bs, sn, sub, ab, col, h⟩ := r.cls
    exact ⟨_, HE, h, rfl, r.he, by rw [← r.hbm]⟩
theorem XRaw.oex (r : XRaw K c C HE bm) : OexC K C := by
  obtain ⟨q, N, bs, sn, sub, ab, col, dd, k0, k1, k2, k3, k5, h⟩ := r.l
  refine ⟨⟨c, q, N, bs, bm, sn, sub, ab, col, dd, k0, k1, k2, k3, k5, h, ?_⟩, r.sa, r.ex, r.ty, r.kp⟩
  rw [r.hbm]
  split
  · rfl
  · rfl
theorem mkM (r : XRaw K c C HE bm) (hm : mg c = some (.ref C)) (i : PySem.W.findIn K (.ref C) "__init__" = some (some (.builtin "ValueError.__init__"))) : MkM K mg c := ⟨C, hm, r.xcl, r.oex, i⟩
/-- what is asked of its __init__ -/
structure XIni (P : Program) (K : PySem.W.Frag) (mg : Str → Option Value) (C fI cc cda HE : Addr) (qual : Str) (sti : Stmt) : Prop where
  i : PySem.W.findIn K (.ref C) "__init__" = some (some (.ref fI))
  ti : PySem.W.typeIn K (.ref fI) = some (.type "function")
  lf : ∃ od doc pm ct osl, K.lookup fI = some ⟨.type "function", od, .func ((⟨"__init__", qual, defArgs sti, defBody sti, defScope sti, [(("__class__" : Str), cc)], cda⟩ : NF).fd doc pm ct), osl⟩
  code : PySem.W.codeIn K (.ref cda) qual = true
  cell : ∃ ccl ccd csl, K.lookup cc = some ⟨ccl, ccd, .cell (some (.ref C)), csl⟩
  file : ∃ kcl kcd kvs ksl file tf, K.lookup cda = some ⟨kcl, kcd, .fields kvs, ksl⟩ ∧ kvs[2]? = some (.str file tf) ∧ ((P.main.file : Str) == file) = true
  top : (P.main.scope.names.lookup ("super" : Str)).isSome = false
  glob : mg "super" = none
  hi : PySem.W.findIn K (.ref HE) "__init__" = some (some (.builtin "ValueError.__init__"))
  opq : PySem.W.nsIn K cStatics "thirdparty.any" = some none
  sub : PySem.W.subIn K (.ref C) (.type "ValueError") = some true
  mro : PySem.W.mroIn K C (.ref C) = some true
theorem sup_of {P : Program} {fI cc cda : Addr} {qual : Str} {sti : Stmt} (r : XRaw K c C HE bm) (rh : XRaw K "HourError" HE HE bmh) (hc : c ≠ "HourError") (hCH : C ≠ HE) (x : XIni P K mg C fI cc cda HE qual sti) :
    SupC P K mg C fI cc ⟨"__init__", qual, defArgs sti, defBody sti, defScope sti, [(("__class__" : Str), cc)], cda⟩ := by
  refine ⟨r.oex, x.lf, x.code, rfl, x.cell, x.file, x.top, x.glob, ?_, x.opq, x.sub, x.mro⟩
  obtain ⟨q, N, bs, sn, sub, ab, col, h⟩ := r.cls
  obtain ⟨q2, N2, bs2, sn2, sub2, ab2, col2, dd, k0, k1, k2, k3, k5, h2⟩ := rh.l
  have hi := x.hi
  unfold PySem.W.findIn at hi
  simp only [h2] at hi
  unfold PySem.W.ks_superIn
  rw [h, Option.bind_some]
  have hb := rh.hbm
  rw [if_pos rfl, List.nil_append] at hb
  have hb2 := r.hbm
  rw [if_neg hc] at hb2
  have e : List.drop 1 ((Value.ref C :: bm).dropWhile (· != .ref C)) = bm := by
    simp [List.dropWhile_cons]
  show PySem.W.alongIn K "__init__" (List.drop 1 ((Value.ref C :: bm).dropWhile (· != .ref C))) = _
  rw [e, hb2]
  rw [hb] at hi
  exact hi
end
section
variable {P : Program} {w : World} {K : PySem.W.Frag} {mg : Str → Option Value} {base : Heap} {c : Str} {C HE fI cc cda : Addr} {bm bmh : List Value} {qual : Str} {sti : Stmt} {m1 m2 m3 n1 n2 : Str} {ar : Arg} {pl : Addr → Sem Bool}
theorem tJs_str {ts : List TE} {acc m : Str} {σ : L2.St} {H : Hp} {Q : Str → Hp → Prop} (hl : acc.length + m.length ≤ sizeLine) (h : tJs ts (acc ++ m) σ H Q) : tJs (tC (.str m) :: ts) acc σ H Q :=
  ⟨m, rfl, by rw [Str.length_append]; exact hl, h⟩
theorem tJs_fmt {ts : List TE} {acc y : Str} {v : V} {i : Nat} {σ : L2.St} {H : Hp} {Q : Str → Hp → Prop} (hi : σ[i]? = some (some v)) (hv : txtV v = some y) (hl : acc.length + y.length ≤ sizeLine) (h : tJs ts (acc ++ y) σ H Q) : tJs (tFmtA (tVar i) :: ts) acc σ H Q :=
  ⟨v, hi, y, hv, y, rfl, by rw [Str.length_append]; exact hl, h⟩
theorem mkX2 {q0 q1 q2 q3 q4 qj p1 p2 p3 p4 p5 f1 f2 r1 r2 r3 r4 r5 r6 r7 r8 : Pos} {j1 j2 j3 : Nat} (r : XRaw K c C HE bm) (rh : XRaw K "HourError" HE HE bmh) (hc : c ≠ "HourError") (hCH : C ≠ HE) (x : XIni P K mg C fI cc cda HE qual sti) (hm : mg c = some (.ref C))
    (S : NScope [("self" : Str), n1, n2, "__class__"] [("self" : Str), n1, n2] ["__class__"] (defScope sti)) (hself : ((defArgs sti).posonlyargs ++ (defArgs sti).args).head? = some ar) (har : ar.arg = "self")
    (hks : (defScope sti).names.lookup ("super" : Str) = some .globalImplicit)
    (he : ∀ F : NF, F.scope = defScope sti → ∀ L, eval (.Call (.Attribute (.Call (.Name "super" q0) [] [] q1) "__init__" q2) [.JoinedStr [.Constant (.str m1) j1 p1, .FormattedValue (.Name n1 f1) (-1) none p2, .Constant (.str m2) j2 p3, .FormattedValue (.Name n2 f2) (-1) none p4, .Constant (.str m3) j3 p5] qj] [] q3) (envF F fI L) = (do
      let ov ← attributeBase (.Call (.Name "super" q0) [] [] q1) "__init__" (envF F fI L) (eval (.Call (.Name "super" q0) [] [] q1) (envF F fI L))
      standAt q2.atName
      let (f', first) ← holding [ov] (getMethod ov "__init__" (pl L))
      callWith q3 f' first (backTo q3 (starEach [.JoinedStr [.Constant (.str m1) j1 p1, .FormattedValue (.Name n1 f1) (-1) none p2, .Constant (.str m2) j2 p3, .FormattedValue (.Name n2 f2) (-1) none p4, .Constant (.str m3) j3 p5] qj] (envF F fI L))) []))
    (hb : defBody sti = [.Expr (.Call (.Attribute (.Call (.Name "super" q0) [] [] q1) "__init__" q2) [.JoinedStr [.Constant (.str m1) j1 p1, .FormattedValue (.Name n1 f1) (-1) none p2, .Constant (.str m2) j2 p3, .FormattedValue (.Name n2 f2) (-1) none p4, .Constant (.str m3) j3 p5] qj] [] q3) q4,
      .Assign [.Attribute (.Name "self" r1) n1 r2] (.Name n1 r3) r4, .Assign [.Attribute (.Name "self" r5) n2 r6] (.Name n2 r7) r8])
    (hbind : ∀ (F : NF), F.params = defArgs sti → ∀ (doc pm ct : Value) (us : List Value), us.length = 3 → bindArgs (F.fd doc pm ct) ⟨us, []⟩ = pure (List.zip [("self" : Str), n1, n2] us))
    (a1 : PySem.W.findIn K (.ref C) n1 = some none) (a2 : PySem.W.findIn K (.ref C) n2 = some none) (hn : m1.length ≤ 1000 ∧ m2.length ≤ 1000 ∧ m3.length ≤ 1000) (hd1 : (n1 == ("__debug__" : Str)) = false) (hd2 : (n2 == ("__debug__" : Str)) = false) (hd3 : (n1 == ("__classdict__" : Str)) = false) (hd4 : (n2 == ("__classdict__" : Str)) = false) : MkX P w K mg base c [n1, n2] (defArgs sti) := by
  have T := sup_of r rh hc hCH x
  obtain ⟨od, doc, pm, ct, osl, lf⟩ := x.lf
  have v1 : (defScope sti).names.lookup n1 = some .local := S.par n1 (by simp)
  have v2 : (defScope sti).names.lookup n2 = some .local := S.par n2 (by simp)
  have v0 : (defScope sti).names.lookup ("self" : Str) = some .local := S.par "self" (by simp)
  refine ⟨C, fI, _, ⟨⟨"__init__", qual, defArgs sti, defBody sti, defScope sti, [(("__class__" : Str), cc)], cda⟩, doc, pm, ct, rfl, rfl⟩, hm, r.xcl, r.oex, x.i, x.ti, .all fun us hl => hbind ⟨"__init__", qual, defArgs sti, defBody sti, defScope sti, [(("__class__" : Str), cc)], cda⟩ rfl doc pm ct us hl, ?_⟩
  intro A outer s H args us vs Q E hhd hdp e0 hbd rv hsp
  refine fn_sup (N := [("self" : Str), n1, n2, "__class__"]) (ar := ar) (pl := pl) (sp := spN C [n1, n2]) T S hself (by rw [har]; rfl) (by rw [har]; exact v0) hks (S.frk _ (by simp)) (he _ rfl) hb (fun vs H Q E ⟨a, ys, e1, e2, _⟩ => by rw [e1]; simp [e2]) ?_ hhd hdp e0 hbd ⟨od, osl, lf⟩ rv hsp
  rintro A outer s H vs Q E ⟨a, ys, rfl, hy, ha, ht, hq⟩
  match ys, hy with
  | [y1, y2], _ =>
    obtain ⟨x1, hx1⟩ := ht y1 (by simp)
    obtain ⟨x2, hx2⟩ := ht y2 (by simp)
    have l1 := txtV_len hx1
    have l2 := txtV_len hx2
    refine ⟨a, [y1, y2], _, rfl, ha, pe_joined (.cons pe_str (.cons (pe_fmtA (pe_var (i := 1) rfl (.inl v1) hd1 hd3)) (.cons pe_str (.cons (pe_fmtA (pe_var (i := 2) rfl (.inl v2) hd2 hd4)) (.cons pe_str .nil))))), ?_⟩
    have sz := sizeLine_eq
    obtain ⟨hn1, hn2, hn3⟩ := hn
    have z0 : Str.empty.length = 0 := rfl
    refine tJs_str (by omega) (tJs_fmt rfl hx1 (by simp only [Str.length_append]; omega) (tJs_str (by simp only [Str.length_append]; omega) (tJs_fmt rfl hx2 (by simp only [Str.length_append]; omega) (tJs_str (by simp only [Str.length_append]; omega) ⟨rfl, ha, ?_⟩))))
    refine ⟨_, pss_cons (ps_ost (pe_var (i := 0) rfl (.inl v0)) (pe_var (i := 1) rfl (.inl v1) hd1 hd3)) (pss_one (ps_ost (pe_var (i := 0) rfl (.inl v0)) (pe_var (i := 2) rfl (.inl v2) hd2 hd4))), ?_⟩
    refine ⟨y1, rfl, .ref a, rfl, a, C, rfl, r.oex, a1, .inl ⟨ha, fun dx hdx hne => ?_⟩⟩
    refine ⟨y2, rfl, .ref a, rfl, a, C, rfl, r.oex, a2, .inr ⟨dx, [(n1, y1)], upd_same, by rw [upd_ne hne, upd_same], by simp, ?_⟩⟩
    have q := hq dx hdx hne
    have eH : upd (upd (upd H dx (exd dx [(n1, y1)])) a (exo a C (some dx))) dx (exd dx [(n2, y2), (n1, y1)]) = upd (upd H dx (exd dx [(n2, y2), (n1, y1)])) a (exo a C (some dx)) := by
      funext b
      by_cases hb : b = dx
      · rw [hb, upd_same, upd_ne hne, upd_same]
      · rw [upd_ne hb]
        by_cases hd : b = a
        · rw [hd, upd_same, upd_same]
        · rw [upd_ne hd, upd_ne hd, upd_ne hb, upd_ne hb]
    show Q .non _
    rw [eH]
    exact q
  | [], h => simp at h
  | [_], h => simp at h
  | _ :: _ :: _ :: _, h => simp at h
theorem mkX1 {q0 q1 q2 q3 q4 qj p1 p2 p3 f1 r1 r2 r3 r4 : Pos} {j1 j2 : Nat} (r : XRaw K c C HE bm) (rh : XRaw K "HourError" HE HE bmh) (hc : c ≠ "HourError") (hCH : C ≠ HE) (x : XIni P K mg C fI cc cda HE qual sti) (hm : mg c = some (.ref C))
    (S : NScope [("self" : Str), n1, "__class__"] [("self" : Str), n1] ["__class__"] (defScope sti)) (hself : ((defArgs sti).posonlyargs ++ (defArgs sti).args).head? = some ar) (har : ar.arg = "self")
    (hks : (defScope sti).names.lookup ("super" : Str) = some .globalImplicit)
    (he : ∀ F : NF, F.scope = defScope sti → ∀ L, eval (.Call (.Attribute (.Call (.Name "super" q0) [] [] q1) "__init__" q2) [.JoinedStr [.Constant (.str m1) j1 p1, .FormattedValue (.Name n1 f1) (-1) none p2, .Constant (.str m2) j2 p3] qj] [] q3) (envF F fI L) = (do
      let ov ← attributeBase (.Call (.Name "super" q0) [] [] q1) "__init__" (envF F fI L) (eval (.Call (.Name "super" q0) [] [] q1) (envF F fI L))
      standAt q2.atName
      let (f', first) ← holding [ov] (getMethod ov "__init__" (pl L))
      callWith q3 f' first (backTo q3 (starEach [.JoinedStr [.Constant (.str m1) j1 p1, .FormattedValue (.Name n1 f1) (-1) none p2, .Constant (.str m2) j2 p3] qj] (envF F fI L))) []))
    (hb : defBody sti = [.Expr (.Call (.Attribute (.Call (.Name "super" q0) [] [] q1) "__init__" q2) [.JoinedStr [.Constant (.str m1) j1 p1, .FormattedValue (.Name n1 f1) (-1) none p2, .Constant (.str m2) j2 p3] qj] [] q3) q4,
      .Assign [.Attribute (.Name "self" r1) n1 r2] (.Name n1 r3) r4])
    (hbind : ∀ (F : NF), F.params = defArgs sti → ∀ (doc pm ct : Value) (us : List Value), us.length = 2 → bindArgs (F.fd doc pm ct) ⟨us, []⟩ = pure (List.zip [("self" : Str), n1] us))
    (a1 : PySem.W.findIn K (.ref C) n1 = some none) (hn : m1.length ≤ 1000 ∧ m2.length ≤ 1000) (hd1 : (n1 == ("__debug__" : Str)) = false) (hd3 : (n1 == ("__classdict__" : Str)) = false) : MkX P w K mg base c [n1] (defArgs sti) := by
  have T := sup_of r rh hc hCH x
  obtain ⟨od, doc, pm, ct, osl, lf⟩ := x.lf
  have v1 : (defScope sti).names.lookup n1 = some .local := S.par n1 (by simp)
  have v0 : (defScope sti).names.lookup ("self" : Str) = some .local := S.par "self" (by simp)
  refine ⟨C, fI, _, ⟨⟨"__init__", qual, defArgs sti, defBody sti, defScope sti, [(("__class__" : Str), cc)], cda⟩, doc, pm, ct, rfl, rfl⟩, hm, r.xcl, r.oex, x.i, x.ti, .all fun us hl => hbind ⟨"__init__", qual, defArgs sti, defBody sti, defScope sti, [(("__class__" : Str), cc)], cda⟩ rfl doc pm ct us hl, ?_⟩
  intro A outer s H args us vs Q E hhd hdp e0 hbd rv hsp
  refine fn_sup (N := [("self" : Str), n1, "__class__"]) (ar := ar) (pl := pl) (sp := spN C [n1]) T S hself (by rw [har]; rfl) (by rw [har]; exact v0) hks (S.frk _ (by simp)) (he _ rfl) hb (fun vs H Q E ⟨a, ys, e1, e2, _⟩ => by rw [e1]; simp [e2]) ?_ hhd hdp e0 hbd ⟨od, osl, lf⟩ rv hsp
  rintro A outer s H vs Q E ⟨a, ys, rfl, hy, ha, ht, hq⟩
  match ys, hy with
  | [y1], _ =>
    obtain ⟨x1, hx1⟩ := ht y1 (by simp)
    have l1 := txtV_len hx1
    refine ⟨a, [y1], _, rfl, ha, pe_joined (.cons pe_str (.cons (pe_fmtA (pe_var (i := 1) rfl (.inl v1) hd1 hd3)) (.cons pe_str .nil))), ?_⟩
    have sz := sizeLine_eq
    obtain ⟨hn1, hn2⟩ := hn
    have z0 : Str.empty.length = 0 := rfl
    refine tJs_str (by omega) (tJs_fmt rfl hx1 (by simp only [Str.length_append]; omega) (tJs_str (by simp only [Str.length_append]; omega) ⟨rfl, ha, ?_⟩))
    refine ⟨_, pss_one (ps_ost (pe_var (i := 0) rfl (.inl v0)) (pe_var (i := 1) rfl (.inl v1) hd1 hd3)), ?_⟩
    refine ⟨y1, rfl, .ref a, rfl, a, C, rfl, r.oex, a1, .inl ⟨ha, fun dx hdx hne => hq dx hdx hne⟩⟩
  | [], h => simp at h
  | _ :: _ :: _, h => simp at h
end
end Ix

namespace Ix
open PySem PySem.Spec PyProof.Rows L2 NdefX
/-! ### an own error made with named arguments -/
section
variable {pr : Program} {wd : World} {Ar : Around} {X0 : Value → Shared → Prop} {back : Result → Shared → Prop} {hp : Heap} {gs : Array GenState} {dr : Drawn} {tk : Nat} {os : OsState}
variable {nm qn : Str} {C N fI : Addr} {bases tl veL : List Value} {hd : Bool} {sns : List Str} {subs : List Value} {ab : Bool} {col : Option Bool} {dl : Option Addr} {s0 s1 s2 s3 s5 : Option Value} {B nw ini : String} {kw : List (Str × Value)}
/-- the class object that is asked -/
abbrev kwCls (nm qn : Str) (C N : Addr) (bases tl : List Value) (hd : Bool) (sns : List Str) (subs : List Value) (ab : Bool) (col : Option Bool) (dl : Option Addr) (s0 s1 s2 s3 s5 : Option Value) (nw : String) : Obj := excClassObj nm qn C N bases tl hd sns subs ab col dl s0 s1 s2 s3 s5 nw
abbrev kwTwo (hp : Heap) (C : Addr) : Heap := (hp.push (PySem.W.kdv_tup [])).push (HandSPX.excO C hp.objs.size)
theorem kw_check (F : ExcBaseFacts B nw ini veL) (alike : ∀ T : String, tl.contains (.type T) = veL.contains (.type T)) (at_ : hp.get? C = some (kwCls nm qn C N bases tl hd sns subs ab col dl s0 s1 s2 s3 s5 nw)) {Q : Unit → Shared → Prop} (q : Q () ⟨hp, gs, dr, tk, os⟩) :
    wpAny (model pr wd) Ar (checkBuiltinCall nw ⟨[.ref C], kw⟩) Q X0 ⟨hp, gs, dr, tk, os⟩ := by
  have star := F.noStar
  have inB : (Value.ref C :: tl).contains (.type B) = true := by simp only [List.contains_cons, alike, F.hasB, Bool.or_true]
  simp only [checkBuiltinCall, F.newKind, F.newSplit, F.newRow]
  repeat (first | (refine wpAny_isSubtype_exc at_ ?_; rw [inB]) | refine wpAny_loadPart_at at_ ?_ | refine wpAny_madeBy_exc at_ ?_ | refine wpAny_staticBase_exc at_ ?_ | simp only [if_false, Bool.false_eq_true, bne_self_eq_false] | wp_step)
  exact q
theorem kw_new (F : ExcBaseFacts B nw ini veL) (alike : ∀ T : String, tl.contains (.type T) = veL.contains (.type T)) (at_ : hp.get? C = some (kwCls nm qn C N bases tl hd sns subs ab col dl s0 s1 s2 s3 s5 nw)) (q : back (.ok (.ret (.ref (hp.objs.size + 1)))) ⟨kwTwo hp C, gs, dr, tk, os⟩) :
    codeAny (model pr wd) Ar (.builtin nw ⟨[.ref C], kw⟩) back ⟨hp, gs, dr, tk, os⟩ := by
  have e0 := F.ends
  have inB : (Value.ref C :: tl).contains (.type B) = true := by simp only [List.contains_cons, alike, F.hasB, Bool.or_true]
  have inA : (Value.ref C :: tl).contains (.type "AttributeError") = false := by simp only [List.contains_cons, alike, F.noAttr]; rfl
  have inN : (Value.ref C :: tl).contains (.type "NameError") = false := by simp only [List.contains_cons, alike, F.noName]; rfl
  apply codeAny_builtinAt F.entry
  unfold Builtin.«BaseException.__new__»
  apply PySem.wpAt_bind
  show PySem.wpAt _ _ _ (stack >>= _) _ _ _
  apply PySem.wpAt_bind
  apply PySem.wpAt_stack
  intro place below
  apply PySem.wpAt_of_wpAny
  wp_walk
  apply PySem.wpAt_of_wpAny
  rw [F.owner]
  repeat (first | with_reducible refine wpAny_loadPart_at at_ ?_ | with_reducible refine wpAny_madeHere_exc F.canon at_ ?_ | (with_reducible refine wpAny_isSubtype_exc at_ ?_; first | rw [inA] | rw [inN] | rw [inB]) | wp_step)
  show back _ _
  rw [Heap.size_push]
  exact q
theorem kw_type (F : ExcBaseFacts B nw ini veL) (alike : ∀ T : String, tl.contains (.type T) = veL.contains (.type T)) (at_ : hp.get? C = some (kwCls nm qn C N bases tl hd sns subs ab col dl s0 s1 s2 s3 s5 nw))
    (li : W.Looks (model pr wd) hp (typeLookup (.ref C) "__init__") (some (.ref fI))) (lb : ∀ self, W.Looks (model pr wd) hp (bindSpecial (.ref fI) self) (.ref fI, [self])) {Q : Fin → Shared → Prop}
    (q : codeAny (model pr wd) Ar (.call (.ref fI) ⟨[.ref (hp.objs.size + 1)], kw⟩) (fun r s' => match r with | .ok (.ret v) => v = .none ∧ Q (.done (.ret (.ref (hp.objs.size + 1)))) s' | .ok _ => False | .error e => X0 e s') ⟨kwTwo hp C, gs, dr, tk, os⟩) :
    wpAny (model pr wd) Ar (Builtin.«type.__call__» ⟨[.ref C], kw⟩) Q X0 ⟨hp, gs, dr, tk, os⟩ := by
  repeat (first | with_reducible refine wpAny_madeBy_exc at_ ?_ | with_reducible refine wpAny_loadPart_at at_ ?_ | wp_step)
  apply codeAny_call_builtin_code (Code.quiet_builtin _ F.quiet)
  apply kw_check F alike at_
  apply kw_new F alike at_
  show wpAny _ _ _ _ _ _
  have keeps : ∀ b o, hp.get? b = some o → (kwTwo hp C).get? b = some o := fun b o e => Heap.get?_push_of_some _ (Heap.get?_push_of_some _ e)
  have here : (kwTwo hp C).get? (hp.objs.size + 1) = some (HandSPX.excO C hp.objs.size) := by heap_get
  have cls2 := keeps _ _ at_
  have self_ : (Value.ref C :: tl).contains (.ref C) = true := by simp
  have li2 := li.keeps keeps
  have lb2 := (lb (.ref (hp.objs.size + 1))).keeps keeps
  unfold isInstance
  repeat (first | (with_reducible refine wpAny_isSubtype_exc cls2 ?_; rw [self_]) | with_reducible refine wpAny_loadPart_at here ?_ | wp_step)
  show wpAny _ _ (typeLookup (.ref C) _) _ _ _
  apply li2.at
  apply wpAny_holding
  apply wpAny_bind
  apply lb2.at
  apply wpAny_bind
  apply wpAny_call
  refine codeAny_mono q ?_
  intro r s' z
  match r, z with
  | .error e, z => exact z
  | .ok (.ret v), ⟨ev, z⟩ =>
    subst ev
    first
      | exact wpAny_pure (wpAny_pure z)
      | (wp_walk; exact z)
  | .ok .next, z => exact z.elim
  | .ok .brk, z => exact z.elim
  | .ok .cont, z => exact z.elim
theorem kw_call (F : ExcBaseFacts B nw ini veL) (alike : ∀ T : String, tl.contains (.type T) = veL.contains (.type T)) (at_ : hp.get? C = some (kwCls nm qn C N bases tl hd sns subs ab col dl s0 s1 s2 s3 s5 nw))
    (li : W.Looks (model pr wd) hp (typeLookup (.ref C) "__init__") (some (.ref fI))) (lb : ∀ self, W.Looks (model pr wd) hp (bindSpecial (.ref fI) self) (.ref fI, [self]))
    (q : codeAny (model pr wd) (Ar.under (.builtin "type.__call__" ⟨[.ref C], kw⟩)) (.call (.ref fI) ⟨[.ref (hp.objs.size + 1)], kw⟩) (W.InitBack (hp.objs.size + 1) back) ⟨kwTwo hp C, gs, dr, tk, os⟩) :
    codeAny (model pr wd) Ar (.call (.ref C) ⟨[], kw⟩) back ⟨hp, gs, dr, tk, os⟩ := by
  have look := PySem.tc_lookup
  have bind_ := PySem.tc_bind (.ref C)
  have ofType : (⟨hp, gs, dr, tk, os⟩ : Shared).TypeIs (.ref C) "type" := ⟨_, at_, rfl⟩
  apply codeAny_of_tree
  show wpAny _ _ (callAny (.ref C) _) _ _ _
  repeat (any_goals (first | assumption | with_reducible refine wpAny_loadPart_at at_ ?_ | wp_step))
  refine ⟨rfl, codeAny_call_builtin_at (Code.quiet_builtin _ (by decide +kernel)) PySem.entry_typeCall (wpAny_check_type_call_sub at_ (kw_type F alike at_ li lb ?_))⟩
  refine codeAny_mono q ?_
  intro r s' z
  match r, z with
  | .error e, z => exact z
  | .ok (.ret v), z => exact z
  | .ok .next, z => exact z
  | .ok .brk, z => exact z
  | .ok .cont, z => exact z
end
section
variable {X : Cx} {Γ : Fs} {kws : List Keyword} {ck : E} {c : Str} {ns : List Str} {ar : Arguments} {p pos : Pos} {n : Nat}
theorem xe_mkxK (M : MkX X.prog X.w X.K X.mg X.base c ns ar) (ks : List Str) (perm : List Nat)
    (kb : ∀ (F : NF), F.params = ar → ∀ (doc pm ct u0 : Value) (ws : List Value), ws.length = ks.length → bindArgs (F.fd doc pm ct) ⟨[u0], ks.zip ws⟩ = pure ((("self" : Str) :: ns).zip (u0 :: permV perm ws)))
    (hnk : narg ck = some ks.length) (hr : RoomG n X.A) (hg : Gl X c) (hk : PK X kws (trA X.K Γ ck)) (hall : (backToKw pos (keywordEach kws X.env)).all (·.1.isSome) = true := by rfl) (hks : (backToKw pos (keywordEach kws X.env)).filterMap (·.1) = ks := by rfl)
    (hn : ns.length ≤ 1000 := by decide) (hdb : (c == ("__debug__" : Str)) = false := by decide) (hpl : ((backTo pos (starEach [] X.env)).any (·.1) || (backToKw pos (keywordEach kws X.env)).any (·.1.isNone)) = false := by rfl) :
    PE X (.Call (.Name c p) [] kws pos) (tr X.K Γ (.mkxK c ns perm ck)) := by
  obtain ⟨C, fI, fd, ⟨Fn, doc, pm, ct, hF, rfl⟩, hm, k, T, iC, tI, hb, run⟩ := M.ex
  obtain ⟨nm, qn, N, bs, bm, sn, sub, ab, col, dd, k0, k1, k2, k3, k5, hC, hbm⟩ := T.cls
  refine ⟨fun pins s σ H Q I h => ?_⟩
  obtain ⟨α, env, S, d, S', ok, en, e, kk⟩ := h
  simp only [ev, Option.bind_eq_some_iff, Option.map_eq_some_iff, Prod.mk.injEq] at e
  obtain ⟨⟨d1, S1⟩, e1, ds, e2, d2, e3, rfl, rfl⟩ := e
  cases argsOf_some e2
  have l2 := narg_len hnk e1
  refine wpAny_Call_Name_kw (ld_glob I hg hm ?_ hdb)
  refine PySem.W.callWith_KW0 (h₀ := X.base) I.ok.mod.kin T.kC hall (thn (hk.run pos pins s σ H (fun ws H2 => ∃ α2, Ok X.K α2 S1 H2 ∧ Rps X.K α2 H2 ds ws ∧ ∀ α3 H3 v, Xt X.K α2 H2 α3 H3 → Ok X.K α3 S1 H3 → Rp X.K α3 H3 d2 v → Q v H3) I ?_) fun ws s2 ⟨zs, H2, I2, rz, α2, ok2, r2, k2⟩ => ⟨I2.kIn, ?_⟩) hpl
  · exact ⟨α, env, S, ds, S1, ok, en, e1, fun α2 H2 ws x2 ok2 r2 => ⟨α2, ok2, r2, fun α3 H3 v x3 ok3 r3 => kk α3 H3 v (x2.trans x3) ok3 r3⟩⟩
  · rw [hks]
    unfold mkxD at e3
    rw [if_pos rfl] at e3
    split at e3
    · rename_i hz
      cases e3
      have rp : Rps X.K α2 H2 (permV perm ds) (permV perm zs) := Rps.perm r2 perm
      have lv : (permV perm zs).length = ns.length := by rw [rp.len, hz.1]
      have lw : ws.length = ks.length := by rw [← rz.length, r2.len, l2]
      obtain ⟨hp, g, dr, tk, os⟩ := s2
      have hna : H2 (hp.objs.size + 1) = none := I2.hok.fresh (Nat.le_succ _)
      have more : ∀ b o, hp.get? b = some o → (kwTwo hp C).get? b = some o := fun b o e => Heap.get?_push_of_some _ (Heap.get?_push_of_some _ e)
      have made : (kwTwo hp C).get? (hp.objs.size + 1) = some (HandSPX.excO C hp.objs.size) := by heap_get
      have I3 : Inv X pins σ (upd H2 (hp.objs.size + 1) (exo (hp.objs.size + 1) C none)) ⟨kwTwo hp C, g, dr, tk, os⟩ := I2.laid (t' := tk) (h' := kwTwo hp C) more (Nat.le_succ _) (exo_ok made)
      have rv : Vals (V.ref (hp.objs.size + 1) :: permV perm zs) (Value.ref (hp.objs.size + 1) :: permV perm ws) := .cons rfl (rel_perm rz perm)
      have hsp : spN C ns (V.ref (hp.objs.size + 1) :: permV perm zs) (upd H2 (hp.objs.size + 1) (exo (hp.objs.size + 1) C none)) (fun v H3 => v = .non ∧ Q (.ref (hp.objs.size + 1)) H3) (fun _ _ _ => False) := by
        refine ⟨_, _, rfl, lv, upd_same, fun y hy => ?_, fun dx hdx hne => ⟨rfl, ?_⟩⟩
        · obtain ⟨i, hi⟩ := List.getElem?_of_mem hy
          obtain ⟨z, ez, rz⟩ := rp.getV hi
          exact txt_of rz (List.all_eq_true.mp hz.2 z (List.mem_of_getElem? ez))
        · have hdx' : H2 dx = none := by rw [upd_ne hne] at hdx; exact hdx
          have ha' : upd H2 dx (exd dx (ns.reverse.zip (permV perm zs).reverse)) (hp.objs.size + 1) = none := by rw [upd_ne (Ne.symm hne)]; exact hna
          have eH : upd (upd (upd H2 (hp.objs.size + 1) (exo (hp.objs.size + 1) C none)) dx (exd dx (ns.reverse.zip (permV perm zs).reverse))) (hp.objs.size + 1) (exo (hp.objs.size + 1) C (some dx)) = upd (upd H2 dx (exd dx (ns.reverse.zip (permV perm zs).reverse))) (hp.objs.size + 1) (exo (hp.objs.size + 1) C (some dx)) := by
            funext b
            by_cases hb : b = hp.objs.size + 1
            · rw [hb, upd_same, upd_same]
            · rw [upd_ne hb, upd_ne hb]
              by_cases hd : b = dx
              · rw [hd, upd_same, upd_same]
              · rw [upd_ne hd, upd_ne hd, upd_ne hb]
          rw [eH]
          have y1 : Xt X.K α2 H2 α2 (upd H2 dx (exd dx (ns.reverse.zip (permV perm zs).reverse))) := Xt.fresh hdx'
          have y2 : Xt X.K α2 (upd H2 dx (exd dx (ns.reverse.zip (permV perm zs).reverse))) α2 (upd (upd H2 dx (exd dx (ns.reverse.zip (permV perm zs).reverse))) (hp.objs.size + 1) (exo (hp.objs.size + 1) C (some dx))) := Xt.fresh ha'
          have rr := (rp.reverse.mono y1).mono y2
          refine k2 α2 _ _ (y1.trans y2) ((ok2.fresh hdx').fresh ha') (.xcp k (XcA.dict upd_same ?_) ?_ rr.len rr.at_)
          · rw [upd_ne hne, upd_same]
          · rw [List.length_reverse, List.length_reverse, hz.1]
      refine wpAny_call (kw_call F.excBase_ValueError (fun Y => PySem.HandSPX.refsVE_contains Y bm hbm) (I2.kIn _ _ hC) (PySem.W.looks_findIn I2.kIn iC) (fun self => PySem.W.bind_fn I2.kIn self tI) ?_)
      refine codeAny_mono (run (A := X.A.under (.builtin "type.__call__" ⟨[.ref C], ks.zip ws⟩)) (outer := X.stack) (args := ⟨[.ref (hp.objs.size + 1)], ks.zip ws⟩) (E := fun _ _ _ => False) hr.room.hd (by rw [make_depth]; have := hr.room.dp; omega) (I3.env0.make C [] (ks.zip ws)) (.of_eq (kb Fn hF doc pm ct _ ws lw)) rv hsp) ?_
      intro r s' hq'
      match r, hq' with
      | .error er, hq' => exact hq'.elim
      | .ok (.ret u), ⟨v, H3, os2, bare2, un2, hok2, rv, ev, q2⟩ =>
        subst ev
        exact ⟨rv, .ref (hp.objs.size + 1), H3, I3.call' (ch := []) os2 un2 hok2 bare2 (fun b z => absurd z (by simp)), rfl, q2⟩
      | .ok .next, hq' => exact False.elim hq'
      | .ok .brk, hq' => exact False.elim hq'
      | .ok .cont, hq' => exact False.elim hq'
    · cases e3
end
/-! ### isinstance by an own class, fields -/
section
variable {K : PySem.W.Frag} {C T HE : Addr} {c t : Str}
theorem XCl.one {C' : Addr} (k : XCl K C c) (k' : XCl K C' c) : C = C' := by
  have h := k.glob.symm.trans k'.glob
  cases h
  rfl
theorem XCl.nm_eq (k : XCl K C c) (k' : XCl K C t) : c = t := by
  obtain ⟨cd, _, h1, h2, _⟩ := k.nm
  obtain ⟨cd', _, h1', h2', _⟩ := k'.nm
  rw [h1] at h1'
  cases h1'
  rw [← h2, h2']
theorem kit_own (k : XCl K C c) (kt : XCl K T t) (kh : XCl K HE "HourError") : PySem.W.kitOne K (.ref C) (.ref T) = some (decide (c = t) || decide (t = "HourError")) := by
  by_cases e : C = T
  · subst e
    have := k.nm_eq kt
    subst this
    unfold PySem.W.kitOne
    rw [if_pos (by simp)]
    simp
  · have hne : (Value.ref C == Value.ref T) = false := by simp [e]
    have hct : c ≠ t := fun z => by
      subst z
      exact e (k.one kt)
    obtain ⟨cd, HE', h1, h2, h3, h4⟩ := k.nm
    have hHE : HE' = HE := by
      have h := h3.symm.trans kh.glob
      cases h
      rfl
    subst hHE
    obtain ⟨cdt, _, g1, _⟩ := kt.nm
    have isc : ((PySem.W.clsIn K T).isSome && PySem.W.typeIn K (.ref T) == some (.type "type")) = true := by rw [g1, kt.ty]; rfl
    have hs : PySem.W.subIn K (.ref C) (.ref T) = some (cd.mro.contains (.ref T)) := by
      show PySem.W.mroIn K C (.ref T) = _
      unfold PySem.W.mroIn
      rw [h1, Option.bind_some, if_neg (by rw [h4]; exact Bool.false_ne_true)]
    unfold PySem.W.kitOne PySem.W.kitCls
    simp only [hne, isc, if_true, Bool.false_eq_true, if_false, hs, h4]
    congr 1
    by_cases hc : c = "HourError"
    · have ht : t ≠ "HourError" := fun z => hct (by rw [hc, z])
      simp [hc, ht, Ne.symm ht, Ne.symm e]
    · by_cases ht : t = "HourError"
      · subst ht
        have := kt.one kh
        subst this
        simp [hc]
      · have hTE : T ≠ HE' := fun z => ht (by subst z; exact kt.nm_eq kh)
        simp [hct, ht, hc, hTE, Ne.symm e]
end
section
variable {X : Cx} {Γ : Fs} {e : Expr} {ce : E} {t : Str} {T HE : Addr} {p q pos : Pos}
theorem xe_isx (M : MkM X.K X.mg t ∨ ∃ ns ar, MkX X.prog X.w X.K X.mg X.base t ns ar) (hh : ∃ HE, XCl X.K HE "HourError") (hg : Gl X "isinstance") (hm : X.mg "isinstance" = none) (hgt : Gl X t) (he : PE X e (tr X.K Γ ce)) (hVE : t ≠ "ValueError" := by decide) (hdt : (t == ("__debug__" : Str)) = false := by decide)
    (hs : starEach [e, .Name t q] X.env = (false, eval e X.env) :: starEach [.Name t q] X.env := by rfl) (hpl : (backTo pos (starEach [.Name t q] X.env)).any (·.1) = false := by rfl) :
    PE X (.Call (.Name "isinstance" p) [e, .Name t q] [] pos) (tr X.K Γ (.isx ce t)) := by
  obtain ⟨T, hmt, kt⟩ : ∃ T, X.mg t = some (.ref T) ∧ XCl X.K T t := by
    rcases M with M | ⟨ns, ar, M⟩
    · obtain ⟨C, h1, h2, _⟩ := M.ex
      exact ⟨C, h1, h2⟩
    · obtain ⟨C, _, _, _, h1, h2, _⟩ := M.ex
      exact ⟨C, h1, h2⟩
  obtain ⟨HE, kh⟩ := hh
  have hc : CallR X (.builtin "isinstance") (fun vs H Q => ∃ v α S c ns xs, vs = [v, .ref T] ∧ Ok X.K α S H ∧ Rp X.K α H (.xcp c ns xs) v ∧ Q (.bl (decide (c = t) || decide (t = "HourError"))) H) := by
    intro pins s σ H xs us Q I r ⟨v, α, S, c, ns, ys, e1, ok, rx, hq⟩
    subst e1
    obtain ⟨u1, u2, rfl, q1, q2⟩ := vals2 r
    cases (show u2 = Value.ref T from q2)
    cases rx with
    | @xcp _ _ _ C a vs k z ln l q' =>
      cases (show u1 = Value.ref a from q1)
      exact PySem.W.kia_one (kitx_xc k.exc k.ty) I.kIn (inst_xc I.hok z) (kit_own k kt kh) (fun z => (nomatch z)) fun tk => ⟨.bl _, H, I.tok tk, rfl, hq⟩
  refine pe_w (pe_callB hc hg hm (by decide +kernel) (pa_cons he (pa_cons (pe_glob (v := .ref T) hgt hmt rfl hdt) pa_nil) hs) (by decide) (by decide) hs hpl) fun σ H Q ⟨α, env, S, d, S', ok, en, e, k⟩ => ?_
  simp only [ev, Option.bind_eq_some_iff, Option.map_eq_some_iff, Prod.mk.injEq] at e
  obtain ⟨⟨d1, S1⟩, e1, d2, e2, rfl, rfl⟩ := e
  refine ⟨α, env, S, d1, S1, ok, en, e1, fun α1 H1 v x1 ok1 r1 => ?_⟩
  cases d1 with
  | xcp c ns xs =>
    simp only [isxD, Option.some.injEq] at e2
    subst e2
    refine ⟨v, α1, S1, c, ns, xs, rfl, ok1, r1, k α1 H1 _ x1 ok1 ?_⟩
    rw [show (decide (t = ("ValueError" : Str))) = false from decide_eq_false hVE, Bool.or_false]
    exact .bl _
  | _ => simp [isxD] at e2
theorem kit_ve {K : PySem.W.Frag} {C : Addr} {c : Str} (k : XCl K C c) : PySem.W.kitOne K (.ref C) (.type "ValueError") = some true := by
  obtain ⟨cd, HE', h1, h2, h3, h4⟩ := k.nm
  have hs : PySem.W.subIn K (.ref C) (.type "ValueError") = some (cd.mro.contains (.type "ValueError")) := by
    show PySem.W.mroIn K C (.type "ValueError") = _
    unfold PySem.W.mroIn
    rw [h1, Option.bind_some, if_neg (by rw [h4]; exact Bool.false_ne_true)]
  have hne : (Value.ref C == Value.type "ValueError") = false := rfl
  have hk : PySem.W.kitMeta "ValueError" = true := by decide +kernel
  unfold PySem.W.kitOne PySem.W.kitCls
  simp only [hne, hk, if_true, Bool.false_eq_true, if_false, hs, h4]
  congr 1
  split <;> simp
/-- isinstance(e, ValueError) -/
theorem xe_isv (hg : Gl X "isinstance") (hm : X.mg "isinstance" = none) (hgt : Gl X "ValueError") (hmt : X.mg "ValueError" = none) (he : PE X e (tr X.K Γ ce))
    (hs : starEach [e, .Name "ValueError" q] X.env = (false, eval e X.env) :: starEach [.Name "ValueError" q] X.env := by rfl) (hpl : (backTo pos (starEach [.Name "ValueError" q] X.env)).any (·.1) = false := by rfl) :
    PE X (.Call (.Name "isinstance" p) [e, .Name "ValueError" q] [] pos) (tr X.K Γ (.isx ce "ValueError")) := by
  have hc : CallR X (.builtin "isinstance") (fun vs H Q => ∃ v α S c ns xs, vs = [v, .ty "ValueError"] ∧ Ok X.K α S H ∧ Rp X.K α H (.xcp c ns xs) v ∧ Q (.bl true) H) := by
    intro pins s σ H xs us Q I r ⟨v, α, S, c, ns, ys, e1, ok, rx, hq⟩
    subst e1
    obtain ⟨u1, u2, rfl, q1, q2⟩ := vals2 r
    cases (show u2 = Value.type "ValueError" from q2)
    cases rx with
    | @xcp _ _ _ C a vs k z ln l q' =>
      cases (show u1 = Value.ref a from q1)
      exact PySem.W.kia_one (kitx_xc k.exc k.ty) I.kIn (inst_xc I.hok z) (kit_ve k) (fun z => (nomatch z)) fun tk => ⟨.bl _, H, I.tok tk, rfl, hq⟩
  have hn : PE X (.Name "ValueError" q) (tC (.ty "ValueError")) := ⟨fun _ _ _ H _ I h => ld_blt I hgt hmt (by decide +kernel : bootBuiltins "ValueError" = some (.type "ValueError")) ⟨.ty "ValueError", H, I, rfl, h⟩ (by decide) (by decide)⟩
  refine pe_w (pe_callB hc hg hm (by decide +kernel) (pa_cons he (pa_cons hn pa_nil) hs) (by decide) (by decide) hs hpl) fun σ H Q ⟨α, env, S, d, S', ok, en, e, k⟩ => ?_
  simp only [ev, Option.bind_eq_some_iff, Option.map_eq_some_iff, Prod.mk.injEq] at e
  obtain ⟨⟨d1, S1⟩, e1, d2, e2, rfl, rfl⟩ := e
  refine ⟨α, env, S, d1, S1, ok, en, e1, fun α1 H1 v x1 ok1 r1 => ?_⟩
  cases d1 with
  | xcp c ns xs =>
    simp only [isxD, Option.some.injEq] at e2
    subst e2
    refine ⟨v, α1, S1, c, ns, xs, rfl, ok1, r1, k α1 H1 _ x1 ok1 ?_⟩
    simp only [decide_true, Bool.or_true]
    exact .bl _
  | _ => simp [isxD] at e2
theorem look_zip {n : Str} {d : D} {K : PySem.W.Frag} {α : List Addr} {H : Hp} : ∀ {ns : List Str} {xs : List D} {vs : List V}, ((∀ (i : Nat) (x : D) (v : V), xs[i]? = some x → vs[i]? = some v → Rp K α H x v)) → vs.length = xs.length → (ns.zip xs).lookup n = some d → ∃ v, (ns.zip vs).lookup n = some v ∧ Rp K α H d v
  | [], _, _, _, _, h => by simp [List.lookup] at h
  | _ :: _, [], _, _, _, h => by simp [List.lookup] at h
  | _ :: _, _ :: _, [], _, l, _ => by simp at l
  | a :: ns, x :: xs, v :: vs, r, l, h => by
    simp only [List.zip_cons_cons, List.lookup] at h ⊢
    split at h
    · cases h
      exact ⟨v, rfl, r 0 _ _ rfl rfl⟩
    · exact look_zip (ns := ns) (xs := xs) (vs := vs) (fun i x v h1 h2 => r (i + 1) x v (by simpa using h1) (by simpa using h2)) (by simpa using l) h
/-- e.n of an own error -/
theorem xe_attr {c n : Str} (M : ∃ ns ar, MkX X.prog X.w X.K X.mg X.base c ns ar) (hno : ∀ C, XCl X.K C c → PySem.W.findIn X.K (.ref C) n = some none) (he : PE X e (tr X.K Γ ce)) (hb : attributeBase e n X.env (eval e X.env) = eval e X.env := by rfl) :
    PE X (.Attribute e n pos) (tr X.K Γ (.attr ce c n)) := by
  refine ⟨fun pins s σ H Q I h => ?_⟩
  obtain ⟨α, env, S, d, S', ok, en, ee, k⟩ := h
  simp only [ev, Option.bind_eq_some_iff, Option.map_eq_some_iff, Prod.mk.injEq] at ee
  obtain ⟨⟨d1, S1⟩, e1, d2, e2, rfl, rfl⟩ := ee
  refine attr_of hb (thn (he.run pins s σ H (fun v H1 => ∃ α1, Xt X.K α H α1 H1 ∧ Ok X.K α1 S1 H1 ∧ Rp X.K α1 H1 d1 v) I ⟨α, env, S, d1, S1, ok, en, e1, fun α1 H1 v x1 ok1 r1 => ⟨α1, x1, ok1, r1⟩⟩) fun u s1 ⟨v, H1, I1, rv, α1, x1, ok1, r1⟩ => ?_)
  cases d1 with
  | xcp c' ns xs =>
    simp only [attrD] at e2
    split at e2
    · rename_i hc
      subst hc
      cases r1 with
      | @xcp _ _ _ C a vs kc z ln l q =>
        cases (show u = Value.ref a from rv)
        obtain ⟨v2, hv, rp⟩ := look_zip (ns := ns) q l e2
        have main : ∀ fs, XcA H1 C a fs → fs.lookup n = some v2 → wpAny (model X.prog X.w) X.A (getAttr (.ref a) n true) (EP X pins σ Q) X.xe s1 := fun fs z hl => by
          cases z with
          | bare h => simp [List.lookup] at hl
          | @dict dd fs h hd =>
            obtain ⟨t, e0⟩ := exo_at I1.hok h
            obtain ⟨mA, hns, hr⟩ := exd_at I1.hok hd
            obtain ⟨od, ho, hlk⟩ := lookIn_ns hns
            obtain ⟨u2, hu, ru⟩ := RelO.some_of (v := v2) (o := mA n) (by rw [← hl]; exact hr n)
            have J : PySem.W.InstAt s1.heap a _ C (some od) := ⟨e0, rfl, rfl, ho⟩
            exact HandSPX.exc_get I1.kIn J kc.exc.hg kc.exc.hk kc.exc.hs (PySem.W.findObj_own kc.exc.hd (hno C kc) rfl (by rw [hlk, hu])) (handed_of ru) ⟨v2, H1, I1.tok _, ru, k α1 H1 v2 x1 ok1 rp⟩
        exact main _ z hv
    · cases e2
  | _ => simp [attrD] at e2
end
end Ix

namespace Ix
open PySem L2
/-! ### what a result is to satisfy -/
def M {β : Type} (r : Option β) (Q : β → Prop) : Prop := ∃ a, r = some a ∧ Q a
theorem M_some {β : Type} {a : β} {Q : β → Prop} : M (some a) Q = Q a := propext ⟨fun ⟨_, e, q⟩ => by cases e; exact q, fun q => ⟨a, rfl, q⟩⟩
theorem M_none {β : Type} {Q : β → Prop} : M (none : Option β) Q = False := propext ⟨fun ⟨_, e, _⟩ => (by cases e), False.elim⟩
theorem M_bind {β γ : Type} {r : Option β} {f : β → Option γ} {Q : γ → Prop} : M (r.bind f) Q = M r (fun a => M (f a) Q) := propext (by
  cases r with
  | none => exact ⟨fun ⟨_, e, _⟩ => (by cases e), fun ⟨_, e, _⟩ => (by cases e)⟩
  | some a => exact ⟨fun h => ⟨a, rfl, h⟩, fun ⟨_, e, h⟩ => by cases e; exact h⟩)
theorem M_map {β γ : Type} {r : Option β} {f : β → γ} {Q : γ → Prop} : M (r.map f) Q = M r (fun a => Q (f a)) := propext (by
  cases r with
  | none => exact ⟨fun ⟨_, e, _⟩ => (by cases e), fun ⟨_, e, _⟩ => (by cases e)⟩
  | some a => exact ⟨fun ⟨_, e, h⟩ => ⟨a, rfl, by cases e; exact h⟩, fun ⟨_, e, h⟩ => ⟨_, rfl, by cases e; exact h⟩⟩)
theorem M_ite {β : Type} {c : Prop} [Decidable c] {a b : Option β} {Q : β → Prop} : M (if c then a else b) Q = if c then M a Q else M b Q := by split <;> rfl
theorem M.imp {β : Type} {r : Option β} {P Q : β → Prop} (h : M r P) (k : ∀ a, P a → Q a) : M r Q := let ⟨a, e, p⟩ := h; ⟨a, e, k a p⟩
theorem run_M {T : Nat → Option Fd} {n f : Nat} {F : Fd} {ds : List D} {S : Hd} {Q : D × Hd → Prop} (hT : T f = some F) (hl : ds.length = F.np) (h : M (ex (run T n) F.body (ds.map some ++ List.replicate (F.m - ds.length) none) S) fun r => M (outD (some r)) Q) : M (run T (n + 1) f ds S) Q := by
  simp only [run_step, hT, Option.bind_some]
  rw [if_pos hl]
  obtain ⟨r, e, q⟩ := h
  rw [e]
  exact q
/-- S' keeps what S has, but for the cell p -/
def Le (p : Nat) (S S' : Hd) : Prop := ∀ (k : Nat) (o : O), k ≠ p → S[k]? = some o → S'[k]? = some o
def Lq (S S' : Hd) : Prop := ∀ (k : Nat) (o : O), S[k]? = some o → S'[k]? = some o
theorem Lq.refl (S : Hd) : Lq S S := fun _ _ h => h
theorem Lq.trans {S1 S2 S3 : Hd} (a : Lq S1 S2) (b : Lq S2 S3) : Lq S1 S3 := fun k o h => b k o (a k o h)
theorem Le.refl (p : Nat) (S : Hd) : Le p S S := fun _ _ _ h => h
theorem Le.trans {p : Nat} {S1 S2 S3 : Hd} (a : Le p S1 S2) (b : Le p S2 S3) : Le p S1 S3 := fun k o n h => b k o n (a k o n h)
theorem Lq.le {p : Nat} {S S' : Hd} (a : Lq S S') : Le p S S' := fun k o _ h => a k o h
theorem Lq.app (S T : Hd) : Lq S (S ++ T) := fun k o h => by rw [List.getElem?_append_left (List.getElem?_eq_some_iff.mp h).1]; exact h
theorem Le.app (p : Nat) (S T : Hd) : Le p S (S ++ T) := (Lq.app S T).le
theorem Le.set (p : Nat) (S : Hd) (o : O) : Le p S (S.set p o) := fun k u n h => by rw [List.getElem?_set_ne (fun e => n e.symm)]; exact h
/-- the pot at p -/
def Pot (p : Nat) (S : Hd) : Prop := ∃ q : Int, S[p]? = some (.lst [.int q])
theorem Pot.app {p : Nat} {S : Hd} (h : Pot p S) (T : Hd) : Pot p (S ++ T) := let ⟨q, e⟩ := h; ⟨q, Lq.app S T p _ e⟩
theorem lt_of_get {S : Hd} {k : Nat} {o : O} (h : S[k]? = some o) : k < S.length := (List.getElem?_eq_some_iff.mp h).1
end Ix

namespace Ix
open PySem L2
/-! ### the operations on known values -/
section
variable {S : Hd} {i j : Int} {x y d : D} {xs ys : List D} {k : Nat}
theorem q_add : binD .add (.int i) (.int j) S = some (.int (i + j), S) := rfl
theorem q_sub : binD .sub (.int i) (.int j) S = some (.int (i - j), S) := rfl
theorem q_mod (h : 0 < j) : binD .mod (.int i) (.int j) S = some (.int (i % j), S) := if_pos h
theorem q_addT (h : xs.length + ys.length ≤ most) : binD .add (.tup xs) (.tup ys) S = some (.tup (xs ++ ys), S) := if_pos h
theorem q_addL {a b : Nat} (h1 : S[a]? = some (.lst xs)) (h2 : S[b]? = some (.lst ys)) (h : xs.length + ys.length ≤ most) : binD .add (.ref a) (.ref b) S = some (alloc S (xs ++ ys)) := by
  simp only [binD, h1, h2]
  exact if_pos h
theorem q_addR {b : Nat} {ns : List Int} (h2 : S[b]? = some (.lst ys)) (h : ns.length + ys.length ≤ most) : binD .add (.ro ns) (.ref b) S = some (alloc S (ns.map .int ++ ys)) := by
  have e : binD .add (.ro ns) (.ref b) S = match S[b]? with
    | some (.lst ys) => if ns.length + ys.length ≤ most then some (alloc S (ns.map .int ++ ys)) else none
    | _ => none := rfl
  rw [e, h2]
  exact if_pos h
theorem q_mulW (h : i.natAbs.log2 + j.natAbs.log2 < 1000000) : binD .mul (.int i) (.int j) S = some (.int (i * j), S) := if_pos h
theorem log2_le {n : Nat} (m : Nat) (h : n < 2 ^ m) (h0 : 0 < m) : n.log2 < m := PySem.Flt.log2_lt_of h0 h
theorem q_mul (h1 : -(2 ^ 64) < i) (h2 : i < 2 ^ 64) (h3 : -(2 ^ 64) < j) (h4 : j < 2 ^ 64) : binD .mul (.int i) (.int j) S = some (.int (i * j), S) := q_mulW (by
  have a := log2_le (n := i.natAbs) 64 (by omega) (by decide)
  have b := log2_le (n := j.natAbs) 64 (by omega) (by decide)
  omega)
theorem q_fdivW (h : 0 < j) (h2 : j.natAbs.log2 < 9000) : binD .fdiv (.int i) (.int j) S = some (.int (i / j), S) := if_pos ⟨h, h2⟩
theorem q_fdiv (h : 0 < j) (h2 : j < 2 ^ 64) : binD .fdiv (.int i) (.int j) S = some (.int (i / j), S) := q_fdivW h (by
  have a := log2_le (n := j.natAbs) 64 (by omega) (by decide)
  omega)
theorem q_pow (h : 0 ≤ j) (h1 : j ≤ 1000000) (h2 : i.natAbs < 2 ^ 64) : binD .pow (.int i) (.int j) S = some (.int (i ^ j.toNat), S) := if_pos ⟨h, h1, h2⟩
theorem q_lt : cmpD .lt (.int i) (.int j) S = some (.bl (decide (i < j)), S) := rfl
theorem q_le : cmpD .le (.int i) (.int j) S = some (.bl (decide (i ≤ j)), S) := rfl
theorem q_gt : cmpD .gt (.int i) (.int j) S = some (.bl (decide (j < i)), S) := rfl
theorem q_ge : cmpD .ge (.int i) (.int j) S = some (.bl (decide (j ≤ i)), S) := rfl
theorem q_eqI : cmpD .eq (.int i) (.int j) S = some (.bl (decide (i = j)), S) := rfl
theorem q_neI : cmpD .ne (.int i) (.int j) S = some (.bl (!decide (i = j)), S) := rfl
theorem q_eqB {b c : Bool} : cmpD .eq (.bl b) (.bl c) S = some (.bl (decide (b = c)), S) := rfl
theorem q_neB {b c : Bool} : cmpD .ne (.bl b) (.bl c) S = some (.bl (!decide (b = c)), S) := rfl
theorem q_eqS {b c : Str} : cmpD .eq (.str b) (.str c) S = some (.bl (decide (b = c)), S) := rfl
theorem q_isN : cmpD .is_ x .non S = some (.bl (isNon x), S) := by cases x <;> rfl
theorem q_notN : cmpD .isnot x .non S = some (.bl (!isNon x), S) := by cases x <;> rfl
theorem q_isB {b c : Bool} : cmpD .is_ (.bl b) (.bl c) S = some (.bl (decide (b = c)), S) := rfl
theorem q_notB {b c : Bool} : cmpD .isnot (.bl b) (.bl c) S = some (.bl (!decide (b = c)), S) := rfl
theorem q_in (h1 : flat x = true) (h2 : seqOf S y = some xs) (h3 : xs.all flat = true) : cmpD .in_ x y S = some (.bl (xs.any fun z => eqF z x), S) := by
  simp only [cmpD, h1, if_true, h2, Option.bind_some, h3]
theorem q_notin (h1 : flat x = true) (h2 : seqOf S y = some xs) (h3 : xs.all flat = true) : cmpD .notin x y S = some (.bl (!xs.any fun z => eqF z x), S) := by
  simp only [cmpD, h1, if_true, h2, Option.bind_some, h3]
theorem q_seqT : seqOf S (.tup xs) = some xs := rfl
theorem q_seqR {ns : List Int} : seqOf S (.ro ns) = some (ns.map .int) := rfl
theorem q_seqL (h : S[k]? = some (.lst xs)) : seqOf S (.ref k) = some xs := by simp only [seqOf, h]
theorem q_ixT : ixD (.tup xs) (.int i) S = (atI xs i).map fun d => (d, S) := rfl
theorem q_ixR {ns : List Int} : ixD (.ro ns) (.int i) S = (atI (ns.map .int) i).map fun d => (d, S) := rfl
theorem q_ixL (h : S[k]? = some (.lst xs)) : ixD (.ref k) (.int i) S = (atI xs i).map fun d => (d, S) := by simp only [ixD, seqOf, h, Option.bind_some]
theorem atI_lt {β : Type} {xs : List β} (h0 : 0 ≤ i) (h : i < xs.length) : atI xs i = xs[i.toNat]? := by
  unfold atI ixN
  rw [if_pos h0, if_pos h]
  rfl
theorem atI_0 {β : Type} {a : β} {l : List β} : atI (a :: l) 0 = some a := by
  rw [atI_lt (by omega) (by simp)]
  rfl
theorem atI_1 {β : Type} {a b : β} {l : List β} : atI (a :: b :: l) 1 = some b := by
  rw [atI_lt (by omega) (by simp; omega)]
  rfl
theorem atI_2 {β : Type} {a b c : β} {l : List β} : atI (a :: b :: c :: l) 2 = some c := by
  rw [atI_lt (by omega) (by simp; omega)]
  rfl
theorem atI_last {β : Type} {xs : List β} (h : xs ≠ []) : atI xs (-1) = some (xs.getLast h) := by
  have hl : 0 < xs.length := List.length_pos_iff.mpr h
  unfold atI ixN
  rw [if_neg (by omega), if_pos (by omega)]
  show xs[(-1 + (xs.length : Int)).toNat]? = _
  have : (-1 + (xs.length : Int)).toNat = xs.length - 1 := by omega
  rw [this, List.getLast_eq_getElem, List.getElem?_eq_getElem (by omega)]
theorem q_slT {l h : Option Int} : slD (.tup xs) l h S = some (.tup (cutD xs l h), S) := rfl
theorem q_slL {l h : Option Int} (e : S[k]? = some (.lst xs)) : slD (.ref k) l h S = some (alloc S (cutD xs l h)) := by simp only [slD, seqOf, e, Option.map_some]
theorem q_slR {l h : Option Int} {ns : List Int} : slD (.ro ns) l h S = some (alloc S (cutD (ns.map .int) l h)) := rfl
theorem q_revT : revD (.tup xs) S = some (.tup xs.reverse, S) := rfl
theorem q_len (h : seqOf S x = some xs) : bltD .len [x] S = some (.int xs.length, S) := by simp only [bltD, h, Option.map_some]
theorem q_int : bltD .int_ [.int i] S = some (.int i, S) := rfl
theorem q_intB {b : Bool} : bltD .int_ [.bl b] S = some (.int (if b then 1 else 0), S) := rfl
theorem q_max : bltD .max_ [.int i, .int j] S = some (.int (if j > i then j else i), S) := rfl
theorem q_min : bltD .min_ [.int i, .int j] S = some (.int (if j < i then j else i), S) := rfl
theorem q_abs : bltD .abs_ [.int i] S = some (.int (if i < 0 then -i else i), S) := rfl
theorem bools_map {bs : List Bool} : bools (bs.map .bl) = some bs := by
  induction bs with
  | nil => rfl
  | cons b bs ih => simp only [List.map_cons, bools, ih, Option.map_some]
theorem q_all {bs : List Bool} (h : S[k]? = some (.lst (bs.map .bl))) : bltD .all_ [.ref k] S = some (.bl (bs.all id), S) := by
  simp only [bltD, isTup, seqOf, h, Option.bind_some, bools_map, Option.map_some, Bool.false_eq_true, if_false]
theorem q_tupT : bltD .tuple_ [.tup xs] S = some (.tup xs, S) := rfl
theorem q_tupL (h : S[k]? = some (.lst xs)) : bltD .tuple_ [.ref k] S = some (.tup xs, S) := by simp only [bltD, seqOf, h, Option.map_some]
theorem q_list (h : seqOf S x = some xs) : bltD .list_ [x] S = some (alloc S xs) := by simp only [bltD, h, Option.map_some]
theorem q_isi {c n : String} (h : plainTy c = true) (h2 : tyName S x = some n) : bltD .isi [x, .ty c] S = some (.bl (isaN n c), S) := by
  simp only [bltD, h, if_true, h2, Option.map_some]
theorem q_isiT {n : String} {cs : List D} {ts : List String} (h : tysOf cs = some ts) (h2 : tyName S x = some n) : bltD .isi [x, .tup cs] S = some (.bl (ts.any (isaN n)), S) := by
  simp only [bltD, h, Option.bind_some, h2, Option.map_some]
theorem n_tup : tyName S (.tup xs) = some "tuple" := rfl
theorem n_int : tyName S (.int i) = some "int" := rfl
theorem n_bl {b : Bool} : tyName S (.bl b) = some "bool" := rfl
theorem n_non : tyName S .non = some "NoneType" := rfl
theorem n_str {z : Str} : tyName S (.str z) = some "str" := rfl
theorem n_ref (h : S[k]? = some (.lst xs)) : tyName S (.ref k) = some "list" := by simp only [tyName, h]
theorem q_app (h : S[k]? = some (.lst xs)) (hz : xs.length < most) : methD .append (.ref k) [d] S = some (.non, S.set k (.lst (xs ++ [d]))) := by
  simp only [methD, h]
  exact if_pos hz
theorem q_isL (h : S[k]? = some (.lst xs)) : isLst S (.ref k) = true := by simp only [isLst, h]
theorem q_set {m : Nat} (h : S[k]? = some (.lst xs)) (hm : ixN xs.length i = some m) : setD (.ref k) (.int i) d S = some (S.set k (.lst (xs.set m d))) := by simp only [setD, h, hm, Option.map_some]
theorem q_push (h : S[k]? = some (.lst xs)) (hz : xs.length < most) : pushD k d S = some (S.set k (.lst (xs ++ [d]))) := by
  simp only [pushD, h]
  exact if_pos hz
theorem u_bl {b : Bool} : tru S (.bl b) = some b := rfl
theorem u_int : tru S (.int i) = some (i != 0) := rfl
theorem u_non : tru S .non = some false := rfl
theorem u_tup : tru S (.tup xs) = some (!xs.isEmpty) := rfl
theorem u_ref (h : S[k]? = some (.lst xs)) : tru S (.ref k) = some (!xs.isEmpty) := by simp only [tru, seqOf, h, Option.map_some]
theorem g_name {i : Nat} {env : Sl} : asgG (.name i) d env = some (env.set i (some d)) := rfl
theorem g_tup {g : G} {env : Sl} : asgG (.tup g) (.tup xs) env = asgG g (.tup xs) env := rfl
theorem g_nil {env : Sl} : asgG .nil (.tup []) env = some env := rfl
theorem g_cons {g h : G} {env : Sl} : asgG (.cons g h) (.tup (d :: xs)) env = (asgG g d env).bind fun e => asgG h (.tup xs) e := rfl
theorem a_tup : argsOf (.tup xs) = some xs := rfl
theorem t_eq (r : Option (D × Hd)) : tst r = r.bind fun x => (tru x.2 x.1).map fun b => (b, x.2) := rfl
theorem al_eq : alloc S xs = (.ref S.length, S ++ [.lst xs]) := rfl
theorem o_ret {env : Sl} : outD (some (.ret d, env, S)) = some (d, S) := rfl
theorem o_nx {env : Sl} : outD (some (.nx, env, S)) = some (.non, S) := rfl
theorem i_seq : items .seq [x] S = seqOf S x := rfl
theorem i_rng (h1 : -(2 ^ 62) ≤ i) (h2 : i < 2 ^ 62) : items .range1 [.int i] S = some ((List.range i.toNat).map fun (m : Nat) => .int (0 + (m : Int))) := if_pos ⟨h1, h2⟩
end
/-! ### loops -/
open Classical in
theorem M_loopS {turn : D → Sl → Hd → Option (Out × Sl × Hd)} {still : Hd → Prop} {Q : Out × Sl × Hd → Prop} (I : Nat → Sl → Hd → Prop) : ∀ {its : List D} {m : Nat} {env : Sl} {S : Hd}, I m env S →
    (∀ (i : Nat) (d : D) (env : Sl) (S : Hd), its[i]? = some d → I (m + i) env S → M (turn d env S) fun r => match r.1 with
      | .brk => Q (.nx, r.2)
      | .ret x => Q (.ret x, r.2)
      | _ => still r.2.2 ∧ I (m + i + 1) r.2.1 r.2.2) →
    (∀ env S, I (m + its.length) env S → Q (.nx, env, S)) → M (loopS turn still its env S) Q
  | [], m, env, S, h0, hs, hd => by
    simp only [loopS, M_some]
    exact hd env S h0
  | d :: ds, m, env, S, h0, hs, hd => by
    simp only [loopS, M_bind]
    refine (hs 0 d env S rfl h0).imp fun r h => ?_
    obtain ⟨o, env1, S1⟩ := r
    have go : still S1 ∧ I (m + 0 + 1) env1 S1 → M (if still S1 then loopS turn still ds env1 S1 else none) Q := fun ⟨a, b⟩ => by
      rw [if_pos a]
      refine M_loopS I (m := m + 1) b (fun i d env S h1 h2 => ?_) fun env S h => hd env S ?_
      · have := hs (i + 1) d env S (by simpa using h1) (by rw [show m + (i + 1) = m + 1 + i by omega]; exact h2)
        refine this.imp fun r h => ?_
        rw [show m + 1 + i + 1 = m + (i + 1) + 1 by omega]
        exact h
      · rw [List.length_cons, show m + (ds.length + 1) = m + 1 + ds.length by omega]
        exact h
    cases o with
    | nx => exact go h
    | cont => exact go h
    | brk => simp only [M_some]; exact h
    | ret x => simp only [M_some]; exact h
open Classical in
theorem M_loopH {turn : D → Hd → Option Hd} {still : Hd → Prop} {Q : Hd → Prop} (I : Nat → Hd → Prop) : ∀ {its : List D} {m : Nat} {S : Hd}, I m S →
    (∀ (i : Nat) (d : D) (S : Hd), its[i]? = some d → I (m + i) S → M (turn d S) fun S1 => still S1 ∧ I (m + i + 1) S1) →
    (∀ S, I (m + its.length) S → Q S) → M (loopH turn still its S) Q
  | [], m, S, h0, hs, hd => by
    simp only [loopH, M_some]
    exact hd S h0
  | d :: ds, m, S, h0, hs, hd => by
    simp only [loopH, M_bind]
    refine (hs 0 d S rfl h0).imp fun S1 ⟨a, b⟩ => ?_
    rw [if_pos a]
    refine M_loopH I (m := m + 1) b (fun i d S h1 h2 => ?_) fun S h => hd S ?_
    · have := hs (i + 1) d S (by simpa using h1) (by rw [show m + (i + 1) = m + 1 + i by omega]; exact h2)
      refine this.imp fun r h => ?_
      rw [show m + 1 + i + 1 = m + (i + 1) + 1 by omega]
      exact h
    · rw [List.length_cons, show m + (ds.length + 1) = m + 1 + ds.length by omega]
      exact h
/-- a comprehension whose elements change nothing that stands: v tells each item's value -/
theorem M_lc {Γ : Fs} {k : Ik} {cs ce : E} {g : G} {own : List Nat} {env : Sl} {S S1 : Hd} {ds its : List D} {Q : D × Hd → Prop} (v : Nat → D) (ho : gOk own g = true) (h1 : ev Γ cs env S = some (.tup ds, S1)) (h2 : items k ds S1 = some its) (hz : its.length < most)
    (he : ∀ (i : Nat) (d : D) (S2 : Hd), its[i]? = some d → Lq S1 S2 → ∃ env1, asgG g d (wipeD env own) = some env1 ∧ M (ev Γ ce env1 S2) fun r => r.1 = v i ∧ Lq S2 r.2)
    (hit : ∀ S2, Lq S1 S2 → items k ds S2 = some its)
    (hq : ∀ (j : Nat) (S2 : Hd), S1.length ≤ j → S2[j]? = some (.lst ((List.range its.length).map v)) → Lq S1 S2 → Q (.ref j, S2)) : M (ev Γ (.lc k cs g (.c (.bl true)) ce own) env S) Q := by
  simp only [ev, ho, if_true, h1, Option.bind_some, argsOf, h2, M_map]
  refine M_loopH (fun i S2 => S2[S1.length]? = some (.lst ((List.range i).map v)) ∧ Lq S1 S2) (m := 0) ⟨by simp, Lq.app _ _⟩ (fun i d S2 hi ⟨a, b⟩ => ?_) fun S2 ⟨a, b⟩ => ?_
  · obtain ⟨env1, e1, m1⟩ := he i d S2 hi b
    simp only [e1, Option.bind_some, tst, tru, Option.map_some, if_true, M_bind]
    refine m1.imp fun r ⟨e2, l2⟩ => ?_
    have hlt : i < its.length := (List.getElem?_eq_some_iff.mp hi).1
    rw [q_push (l2 _ _ a) (by simp; omega), M_some]
    have l3 : Lq S1 (r.2.set S1.length (.lst (((List.range (0 + i)).map v) ++ [r.1]))) := fun k' o h => by
      rw [List.getElem?_set_ne (by have := lt_of_get h; omega)]
      exact l2 _ _ (b _ _ h)
    refine ⟨hit _ l3, ?_, l3⟩
    rw [List.getElem?_set_self (lt_of_get (l2 _ _ a)), e2, Nat.zero_add, List.range_succ, List.map_append]
    rfl
  · rw [Nat.zero_add] at a
    exact hq _ S2 (Nat.le_refl _) a b
end Ix

namespace Ix
open PySem L2
theorem seq_M {Γ : Fs} {s t : Sx} {env : Sl} {S : Hd} {Q : Out × Sl × Hd → Prop} (P : Sl → Hd → Prop) (h : M (ex Γ s env S) fun r => r.1 = .nx ∧ P r.2.1 r.2.2) (k : ∀ env S, P env S → M (ex Γ t env S) Q) : M (ex Γ (.seq s t) env S) Q := by
  simp only [ex, M_bind]
  refine h.imp fun r ⟨e, p⟩ => ?_
  rw [e]
  exact k _ _ p
theorem seq_Mx {Γ : Fs} {s t : Sx} {env : Sl} {S : Hd} {Q : Out × Sl × Hd → Prop} (h : M (ex Γ s env S) fun r => match r.1 with
    | .nx => M (ex Γ t r.2.1 r.2.2) Q
    | _ => Q r) : M (ex Γ (.seq s t) env S) Q := by
  simp only [ex, M_bind]
  refine h.imp fun r q => ?_
  obtain ⟨o, e, S1⟩ := r
  cases o with
  | nx => exact q
  | _ => simp only [M_some]; exact q
theorem atI_ints {ns : List Int} {i : Int} (h0 : 0 ≤ i) (h : i < ns.length) : ∃ z, ns[i.toNat]? = some z ∧ z ∈ ns ∧ atI (ns.map D.int) i = some (.int z) := by
  have hi : i.toNat < ns.length := by omega
  refine ⟨ns[i.toNat], List.getElem?_eq_getElem hi, List.getElem_mem hi, ?_⟩
  rw [atI_lt h0 (by simpa using h), List.getElem?_map, List.getElem?_eq_getElem hi]
  rfl
theorem Lq.at {S S' : Hd} (a : Lq S S') {k : Nat} {o : O} (h : S[k]? = some o) : S'[k]? = some o := a k o h
theorem Le.at {p : Nat} {S S' : Hd} (a : Le p S S') {k : Nat} {o : O} (n : k ≠ p) (h : S[k]? = some o) : S'[k]? = some o := a k o n h
theorem get_new {S : Hd} {o : O} : (S ++ [o])[S.length]? = some o := by simp
theorem Pot.lt {p : Nat} {S : Hd} (h : Pot p S) : p < S.length := let ⟨_, e⟩ := h; lt_of_get e
theorem Pot.ne {p : Nat} {S : Hd} (h : Pot p S) : S.length ≠ p := Nat.ne_of_gt h.lt
theorem Pot.lq {p : Nat} {S S' : Hd} (h : Pot p S) (l : Lq S S') : Pot p S' := let ⟨q, e⟩ := h; ⟨q, l p _ e⟩
theorem Lq.set {S S' : Hd} (l : Lq S S') {k : Nat} {o : O} (h : S.length ≤ k) : Lq S (S'.set k o) := fun j u e => by
  rw [List.getElem?_set_ne (by have := lt_of_get e; omega)]
  exact l j u e
end Ix
namespace Ix
open PySem L2
theorem q_pow10 {j : Int} {S : Hd} (h : 0 ≤ j) (h1 : j ≤ 1000000) : binD .pow (.int 10) (.int j) S = some (.int (10 ^ j.toNat), S) := q_pow h h1 (by decide)
end Ix
namespace Ix
theorem rng_get {β : Type} {n i : Nat} {d : β} {f : Nat → β} (h : ((List.range n).map f)[i]? = some d) : i < n ∧ d = f i := by
  rw [List.getElem?_map] at h
  by_cases hi : i < n
  · rw [List.getElem?_range hi] at h
    exact ⟨hi, (Option.some.inj h).symm⟩
  · rw [List.getElem?_eq_none (by simpa using hi)] at h
    cases h
end Ix
namespace Ix
open PySem L2
theorem atI_k {β : Type} {xs : List β} {a : β} (k : Nat) (h : xs[k]? = some a) : atI xs (k : Int) = some a := atI_nat h
theorem atI_3 {β : Type} {a b c d : β} {l : List β} : atI (a :: b :: c :: d :: l) 3 = some d := atI_k 3 rfl
theorem atI_4 {β : Type} {a b c d e : β} {l : List β} : atI (a :: b :: c :: d :: e :: l) 4 = some e := atI_k 4 rfl
theorem atI_5 {β : Type} {a b c d e f : β} {l : List β} : atI (a :: b :: c :: d :: e :: f :: l) 5 = some f := atI_k 5 rfl
theorem atI_6 {β : Type} {a b c d e f g : β} {l : List β} : atI (a :: b :: c :: d :: e :: f :: g :: l) 6 = some g := atI_k 6 rfl
theorem atI_7 {β : Type} {a b c d e f g h : β} {l : List β} : atI (a :: b :: c :: d :: e :: f :: g :: h :: l) 7 = some h := atI_k 7 rfl
theorem M_blt1 {Γ : Fs} {B : Bl} {e : E} {env : Sl} {S : Hd} {Q : D × Hd → Prop} (h : M (ev Γ e env S) fun x => M (bltD B [x.1] x.2) Q) : M (ev Γ (.blt B (.cons e .nil)) env S) Q := by
  simp only [ev, M_bind, M_map, M_some, argsOf, Option.map_some, Option.bind_some]
  exact h
end Ix
namespace Ix
open PySem L2
theorem for_M {Γ : Fs} {k : Ik} {es : E} {g : G} {b : Sx} {env : Sl} {S : Hd} {Q : Out × Sl × Hd → Prop}
    (h : M (ev Γ es env S) fun x => ∃ ds its, x.1 = .tup ds ∧ items k ds x.2 = some its ∧ M (loopS (fun d e S1 => (asgG g d e).bind fun e2 => ex Γ b e2 S1) (fun S1 => items k ds S1 = some its) its env x.2) Q) : M (ex Γ (.for_ k es g b) env S) Q := by
  simp only [ex, M_bind]
  refine h.imp fun x ⟨ds, its, e1, e2, m⟩ => ?_
  rw [e1]
  simp only [argsOf, M_some, e2]
  exact m
theorem ite_M {Γ : Fs} {c : E} {s t : Sx} {env : Sl} {S : Hd} {Q : Out × Sl × Hd → Prop} (h : M (tst (ev Γ c env S)) fun r => if r.1 = true then M (ex Γ s env r.2) Q else M (ex Γ t env r.2) Q) : M (ex Γ (.ite c s t) env S) Q := by
  simp only [ex, M_bind, M_ite]
  exact h
end Ix
namespace Ix
open PySem L2
/-- a result that changes nothing that stands -/
def Pu (r : Option (D × Hd)) (v : D) (S : Hd) : Prop := M r fun x => x.1 = v ∧ Lq S x.2
theorem Pu.use {r : Option (D × Hd)} {v : D} {S : Hd} {Q : D × Hd → Prop} (h : Pu r v S) (k : ∀ S', Lq S S' → Q (v, S')) : M r Q := h.imp fun ⟨d, S'⟩ ⟨e, l⟩ => by
  have e : d = v := e
  subst e
  exact k S' l
theorem Pu.run {T : Nat → Option Fd} {n f : Nat} {F : Fd} {ds : List D} {S : Hd} {v : D} (hT : T f = some F) (hl : ds.length = F.np) (h : M (ex (run T n) F.body (ds.map some ++ List.replicate (F.m - ds.length) none) S) fun r => M (outD (some r)) fun x => x.1 = v ∧ Lq S x.2) : Pu (Ix.run T (n + 1) f ds S) v S := run_M hT hl h
theorem cut_1 {xs : List D} : cutD xs (some 1) none = xs.drop 1 := by
  unfold cutD
  have e1 : HT.sIx xs.length 0 (some 1) = min 1 xs.length := rfl
  have e2 : HT.sIx xs.length xs.length none = xs.length := rfl
  rw [e1, e2]
  cases xs with
  | nil => rfl
  | cons x xs =>
    have : min 1 (x :: xs).length = 1 := by simp
    rw [this, List.take_of_length_le (by simp)]
theorem zip_get {L : List Int} {i : Nat} {d : D} (h : (List.zipWith (fun a b => D.tup [a, b]) (L.map .int) ((L.map .int).drop 1))[i]? = some d) : ∃ x y, L[i]? = some x ∧ L[i + 1]? = some y ∧ d = .tup [.int x, .int y] := by
  rw [List.getElem?_zipWith, List.getElem?_drop, List.getElem?_map, List.getElem?_map, show 1 + i = i + 1 by omega] at h
  cases h1 : L[i]? with
  | none => rw [h1] at h; simp at h
  | some x =>
    cases h2 : L[i + 1]? with
    | none => rw [h1, h2] at h; simp at h
    | some y =>
      rw [h1, h2] at h
      simp at h
      exact ⟨x, y, rfl, rfl, h.symm⟩
theorem M_all {Γ : Fs} {k : Ik} {cs ce : E} {g : G} {own : List Nat} {env : Sl} {S S1 : Hd} {ds its : List D} {Q : D × Hd → Prop} (b : Nat → Bool) (ho : gOk own g = true) (h1 : ev Γ cs env S = some (.tup ds, S1)) (l1 : Lq S S1) (h2 : items k ds S1 = some its) (hz : its.length < most)
    (he : ∀ (i : Nat) (d : D) (S2 : Hd), its[i]? = some d → Lq S1 S2 → ∃ env1, asgG g d (wipeD env own) = some env1 ∧ M (ev Γ ce env1 S2) fun r => r.1 = .bl (b i) ∧ Lq S2 r.2)
    (hit : ∀ S2, Lq S1 S2 → items k ds S2 = some its) (hq : ∀ S2, Lq S S2 → Q (.bl ((List.range its.length).all b), S2)) :
    M (ev Γ (.blt .all_ (.cons (.lc k cs g (.c (.bl true)) ce own) .nil)) env S) Q := by
  refine M_blt1 (M_lc (fun i => .bl (b i)) ho h1 h2 hz he hit fun j S2 hj hg l => ?_)
  have e : (List.range its.length).map (fun i => D.bl (b i)) = ((List.range its.length).map b).map .bl := by
    rw [List.map_map]
    rfl
  rw [e] at hg
  simp only [q_all hg, M_some]
  rw [List.all_map]
  exact hq S2 (l1.trans l)
theorem M_allT {Γ : Fs} {k : Ik} {cs ce : E} {g : G} {own : List Nat} {env : Sl} {S S1 : Hd} {ds its : List D} {Q : D × Hd → Prop} (ho : gOk own g = true) (h1 : ev Γ cs env S = some (.tup ds, S1)) (l1 : Lq S S1) (h2 : items k ds S1 = some its) (hz : its.length < most)
    (he : ∀ (i : Nat) (d : D) (S2 : Hd), its[i]? = some d → Lq S1 S2 → ∃ env1, asgG g d (wipeD env own) = some env1 ∧ M (ev Γ ce env1 S2) fun r => r.1 = .bl true ∧ Lq S2 r.2)
    (hit : ∀ S2, Lq S1 S2 → items k ds S2 = some its) (hq : ∀ S2, Lq S S2 → Q (.bl true, S2)) :
    M (ev Γ (.blt .all_ (.cons (.lc k cs g (.c (.bl true)) ce own) .nil)) env S) Q :=
  M_all (fun _ => true) ho h1 l1 h2 hz he hit fun S2 l => by
    rw [show ((List.range its.length).all fun _ => true) = true by simp]
    exact hq S2 l
theorem isi_ii {i : Int} {S : Hd} : bltD .isi [.int i, .ty "int"] S = some (.bl true, S) := by
  rw [q_isi (c := "int") (n := "int") (by decide) rfl]
  rfl
theorem isi_ib {i : Int} {S : Hd} : bltD .isi [.int i, .ty "bool"] S = some (.bl false, S) := by
  rw [q_isi (c := "bool") (n := "int") (by decide) rfl]
  rfl
theorem isi_tt {xs : List D} {S : Hd} : bltD .isi [.tup xs, .ty "tuple"] S = some (.bl true, S) := by
  rw [q_isi (c := "tuple") (n := "tuple") (by decide) rfl]
  rfl
theorem isi_itl {i : Int} {S : Hd} : bltD .isi [.int i, .tup [.ty "tuple", .ty "list"]] S = some (.bl false, S) := by
  rw [q_isiT (cs := [.ty "tuple", .ty "list"]) (ts := ["tuple", "list"]) (n := "int") (by simp only [tysOf, show plainTy "tuple" = true by decide, show plainTy "list" = true by decide, if_true, Option.map_some]) rfl]
  rfl
theorem isi_btl {i : Bool} {S : Hd} : bltD .isi [.bl i, .tup [.ty "tuple", .ty "list"]] S = some (.bl false, S) := by
  rw [q_isiT (cs := [.ty "tuple", .ty "list"]) (ts := ["tuple", "list"]) (n := "bool") (by simp only [tysOf, show plainTy "tuple" = true by decide, show plainTy "list" = true by decide, if_true, Option.map_some]) rfl]
  rfl
theorem isi_ttl {xs : List D} {S : Hd} : bltD .isi [.tup xs, .tup [.ty "tuple", .ty "list"]] S = some (.bl true, S) := by
  rw [q_isiT (cs := [.ty "tuple", .ty "list"]) (ts := ["tuple", "list"]) (n := "tuple") (by simp only [tysOf, show plainTy "tuple" = true by decide, show plainTy "list" = true by decide, if_true, Option.map_some]) rfl]
  rfl
theorem isi_tl {xs : List D} {S : Hd} : bltD .isi [.tup xs, .ty "list"] S = some (.bl false, S) := by
  rw [q_isi (c := "list") (n := "tuple") (by decide) rfl]
  rfl
theorem isi_bb {i : Bool} {S : Hd} : bltD .isi [.bl i, .ty "bool"] S = some (.bl true, S) := by
  rw [q_isi (c := "bool") (n := "bool") (by decide) rfl]
  rfl
theorem isi_ltl {xs : List D} {k : Nat} {S : Hd} (h : S[k]? = some (.lst xs)) : bltD .isi [.ref k, .tup [.ty "tuple", .ty "list"]] S = some (.bl true, S) := by
  rw [q_isiT (cs := [.ty "tuple", .ty "list"]) (ts := ["tuple", "list"]) (n := "list") (by simp only [tysOf, show plainTy "tuple" = true by decide, show plainTy "list" = true by decide, if_true, Option.map_some]) (n_ref h)]
  rfl
theorem isi_ll {xs : List D} {k : Nat} {S : Hd} (h : S[k]? = some (.lst xs)) : bltD .isi [.ref k, .ty "list"] S = some (.bl true, S) := by
  rw [q_isi (c := "list") (n := "list") (by decide) (n_ref h)]
  rfl
theorem M_and {Γ : Fs} {a b : E} {env : Sl} {S : Hd} {Q : D × Hd → Prop} (h : M (ev Γ a env S) fun x => x.1 = .bl true ∧ M (ev Γ b env x.2) Q) : M (ev Γ (.and_ a b) env S) Q := by
  simp only [ev, M_bind]
  refine h.imp fun x ⟨e, m⟩ => ?_
  rw [e]
  exact m
end Ix
namespace Ix
open PySem L2
theorem Lq.ple {S0 S S' : Hd} {p : Nat} (a : Lq S0 S) (b : Le p S S') (h : S0.length ≤ p) : Lq S0 S' := fun k o e => b k o (by have := lt_of_get e; omega) (a k o e)
theorem cut_mem {xs : List D} {l h : Option Int} {i : Nat} {d : D} (e : (cutD xs l h)[i]? = some d) : d ∈ xs := by
  unfold cutD at e
  exact List.mem_of_mem_drop (List.mem_of_mem_take (List.mem_of_getElem? e))
theorem cut_len {xs : List D} {l h : Option Int} : (cutD xs l h).length ≤ xs.length := by
  unfold cutD
  rw [List.length_take, List.length_drop]
  omega
theorem cell_get {ns : List Int} {c : Int} {l h : Option Int} {i : Nat} {d : D} (e : ([D.int c] ++ cutD (ns.map .int) l h)[i]? = some d) : ∃ z, d = .int z := by
  have := List.mem_of_getElem? e
  rcases List.mem_append.mp this with q | q
  · exact ⟨c, List.mem_singleton.mp q⟩
  · obtain ⟨j, hj⟩ := List.getElem?_of_mem q
    obtain ⟨z, _, rfl⟩ := List.mem_map.mp (cut_mem hj)
    exact ⟨z, rfl⟩
end Ix

namespace Ix
open PySem L2
theorem Lq.len {S S' : Hd} (a : Lq S S') : S.length ≤ S'.length := by
  rcases Nat.lt_or_ge S'.length S.length with h | h
  · have e := a S'.length _ (List.getElem?_eq_getElem h)
    have := lt_of_get e
    omega
  · exact h
/-- a comprehension over known items: c tells which of them are kept, v what each becomes -/
theorem M_lcx {β : Type} {Γ : Fs} {k : Ik} {cs cc ce : E} {g : G} {own : List Nat} {env : Sl} {S : Hd} {Q : D × Hd → Prop} (xs : List β) (f : β → D) (c : β → Bool) (v : β → D) (ho : gOk own g = true)
    (h1 : M (ev Γ cs env S) fun x => ∃ ds S1, x = (.tup ds, S1) ∧ Lq S S1 ∧ ∀ S2, Lq S1 S2 → items k ds S2 = some (xs.map f)) (hz : xs.length < most)
    (he : ∀ (x : β) (S2 : Hd), x ∈ xs → Lq S S2 → ∃ env1, asgG g (f x) (wipeD env own) = some env1 ∧ M (tst (ev Γ cc env1 S2)) fun r => r.1 = c x ∧ Lq S2 r.2 ∧ (c x = true → M (ev Γ ce env1 r.2) fun y => y.1 = v x ∧ Lq r.2 y.2))
    (hq : ∀ (j : Nat) (S2 : Hd), S.length ≤ j → S2[j]? = some (.lst ((xs.filter c).map v)) → Lq S S2 → Q (.ref j, S2)) : M (ev Γ (.lc k cs g cc ce own) env S) Q := by
  simp only [ev, ho, if_true, M_bind]
  refine h1.imp ?_
  rintro _ ⟨ds, S1, rfl, l1, hit⟩
  simp only [M_bind, argsOf, M_some, hit S1 (Lq.refl _), M_map]
  refine M_loopH (fun i S2 => S2[S1.length]? = some (.lst (((xs.take i).filter c).map v)) ∧ Lq S1 S2) (m := 0) ⟨by simp, Lq.app _ _⟩ (fun i d S2 hi ⟨a, b⟩ => ?_) fun S2 ⟨a, b⟩ => ?_
  · rw [List.getElem?_map] at hi
    cases hx : xs[i]? with
    | none => rw [hx] at hi; cases hi
    | some x =>
      rw [hx] at hi
      simp only [Option.map_some, Option.some.injEq] at hi
      subst hi
      obtain ⟨env1, e1, m1⟩ := he x S2 (List.mem_of_getElem? hx) (l1.trans b)
      have et : xs.take (0 + i + 1) = xs.take (0 + i) ++ [x] := by
        rw [Nat.zero_add, List.take_add_one, hx]
        rfl
      simp only [e1, Option.bind_some, M_bind]
      refine m1.imp fun r ⟨e2, l2, m2⟩ => ?_
      have hlt : i < xs.length := (List.getElem?_eq_some_iff.mp hx).1
      cases hc : c x with
      | false =>
        rw [e2, hc]
        simp only [Bool.false_eq_true, if_false, M_some]
        refine ⟨hit _ (b.trans l2), ?_, b.trans l2⟩
        rw [et, List.filter_append]
        simp only [List.filter_cons, hc, Bool.false_eq_true, if_false, List.filter_nil, List.append_nil]
        exact l2 _ _ a
      | true =>
        rw [e2, hc]
        simp only [if_true, M_bind]
        refine (m2 hc).imp fun y ⟨e3, l3⟩ => ?_
        have hl : ((xs.take (0 + i)).filter c).length ≤ xs.length := Nat.le_trans (List.length_filter_le _ _) (by rw [List.length_take]; omega)
        have hl2 : ((xs.take (0 + i)).filter c).length ≤ i := Nat.le_trans (List.length_filter_le _ _) (by rw [List.length_take]; omega)
        rw [q_push (l3 _ _ (l2 _ _ a)) (by rw [List.length_map]; omega), M_some]
        have l4 : Lq S1 (y.2.set S1.length (.lst ((((xs.take (0 + i)).filter c).map v) ++ [y.1]))) := Lq.set (b.trans (l2.trans l3)) (Nat.le_refl _)
        refine ⟨hit _ l4, ?_, l4⟩
        rw [List.getElem?_set_self (lt_of_get (l3 _ _ (l2 _ _ a))), e3, et, List.filter_append, List.map_append]
        simp only [List.filter_cons, hc, if_true, List.filter_nil, List.map_cons, List.map_nil]
  · rw [Nat.zero_add, List.length_map, List.take_length] at a
    exact hq _ S2 l1.len a (l1.trans b)
theorem filt_true {β : Type} {xs : List β} : xs.filter (fun _ => true) = xs := List.filter_eq_self.mpr (by simp)
theorem map_get {β : Type} {xs : List β} {f : β → D} {i : Nat} {d : D} (h : (xs.map f)[i]? = some d) : ∃ x, xs[i]? = some x ∧ x ∈ xs ∧ d = f x := by
  rw [List.getElem?_map] at h
  cases hx : xs[i]? with
  | none => rw [hx] at h; cases h
  | some j =>
    rw [hx] at h
    simp only [Option.map_some, Option.some.injEq] at h
    exact ⟨j, rfl, List.mem_of_getElem? hx, h.symm⟩
/-- ascending lists of the same numbers are the same -/
theorem asc_ext : ∀ {A B : List Int}, A.Pairwise (· < ·) → B.Pairwise (· < ·) → (∀ x, x ∈ A ↔ x ∈ B) → A = B
  | [], [], _, _, _ => rfl
  | [], b :: B, _, _, h => absurd ((h b).mpr List.mem_cons_self) (by simp)
  | a :: A, [], _, _, h => absurd ((h a).mp List.mem_cons_self) (by simp)
  | a :: A, b :: B, ha, hb, h => by
    rw [List.pairwise_cons] at ha hb
    have e : a = b := by
      have h1 := (h a).mp List.mem_cons_self
      have h2 := (h b).mpr List.mem_cons_self
      rcases List.mem_cons.mp h1 with q | q
      · exact q
      · rcases List.mem_cons.mp h2 with r | r
        · exact r.symm
        · have := ha.1 b r
          have := hb.1 a q
          omega
    subst e
    congr 1
    refine asc_ext ha.2 hb.2 fun x => ⟨fun q => ?_, fun q => ?_⟩
    · rcases List.mem_cons.mp ((h x).mp (List.mem_cons_of_mem _ q)) with r | r
      · have := ha.1 x q
        omega
      · exact r
    · rcases List.mem_cons.mp ((h x).mpr (List.mem_cons_of_mem _ q)) with r | r
      · have := hb.1 x q
        omega
      · exact r
theorem M_tup2 {Γ : Fs} {a b : E} {env : Sl} {S : Hd} {Q : D × Hd → Prop} (h : M (ev Γ a env S) fun x => M (ev Γ b env x.2) fun y => Q (.tup [x.1, y.1], y.2)) : M (ev Γ (.tup (.cons a (.cons b .nil))) env S) Q := by
  simp only [ev, M_bind, M_map, M_some, argsOf, Option.map_some, Option.bind_some, List.length_cons, List.length_nil, show (0 + 1 + 1 : Nat) ≤ most by decide, if_true]
  exact h
theorem i_rng2 {i j : Int} {S : Hd} (h1 : -(2 ^ 62) ≤ i) (h2 : i < 2 ^ 62) (h3 : -(2 ^ 62) ≤ j) (h4 : j < 2 ^ 62) : items .range2 [.int i, .int j] S = some ((List.range (j - i).toNat).map fun (m : Nat) => .int (i + (m : Int))) := if_pos ⟨h1, h2, h3, h4⟩
end Ix

namespace Ix
open PySem L2
/-- a comprehension without a test whose elements may change what stands: I i ys S after i turns, ys what the new list (at j) holds -/
theorem M_lcI {β : Type} {Γ : Fs} {k : Ik} {cs ce : E} {g : G} {own : List Nat} {env : Sl} {S : Hd} {Q : D × Hd → Prop} (xs : List β) (f : β → D) (I : Nat → Nat → List D → Hd → Prop) (ho : gOk own g = true)
    (h1 : M (ev Γ cs env S) fun x => ∃ ds S1, x = (.tup ds, S1) ∧ items k ds S1 = some (xs.map f) ∧ I S1.length 0 [] (S1 ++ [.lst []]) ∧
      ∀ (i : Nat) (x : β) (ys : List D) (S2 : Hd), xs[i]? = some x → ys.length = i → S2[S1.length]? = some (.lst ys) → I S1.length i ys S2 → ∃ env1, asgG g (f x) (wipeD env own) = some env1 ∧
        M (ev Γ ce env1 S2) fun y => y.2[S1.length]? = some (.lst ys) ∧ items k ds (y.2.set S1.length (.lst (ys ++ [y.1]))) = some (xs.map f) ∧ I S1.length (i + 1) (ys ++ [y.1]) (y.2.set S1.length (.lst (ys ++ [y.1]))))
    (hz : xs.length < most) (hq : ∀ (j : Nat) (ys : List D) (S2 : Hd), ys.length = xs.length → S2[j]? = some (.lst ys) → I j xs.length ys S2 → Q (.ref j, S2)) :
    M (ev Γ (.lc k cs g (.c (.bl true)) ce own) env S) Q := by
  simp only [ev, ho, if_true, M_bind]
  refine h1.imp ?_
  rintro _ ⟨ds, S1, rfl, hit, i0, he⟩
  simp only [M_bind, argsOf, M_some, hit, M_map]
  refine M_loopH (fun i S2 => ∃ ys, ys.length = i ∧ S2[S1.length]? = some (.lst ys) ∧ I S1.length i ys S2) (m := 0) ⟨[], rfl, by simp, i0⟩ (fun i d S2 hi ⟨ys, yl, a, b⟩ => ?_) fun S2 ⟨ys, yl, a, b⟩ => ?_
  · rw [List.getElem?_map] at hi
    cases hx : xs[i]? with
    | none => rw [hx] at hi; cases hi
    | some x =>
      rw [hx] at hi
      simp only [Option.map_some, Option.some.injEq] at hi
      subst hi
      rw [Nat.zero_add] at yl b ⊢
      obtain ⟨env1, e1, m1⟩ := he i x ys S2 hx yl a b
      have hlt : i < xs.length := (List.getElem?_eq_some_iff.mp hx).1
      simp only [e1, Option.bind_some, tst, tru, Option.map_some, if_true, M_bind]
      refine m1.imp fun y ⟨q1, q2, q3⟩ => ?_
      rw [q_push q1 (by omega), M_some]
      exact ⟨q2, ys ++ [y.1], by simp [yl], List.getElem?_set_self (lt_of_get q1), q3⟩
  · rw [Nat.zero_add, List.length_map] at b yl
    exact hq _ ys S2 yl a b
theorem M_call3 {Γ : Fs} {f : Nat} {a b c : E} {env : Sl} {S : Hd} {Q : D × Hd → Prop} (h : M (ev Γ a env S) fun x => M (ev Γ b env x.2) fun y => M (ev Γ c env y.2) fun z => M (Γ f [x.1, y.1, z.1] z.2) Q) : M (ev Γ (.call f (.cons a (.cons b (.cons c .nil)))) env S) Q := by
  simp only [ev, M_bind, M_map, M_some, argsOf, Option.map_some, Option.bind_some]
  exact h
theorem cut_to {xs : List D} {m : Nat} : cutD xs none (some (m : Int)) = xs.take m := by
  unfold cutD
  have e1 : HT.sIx xs.length 0 none = 0 := rfl
  have e2 : HT.sIx xs.length xs.length (some (m : Int)) = min m xs.length := rfl
  rw [e1, e2, List.drop_zero, Nat.sub_zero]
  apply List.ext_getElem?
  intro i
  rw [List.getElem?_take, List.getElem?_take]
  by_cases h : i < xs.length
  · by_cases h2 : i < m
    · rw [if_pos h2, if_pos (by omega)]
    · rw [if_neg h2, if_neg (by omega)]
  · rw [List.getElem?_eq_none (by omega)]
    split <;> split <;> rfl
end Ix

namespace Ix
open PySem L2
open Classical in
/-- a while loop by what stands and a bound of its turns -/
theorem M_loopW {test : Sl → Hd → Option (Bool × Hd)} {body : Sl → Hd → Option (Out × Sl × Hd)} {Q : Out × Sl × Hd → Prop} (I : Nat → Sl → Hd → Prop)
    (hs : ∀ n env S, I n env S → M (test env S) fun t => if t.1 = true then ∃ m, n = m + 1 ∧ M (body env t.2) fun r => match r.1 with
      | .brk => Q (.nx, r.2)
      | .ret x => Q (.ret x, r.2)
      | _ => I m r.2.1 r.2.2
      else Q (.nx, env, t.2)) : ∀ {f n : Nat} {env : Sl} {S : Hd}, n < f → I n env S → M (loopW test body f env S) Q
  | 0, n, env, S, h, _ => absurd h (Nat.not_lt_zero n)
  | f + 1, n, env, S, h, i => by
    rw [loopW_succ, M_bind]
    refine (hs n env S i).imp fun t q => ?_
    split at q
    · rename_i ht
      obtain ⟨m, rfl, q⟩ := q
      rw [if_pos ht, M_bind]
      refine q.imp fun r q => ?_
      obtain ⟨o, env1, S1⟩ := r
      cases o with
      | nx => exact M_loopW I hs (by omega) q
      | cont => exact M_loopW I hs (by omega) q
      | brk => simp only [M_some]; exact q
      | ret x => simp only [M_some]; exact q
    · rename_i ht
      rw [if_neg ht, M_some]
      exact q
end Ix

namespace Ix
open PySem L2
/-! ### runs from heaps that differ by what lies ahead alone end alike -/
mutual
def up (δ : Nat) : D → D
  | .ref k => .ref (k + δ)
  | .tup xs => .tup (ups δ xs)
  | .xcp c ns xs => .xcp c ns (ups δ xs)
  | .non => .non
  | .bl b => .bl b
  | .int i => .int i
  | .str x => .str x
  | .ty n => .ty n
  | .ro xs => .ro xs
def ups (δ : Nat) : List D → List D
  | [] => []
  | d :: ds => up δ d :: ups δ ds
end
theorem ups_map {δ : Nat} : ∀ xs : List D, ups δ xs = xs.map (up δ)
  | [] => by simp [ups]
  | d :: ds => by rw [ups, List.map_cons, ups_map ds]
def upO (δ : Nat) : O → O
  | .lst xs => .lst (xs.map (up δ))
  | .dct ks => .dct (ks.map fun kv => (kv.1, up δ kv.2))
def uh (P S : Hd) : Hd := P ++ S.map (upO P.length)
def ur (P : Hd) (r : D × Hd) : D × Hd := (up P.length r.1, uh P r.2)
def ue (δ : Nat) (env : Sl) : Sl := env.map (Option.map (up δ))
mutual
def okD : D → Bool
  | .ref _ => false
  | .tup xs => okDs xs
  | .xcp _ _ xs => okDs xs
  | _ => true
def okDs : List D → Bool
  | [] => true
  | d :: ds => okD d && okDs ds
end
mutual
theorem up_ok {δ : Nat} : ∀ d : D, okD d = true → up δ d = d
  | .ref _, h => by simp [okD] at h
  | .tup xs, h => by rw [up, ups_ok xs (by simpa [okD] using h)]
  | .xcp c ns xs, h => by rw [up, ups_ok xs (by simpa [okD] using h)]
  | .non, _ => by simp [up]
  | .bl b, _ => by simp [up]
  | .int i, _ => by simp [up]
  | .str x, _ => by simp [up]
  | .ty n, _ => by simp [up]
  | .ro xs, _ => by simp [up]
theorem ups_ok {δ : Nat} : ∀ ds : List D, okDs ds = true → ups δ ds = ds
  | [], _ => by simp [ups]
  | d :: ds, h => by
    rw [okDs, Bool.and_eq_true] at h
    rw [ups, up_ok d h.1, ups_ok ds h.2]
end
mutual
theorem up_inj {δ : Nat} : ∀ d e : D, up δ d = up δ e → d = e
  | .ref k, e, h => by cases e <;> simp [up] at h <;> simp [h]
  | .tup xs, e, h => by
    cases e with
    | tup ys =>
      simp only [up, D.tup.injEq] at h
      rw [ups_inj xs ys h]
    | _ => simp [up] at h
  | .xcp c ns xs, e, h => by
    cases e with
    | xcp c' ns' ys =>
      simp only [up, D.xcp.injEq] at h
      rw [ups_inj xs ys h.2.2, h.1, h.2.1]
    | _ => simp [up] at h
  | .non, e, h => by cases e <;> simp [up] at h <;> rfl
  | .bl b, e, h => by cases e <;> simp [up] at h <;> simp [h]
  | .int i, e, h => by cases e <;> simp [up] at h <;> simp [h]
  | .str x, e, h => by cases e <;> simp [up] at h <;> simp [h]
  | .ty n, e, h => by cases e <;> simp [up] at h <;> simp [h]
  | .ro xs, e, h => by cases e <;> simp [up] at h <;> simp [h]
theorem ups_inj {δ : Nat} : ∀ xs ys : List D, ups δ xs = ups δ ys → xs = ys
  | [], ys, h => by cases ys <;> simp [ups] at h; rfl
  | x :: xs, ys, h => by
    cases ys with
    | nil => simp [ups] at h
    | cons y ys =>
      simp only [ups, List.cons.injEq] at h
      rw [up_inj x y h.1, ups_inj xs ys h.2]
end
theorem mapUp_inj {δ : Nat} {xs ys : List D} (h : xs.map (up δ) = ys.map (up δ)) : xs = ys := ups_inj xs ys (by rw [ups_map, ups_map]; exact h)
theorem ur_inj {P : Hd} {a b : Option (List D)} (h : a.map (List.map (up P.length)) = b.map (List.map (up P.length))) : a = b := by
  cases a <;> cases b <;> simp at h
  · rfl
  · exact congrArg some (mapUp_inj h)
section
variable {P S : Hd}
theorem uh_len : (uh P S).length = S.length + P.length := by simp [uh]; omega
theorem uh_get (k : Nat) : (uh P S)[k + P.length]? = (S[k]?).map (upO P.length) := by
  unfold uh
  rw [List.getElem?_append_right (by omega), Nat.add_sub_cancel, List.getElem?_map]
theorem uh_app (o : O) : uh P S ++ [upO P.length o] = uh P (S ++ [o]) := by simp [uh]
theorem uh_set (k : Nat) (o : O) : (uh P S).set (k + P.length) (upO P.length o) = uh P (S.set k o) := by
  unfold uh
  rw [List.set_append_right (h := by omega), Nat.add_sub_cancel, List.map_set]
theorem bindM {α α' β β' : Type} {m1 : α → α'} {m2 : β → β'} {o : Option α} {o' : Option α'} {f : α → Option β} {f' : α' → Option β'} (h : o' = o.map m1) (k : ∀ x, f' (m1 x) = (f x).map m2) : o'.bind f' = (o.bind f).map m2 := by
  subst h
  cases o with
  | none => rfl
  | some x => exact k x
theorem mapM' {α α' β β' : Type} {m1 : α → α'} {m2 : β → β'} {o : Option α} {o' : Option α'} {f : α → β} {f' : α' → β'} (h : o' = o.map m1) (k : ∀ x, f' (m1 x) = m2 (f x)) : o'.map f' = (o.map f).map m2 := by
  subst h
  cases o with
  | none => rfl
  | some x => exact congrArg some (k x)
theorem alloc_up (xs : List D) : alloc (uh P S) (xs.map (up (List.length P))) = ur P (alloc S xs) := by
  unfold alloc ur
  rw [uh_len]
  simp only [up]
  rw [← uh_app]
  rfl
theorem seqOf_up (d : D) : seqOf (uh P S) (up (List.length P) d) = (seqOf S d).map (List.map (up (List.length P))) := by
  cases d with
  | tup xs => simp [up, seqOf, ups_map]
  | ref k =>
    simp only [up, seqOf, uh_get]
    cases S[k]? with
    | none => rfl
    | some o => cases o <;> rfl
  | ro ns =>
    simp only [up, seqOf, Option.map_some, List.map_map]
    congr 2
  | _ => simp [up, seqOf]
theorem isTup_up (d : D) : isTup (up (List.length P) d) = isTup d := by cases d <;> simp [up, isTup]
theorem tru_up (d : D) : tru (uh P S) (up (List.length P) d) = tru S d := by
  cases d with
  | tup xs => simp [up, tru, seqOf, ups_map]
  | ref k =>
    have := seqOf_up (P := P) (S := S) (.ref k)
    simp only [up] at this
    simp only [up, tru, this, Option.map_map]
    congr 1
    funext xs
    simp
  | ro ns => simp [up, tru, seqOf]
  | _ => simp [up, tru, seqOf]
theorem flat_up (d : D) : flat (up (List.length P) d) = flat d := by cases d <;> simp [up, flat]
theorem eqF_up (x y : D) : eqF (up (List.length P) x) (up (List.length P) y) = eqF x y := by cases x <;> cases y <;> simp [up, eqF]
theorem isNon_up (d : D) : isNon (up (List.length P) d) = isNon d := by cases d <;> simp [up, isNon]
theorem scalD_up (x y : D) : scalD (up (List.length P) x) (up (List.length P) y) = scalD x y := by cases x <;> cases y <;> simp [up, scalD]
theorem binD_up (o : Bo) (x y : D) : binD o (up (List.length P) x) (up (List.length P) y) (uh P S) = (binD o x y S).map (ur P) := by
  cases o with
  | add =>
    cases x with
    | ref a =>
      cases y with
      | ref b =>
        simp only [up, binD, uh_get]
        cases S[a]? with
        | none => cases S[b]? <;> rfl
        | some o =>
          cases o with
          | dct _ => cases S[b]? <;> rfl
          | lst xs =>
            cases S[b]? with
            | none => rfl
            | some q =>
              cases q with
              | dct _ => rfl
              | lst ys =>
                simp only [Option.map_some, upO, List.length_map]
                split
                · rw [Option.map_some, ← alloc_up, List.map_append]
                · rfl
      | _ => simp [up, binD]
    | ro ns =>
      cases y with
      | ref b =>
        simp only [up, binD, uh_get]
        cases S[b]? with
        | none => rfl
        | some q =>
          cases q with
          | dct _ => rfl
          | lst ys =>
            simp only [Option.map_some, upO, List.length_map]
            split
            · rw [Option.map_some, ← alloc_up, List.map_append, List.map_map]
              congr 3
            · rfl
      | _ => simp [up, binD]
    | tup xs =>
      cases y with
      | tup ys =>
        simp only [up, binD, ups_map, List.length_map]
        split
        · simp [ur, up, ups_map]
        · rfl
      | _ => simp [up, binD]
    | int i => cases y <;> simp [up, binD, ur]
    | str i =>
      cases y with
      | str j =>
        simp only [up, binD]
        split <;> simp [ur, up]
      | _ => simp [up, binD]
    | _ => cases y <;> simp [up, binD]
  | sub => cases x <;> cases y <;> simp [up, binD, ur]
  | mul =>
    cases x with
    | ref a =>
      cases y with
      | int k =>
        simp only [up, binD, uh_get]
        cases S[a]? with
        | none => rfl
        | some q =>
          cases q with
          | dct _ => rfl
          | lst ys =>
            simp only [Option.map_some, upO, List.length_map]
            split
            · rw [Option.map_some, ← alloc_up]
              simp
            · rfl
      | _ => simp [up, binD]
    | int i =>
      cases y with
      | int j =>
        simp only [up, binD]
        split <;> simp [ur, up]
      | _ => simp [up, binD]
    | _ => cases y <;> simp [up, binD]
  | fdiv =>
    cases x with
    | int i =>
      cases y with
      | int j =>
        simp only [up, binD]
        split <;> simp [ur, up]
      | _ => simp [up, binD]
    | _ => cases y <;> simp [up, binD]
  | mod =>
    cases x with
    | int i =>
      cases y with
      | int j =>
        simp only [up, binD]
        split <;> simp [ur, up]
      | _ => simp [up, binD]
    | _ => cases y <;> simp [up, binD]
  | pow =>
    cases x with
    | int i =>
      cases y with
      | int j =>
        simp only [up, binD]
        split <;> simp [ur, up]
      | _ => simp [up, binD]
    | _ => cases y <;> simp [up, binD]
theorem allFlat_up (xs : List D) : (xs.map (up (List.length P))).all flat = xs.all flat := by
  rw [List.all_map]
  congr 1
  funext z
  exact flat_up z
theorem anyEq_up (x : D) (xs : List D) : ((xs.map (up (List.length P))).any fun z => eqF z (up (List.length P) x)) = xs.any fun z => eqF z x := by
  rw [List.any_map]
  congr 1
  funext z
  exact eqF_up z x
theorem cmpD_up (o : Co) (x y : D) : cmpD o (up (List.length P) x) (up (List.length P) y) (uh P S) = (cmpD o x y S).map (ur P) := by
  have hin : ∀ b : Bool, (if flat (up (List.length P) x) = true then (seqOf (uh P S) (up (List.length P) y)).bind fun xs => if xs.all flat = true then some (D.bl (b ^^ (xs.any fun z => eqF z (up (List.length P) x))), uh P S) else none else none) = (if flat x = true then (seqOf S y).bind fun xs => if xs.all flat = true then some (D.bl (b ^^ (xs.any fun z => eqF z x)), S) else none else none).map (ur P) := fun b => by
    rw [flat_up]
    split
    · refine bindM (seqOf_up y) fun xs => ?_
      rw [allFlat_up, anyEq_up]
      split <;> simp [ur, up]
    · rfl
  cases o with
  | eq =>
    simp only [cmpD, scalD_up, Option.map_map]
    congr 1
  | ne =>
    simp only [cmpD, scalD_up, Option.map_map]
    congr 1
  | in_ => simpa [cmpD] using hin false
  | notin => simpa [cmpD] using hin true
  | is_ => cases x <;> cases y <;> simp [up, cmpD, ur, isNon]
  | isnot => cases x <;> cases y <;> simp [up, cmpD, ur, isNon]
  | _ => cases x <;> cases y <;> simp [up, cmpD, ur]
theorem keyD_up (d : D) : keyD (up (List.length P) d) = keyD d := by cases d <;> simp [up, keyD]
theorem pairUp_up : ∀ ds : List D, pairUp (ds.map (up (List.length P))) = (pairUp ds).map (List.map fun kv => (kv.1, up (List.length P) kv.2))
  | [] => rfl
  | [_] => rfl
  | k :: v :: ds => by
    simp only [List.map_cons, pairUp, keyD_up]
    cases keyD k with
    | none => rfl
    | some x =>
      simp only [Option.bind_some]
      exact mapM' (pairUp_up ds) fun z => rfl
theorem strsD_up : ∀ ds : List D, strsD (ds.map (up (List.length P))) = strsD ds
  | [] => rfl
  | d :: ds => by cases d <;> simp [up, strsD, strsD_up ds]
theorem intsD_up : ∀ ds : List D, intsD (ds.map (up (List.length P))) = intsD ds
  | [] => rfl
  | d :: ds => by cases d <;> simp [up, intsD, intsD_up ds]
theorem bools_up : ∀ ds : List D, bools (ds.map (up (List.length P))) = bools ds
  | [] => rfl
  | d :: ds => by cases d <;> simp [up, bools, bools_up ds]
theorem tysOf_up : ∀ ds : List D, tysOf (ds.map (up (List.length P))) = tysOf ds
  | [] => rfl
  | d :: ds => by cases d <;> simp [up, tysOf, tysOf_up ds]
theorem pairsD_up : ∀ ds : List D, pairsD (ds.map (up (List.length P))) = pairsD ds
  | [] => rfl
  | d :: ds => by
    have ih := pairsD_up ds
    cases d with
    | tup xs =>
      match xs with
      | [a, b] => cases a <;> cases b <;> simp [up, ups, pairsD, ih]
      | [] => simp [up, ups, pairsD]
      | [a] => cases a <;> simp [up, ups, pairsD]
      | a :: b :: c :: r => cases a <;> cases b <;> simp [up, ups, pairsD]
    | _ => simp [up, pairsD]
theorem cntD_up (x y : D) : cntD (up (List.length P) x) (up (List.length P) y) (uh P S) = (cntD x y S).map (ur P) := by
  cases x with
  | ref k =>
    cases y with
    | str z =>
      simp only [up, cntD, uh_get]
      cases S[k]? with
      | none => rfl
      | some q =>
        cases q with
        | dct _ => rfl
        | lst ys =>
          simp only [Option.map_some, upO, strsD_up, Option.map_map]
          congr 1
    | _ => simp [up, cntD]
  | _ => cases y <;> simp [up, cntD]
theorem isDct_up (d : D) : isDct (uh P S) (up (List.length P) d) = isDct S d := by
  cases d with
  | ref k =>
    simp only [up, isDct, uh_get]
    cases S[k]? with
    | none => rfl
    | some q => cases q <;> rfl
  | _ => simp [up, isDct]
theorem isLst_up (d : D) : isLst (uh P S) (up (List.length P) d) = isLst S d := by
  cases d with
  | ref k =>
    simp only [up, isLst, uh_get]
    cases S[k]? with
    | none => rfl
    | some q => cases q <;> rfl
  | _ => simp [up, isLst]
theorem joinD_up (z : Str) (x : D) : joinD z (up (List.length P) x) (uh P S) = (joinD z x S).map (ur P) := by
  unfold joinD
  refine bindM (m1 := id) ?_ fun ys => ?_
  · rw [seqOf_up, Option.map_id_fun, id]
    cases seqOf S x <;> simp [strsD_up]
  · simp only [id]
    split <;> simp [ur, up]
theorem findK_up (ks : List (Key × D)) (k : Key) : findK (ks.map fun kv => (kv.1, up (List.length P) kv.2)) k = (findK ks k).map (up (List.length P)) := by
  unfold findK
  induction ks with
  | nil => rfl
  | cons a ks ih =>
    rw [List.map_cons, List.find?_cons, List.find?_cons]
    by_cases h : a.1 = k
    · simp only [h, decide_true]
      rfl
    · simp only [h, decide_false]
      exact ih
theorem dgetD_up (x i : D) : dgetD (up (List.length P) x) (up (List.length P) i) (uh P S) = (dgetD x i S).map (ur P) := by
  cases x with
  | ref k =>
    simp only [up, dgetD, uh_get]
    cases S[k]? with
    | none => rfl
    | some q =>
      cases q with
      | lst _ => rfl
      | dct ks =>
        simp only [Option.map_some, upO, keyD_up]
        refine bindM (m1 := id) (by simp) fun y => ?_
        exact mapM' (findK_up ks y) fun d => rfl
  | _ => simp [up, dgetD]
theorem getdD_up (x i d : D) : getdD (up (List.length P) x) (up (List.length P) i) (up (List.length P) d) (uh P S) = (getdD x i d S).map (ur P) := by
  cases x with
  | ref k =>
    simp only [up, getdD, uh_get]
    cases S[k]? with
    | none => rfl
    | some q =>
      cases q with
      | lst _ => rfl
      | dct ks =>
        simp only [Option.map_some, upO, keyD_up]
        refine mapM' (m1 := id) (by simp) fun y => ?_
        simp only [id, findK_up]
        cases findK ks y <;> rfl
  | _ => simp [up, getdD]
theorem dinD_up (x y : D) : dinD (up (List.length P) x) (up (List.length P) y) (uh P S) = (dinD x y S).map (ur P) := by
  cases y with
  | ref k =>
    simp only [up, dinD, uh_get]
    cases S[k]? with
    | none => rfl
    | some q =>
      cases q with
      | lst _ => rfl
      | dct ks =>
        simp only [Option.map_some, upO, keyD_up]
        refine mapM' (m1 := id) (by simp) fun y => ?_
        simp only [id, findK_up]
        cases findK ks y <;> rfl
  | _ => simp [up, dinD]
theorem txtD_up (d : D) : txtD (up (List.length P) d) = txtD d := by cases d <;> simp [up, txtD]
theorem mkxD_up (c : Str) (ns : List Str) (own : Bool) (ds : List D) : mkxD c ns own (ds.map (up (List.length P))) = (mkxD c ns own ds).map (up (List.length P)) := by
  unfold mkxD
  have h : (ds.map (up (List.length P))).all txtD = ds.all txtD := by
    rw [List.all_map]
    congr 1
    funext z
    exact txtD_up z
  rw [h, List.length_map]
  split
  · split
    · simp [up, ups_map]
    · rfl
  · split
    · simp [up, ups]
    · rfl
theorem isxD_up (t : Str) (d : D) : isxD t (up (List.length P) d) = (isxD t d).map (up (List.length P)) := by cases d <;> simp [up, isxD]
theorem lookup_up : ∀ (ns : List Str) (xs : List D) (n : Str), (ns.zip (xs.map (up (List.length P)))).lookup n = ((ns.zip xs).lookup n).map (up (List.length P))
  | [], _, _ => rfl
  | _ :: _, [], _ => rfl
  | a :: ns, x :: xs, n => by
    simp only [List.map_cons, List.zip_cons_cons, List.lookup]
    split
    · rfl
    · exact lookup_up ns xs n
theorem attrD_up (c n : Str) (d : D) : attrD c n (up (List.length P) d) = (attrD c n d).map (up (List.length P)) := by
  cases d with
  | xcp k ns xs =>
    simp only [up, attrD, ups_map, lookup_up]
    split <;> rfl
  | _ => simp [up, attrD]
theorem pyL_up {f g : D → Option PyData} (h : ∀ d, g (up (List.length P) d) = f d) : ∀ ds : List D, pyL g (ds.map (up (List.length P))) = pyL f ds
  | [] => rfl
  | d :: ds => by simp only [List.map_cons, pyL, h, pyL_up h ds]
theorem py_up : ∀ (n : Nat) (d : D), py n (uh P S) (up (List.length P) d) = py n S d
  | 0, d => by cases d <;> rfl
  | n + 1, d => by
    cases d with
    | tup xs => simp only [up, py, ups_map, pyL_up (py_up n)]
    | ref k =>
      simp only [up, py, uh_get]
      cases S[k]? with
      | none => rfl
      | some q =>
        cases q with
        | dct _ => rfl
        | lst ys => simp only [Option.map_some, upO, pyL_up (py_up n)]
    | _ => simp [up, py]
theorem rprD_up (x : D) : rprD (up (List.length P) x) (uh P S) = (rprD x S).map (ur P) := by
  have h : ((py 9 (uh P S) (up (List.length P) x)).bind fun d => if PySem.PyData.showable d = true ∧ PySem.PyData.hasDict d = false ∧ PySem.PyData.depth d ≤ 64 ∧ (PySem.PyData.shown d).length ≤ PySem.sizeLine then some (D.str (PySem.PyData.shown d), uh P S) else none) = ((py 9 S x).bind fun d => if PySem.PyData.showable d = true ∧ PySem.PyData.hasDict d = false ∧ PySem.PyData.depth d ≤ 64 ∧ (PySem.PyData.shown d).length ≤ PySem.sizeLine then some (D.str (PySem.PyData.shown d), S) else none).map (ur P) := by
    rw [py_up]
    refine bindM (m1 := id) (by simp) fun d => ?_
    simp only [id]
    split <;> simp [ur, up]
  cases x <;> first | exact h | simp [up, rprD]
theorem cmpdD_up (o : Cd) (x y : D) : cmpdD o (up (List.length P) x) (up (List.length P) y) (uh P S) = (cmpdD o x y S).map (ur P) := by
  cases o <;> simp only [cmpdD, py_up] <;> refine bindM (m1 := id) (by simp) (fun d => bindM (m1 := id) (by simp) fun e => ?_) <;> simp only [id] <;> first
    | (split <;> simp [ur, up])
    | (split
       · split <;> simp [ur, up]
       · rfl)
theorem atI_up (xs : List D) (k : Int) : atI (xs.map (up (List.length P))) k = (atI xs k).map (up (List.length P)) := by
  unfold atI
  rw [List.length_map]
  cases ixN xs.length k with
  | none => rfl
  | some j => simp
theorem ixD_up (x i : D) : ixD (up (List.length P) x) (up (List.length P) i) (uh P S) = (ixD x i S).map (ur P) := by
  cases i with
  | int k =>
    simp only [up, ixD]
    exact bindM (seqOf_up x) fun xs => mapM' (atI_up xs k) fun d => rfl
  | _ => simp [up, ixD]
theorem cutD_up (xs : List D) (lo hi : Option Int) : cutD (xs.map (up (List.length P))) lo hi = (cutD xs lo hi).map (up (List.length P)) := by
  unfold cutD
  simp [List.map_drop, List.map_take]
theorem slD_up (x : D) (l h : Option Int) : slD (up (List.length P) x) l h (uh P S) = (slD x l h S).map (ur P) := by
  have g : ((seqOf (uh P S) (up (List.length P) x)).map fun xs => alloc (uh P S) (cutD xs l h)) = ((seqOf S x).map fun xs => alloc S (cutD xs l h)).map (ur P) :=
    mapM' (seqOf_up x) fun xs => by rw [cutD_up, alloc_up]
  cases x with
  | str z =>
    simp only [up, slD]
    split <;> simp [ur, up]
  | tup xs => simp [up, slD, ur, ups_map, cutD_up]
  | _ => exact g
theorem revD_up (x : D) : revD (up (List.length P) x) (uh P S) = (revD x S).map (ur P) := by
  have g : ((seqOf (uh P S) (up (List.length P) x)).map fun xs => alloc (uh P S) xs.reverse) = ((seqOf S x).map fun xs => alloc S xs.reverse).map (ur P) :=
    mapM' (seqOf_up x) fun xs => by rw [← List.map_reverse, alloc_up]
  cases x with
  | tup xs => simp [up, revD, ur, ups_map]
  | _ => exact g
theorem tyName_up (d : D) : tyName (uh P S) (up (List.length P) d) = tyName S d := by
  cases d with
  | ref k =>
    simp only [up, tyName, uh_get]
    cases S[k]? with
    | none => rfl
    | some q => cases q <;> rfl
  | _ => simp [up, tyName]
theorem intsAt_up (x : D) : intsAt (uh P S) (up (List.length P) x) = intsAt S x := by
  unfold intsAt
  rw [isTup_up, seqOf_up]
  split
  · rfl
  · cases seqOf S x <;> simp [intsD_up]
theorem pairsAt_up (x : D) : pairsAt (uh P S) (up (List.length P) x) = pairsAt S x := by
  unfold pairsAt
  rw [isTup_up, seqOf_up]
  split
  · rfl
  · cases seqOf S x <;> simp [pairsD_up]
theorem map_int (ns : List Int) : (ns.map D.int).map (up (List.length P)) = ns.map D.int := by
  rw [List.map_map]
  congr 1
theorem map_pair (ps : List (Int × Int)) : (ps.map pairD).map (up (List.length P)) = ps.map pairD := by
  rw [List.map_map]
  congr 1
theorem map_str {β : Type} (f : β → Str) (ns : List β) : (ns.map fun c => D.str (f c)).map (up (List.length P)) = ns.map fun c => D.str (f c) := by
  rw [List.map_map]
  congr 1
theorem alloc_int (ns : List Int) : alloc (uh P S) (ns.map D.int) = ur P (alloc S (ns.map D.int)) := by rw [← alloc_up, map_int]
theorem bltD_up (b : Bl) (ds : List D) : bltD b (ds.map (up (List.length P))) (uh P S) = (bltD b ds S).map (ur P) := by
  cases b with
  | len =>
    match ds with
    | [x] =>
      simp only [List.map_cons, List.map_nil, bltD]
      exact mapM' (seqOf_up x) fun xs => by simp [ur, up]
    | [] => rfl
    | _ :: _ :: _ => rfl
  | int_ =>
    match ds with
    | [x] => cases x <;> simp [up, bltD, ur]
    | [] => rfl
    | x :: _ :: _ => cases x <;> simp [up, bltD]
  | abs_ =>
    match ds with
    | [x] => cases x <;> simp [up, bltD, ur]
    | [] => rfl
    | x :: _ :: _ => cases x <;> simp [up, bltD]
  | max_ =>
    match ds with
    | [x] =>
      have h : bltD .max_ [up (List.length P) x] (uh P S) = (bltD .max_ [x] S).map (ur P) := by
        simp only [bltD, intsAt_up, Option.map_map]
        congr 1
      exact h
    | [] => rfl
    | [x, y] => cases x <;> cases y <;> simp [up, bltD, ur]
    | x :: y :: _ :: _ => cases x <;> cases y <;> simp [up, bltD]
  | sum_ =>
    match ds with
    | [x] =>
      simp only [List.map_cons, List.map_nil, bltD, intsAt_up, Option.map_map]
      congr 1
    | [] => rfl
    | _ :: _ :: _ => rfl
  | sorted_ =>
    match ds with
    | [x] =>
      simp only [List.map_cons, List.map_nil, bltD, intsAt_up, Option.map_map]
      congr 1
      funext ns
      exact alloc_int _
    | [] => rfl
    | _ :: _ :: _ => rfl
  | sortp_ =>
    match ds with
    | [x] =>
      simp only [List.map_cons, List.map_nil, bltD, pairsAt_up, Option.map_map]
      congr 1
      funext ps
      show alloc (uh P S) _ = ur P (alloc S _)
      rw [← alloc_up, map_pair]
    | [] => rfl
    | _ :: _ :: _ => rfl
  | ssort_ =>
    match ds with
    | [x] =>
      simp only [List.map_cons, List.map_nil, bltD, intsAt_up]
      refine bindM (m1 := id) (by simp) fun ns => ?_
      simp only [id]
      split
      · rw [alloc_int]; rfl
      · rfl
    | [] => rfl
    | _ :: _ :: _ => rfl
  | lrange_ =>
    match ds with
    | [x, y] =>
      cases x with
      | int a =>
        cases y with
        | int b =>
          simp only [List.map_cons, List.map_nil, up, bltD]
          split
          · rw [Option.map_some, ← alloc_up, List.map_map]
            congr 3
          · rfl
        | _ => simp [up, bltD]
      | _ => cases y <;> simp [up, bltD]
    | [] => rfl
    | [x] => cases x <;> simp [up, bltD]
    | x :: y :: _ :: _ => cases x <;> cases y <;> simp [up, bltD]
  | min_ =>
    match ds with
    | [x, y] => cases x <;> cases y <;> simp [up, bltD, ur]
    | [] => rfl
    | [x] => cases x <;> simp [up, bltD]
    | x :: y :: _ :: _ => cases x <;> cases y <;> simp [up, bltD]
  | all_ =>
    match ds with
    | [x] =>
      simp only [List.map_cons, List.map_nil, bltD, isTup_up, seqOf_up]
      split
      · rfl
      · cases seqOf S x with
        | none => rfl
        | some xs =>
          simp only [Option.map_some, Option.bind_some, bools_up, Option.map_map]
          congr 1
    | [] => rfl
    | _ :: _ :: _ => rfl
  | any_ =>
    match ds with
    | [x] =>
      simp only [List.map_cons, List.map_nil, bltD, isTup_up, seqOf_up]
      split
      · rfl
      · cases seqOf S x with
        | none => rfl
        | some xs =>
          simp only [Option.map_some, Option.bind_some, bools_up, Option.map_map]
          congr 1
    | [] => rfl
    | _ :: _ :: _ => rfl
  | tuple_ =>
    match ds with
    | [x] =>
      simp only [List.map_cons, List.map_nil, bltD]
      exact mapM' (seqOf_up x) fun xs => by simp [ur, up, ups_map]
    | [] => rfl
    | _ :: _ :: _ => rfl
  | list_ =>
    match ds with
    | [x] =>
      simp only [List.map_cons, List.map_nil, bltD]
      exact mapM' (seqOf_up x) fun xs => by rw [alloc_up]
    | [] => rfl
    | _ :: _ :: _ => rfl
  | slen =>
    match ds with
    | [x] =>
      cases x with
      | str z =>
        simp only [List.map_cons, List.map_nil, up, bltD]
        split <;> simp [ur, up]
      | _ => simp [up, bltD]
    | [] => rfl
    | x :: _ :: _ => cases x <;> simp [up, bltD]
  | sint =>
    match ds with
    | [x] =>
      cases x with
      | str z =>
        simp only [List.map_cons, List.map_nil, up, bltD]
        split
        · cases PySem.intText? z <;> simp [ur, up]
        · rfl
      | _ => simp [up, bltD]
    | [] => rfl
    | x :: _ :: _ => cases x <;> simp [up, bltD]
  | str_ =>
    match ds with
    | [x] =>
      cases x with
      | int i =>
        simp only [List.map_cons, List.map_nil, up, bltD]
        split <;> simp [ur, up]
      | _ => simp [up, bltD, ur]
    | [] => rfl
    | x :: _ :: _ => cases x <;> simp [up, bltD]
  | isi =>
    match ds with
    | [x, y] =>
      cases y with
      | ty c =>
        simp only [List.map_cons, List.map_nil, up, bltD, tyName_up]
        split
        · rw [Option.map_map]
          congr 1
        · rfl
      | tup cs =>
        simp only [List.map_cons, List.map_nil, up, ups_map, bltD, tyName_up, tysOf_up]
        refine bindM (m1 := id) (by simp) fun ts => ?_
        rw [Option.map_map]
        congr 1
      | _ => simp [up, bltD]
    | [] => rfl
    | [x] => cases x <;> simp [up, bltD]
    | x :: y :: _ :: _ => cases x <;> cases y <;> simp [up, bltD]
theorem methD_up (m : Mt) (x : D) (ds : List D) : methD m (up (List.length P) x) (ds.map (up (List.length P))) (uh P S) = (methD m x ds S).map (ur P) := by
  cases x with
  | ref k =>
    cases m with
    | clear =>
      match ds with
      | [] =>
        simp only [List.map_nil, up, methD, uh_get]
        cases S[k]? with
        | none => rfl
        | some q =>
          cases q with
          | dct _ => rfl
          | lst ys =>
            simp only [Option.map_some, upO, ur, up, ← uh_set]
            rfl
      | _ :: _ => simp [up, methD]
    | append =>
      match ds with
      | [y] =>
        simp only [List.map_cons, List.map_nil, up, methD, uh_get]
        cases S[k]? with
        | none => rfl
        | some q =>
          cases q with
          | dct _ => rfl
          | lst ys =>
            simp only [Option.map_some, upO, List.length_map]
            split
            · simp only [Option.map_some, ur, up, ← uh_set, upO, List.map_append, List.map_cons, List.map_nil]
            · rfl
      | [] => simp [up, methD]
      | _ :: _ :: _ => simp [up, methD]
  | _ => cases m <;> simp [up, methD]
theorem setD_up (o i x : D) : setD (up (List.length P) o) (up (List.length P) i) (up (List.length P) x) (uh P S) = (setD o i x S).map (uh P) := by
  cases o with
  | ref k =>
    cases i with
    | int j =>
      simp only [up, setD, uh_get]
      cases S[k]? with
      | none => rfl
      | some q =>
        cases q with
        | dct _ => rfl
        | lst ys =>
          simp only [Option.map_some, upO, List.length_map, Option.map_map]
          congr 1
          funext m
          simp only [Function.comp, ← uh_set, upO, List.map_set]
    | _ => simp [up, setD]
  | _ => cases i <;> simp [up, setD]
theorem items_up (k : Ik) (ds : List D) : items k (ds.map (up (List.length P))) (uh P S) = (items k ds S).map (List.map (up (List.length P))) := by
  cases k with
  | chars =>
    match ds with
    | [x] =>
      cases x with
      | str z =>
        simp only [List.map_cons, List.map_nil, up, items, Option.map_some, List.map_map]
        congr 2
      | _ => simp [up, items]
    | [] => rfl
    | x :: _ :: _ => cases x <;> simp [up, items]
  | seq =>
    match ds with
    | [x] => exact seqOf_up x
    | [] => rfl
    | _ :: _ :: _ => rfl
  | range1 =>
    match ds with
    | [x] =>
      cases x with
      | int n =>
        simp only [List.map_cons, List.map_nil, up, items]
        split
        · simp only [Option.map_some, List.map_map]
          congr 2
        · rfl
      | _ => simp [up, items]
    | [] => rfl
    | x :: _ :: _ => cases x <;> simp [up, items]
  | range2 =>
    match ds with
    | [x, y] =>
      cases x with
      | int a =>
        cases y with
        | int b =>
          simp only [List.map_cons, List.map_nil, up, items]
          split
          · simp only [Option.map_some, List.map_map]
            congr 2
          · rfl
        | _ => simp [up, items]
      | _ => cases y <;> simp [up, items]
    | [] => rfl
    | [x] => cases x <;> simp [up, items]
    | x :: y :: _ :: _ => cases x <;> cases y <;> simp [up, items]
  | enum =>
    match ds with
    | [x] =>
      simp only [List.map_cons, List.map_nil, items]
      refine mapM' (seqOf_up x) fun xs => ?_
      refine List.ext_getElem? fun i => ?_
      simp only [List.getElem?_mapIdx, List.getElem?_map, Option.map_map]
      congr 1
    | [] => rfl
    | _ :: _ :: _ => rfl
  | zip =>
    match ds with
    | [x, y] =>
      simp only [List.map_cons, List.map_nil, items, isTup_up]
      split
      · refine bindM (seqOf_up x) fun xs => mapM' (seqOf_up y) fun ys => ?_
        rw [List.zipWith_map, List.map_zipWith]
        first | rfl | (congr 1; done) | (congr 1; funext a b; simp [up, ups])
      · rfl
    | [] => rfl
    | [x] => rfl
    | _ :: _ :: _ :: _ => rfl
theorem asgG_up : ∀ (g : G) (d : D) (env : Sl), asgG g (up (List.length P) d) (ue (List.length P) env) = (asgG g d env).map (ue (List.length P))
  | .name i, d, env => by
    simp only [asgG, ue, Option.map_some, List.map_set]
  | .tup g, d, env => by
    cases d with
    | tup xs =>
      have := asgG_up g (.tup xs) env
      simp only [up] at this
      simp only [up, asgG, this]
    | _ => simp [up, asgG]
  | .nil, d, env => by
    cases d with
    | tup xs => cases xs <;> simp [up, ups, asgG]
    | _ => simp [up, asgG]
  | .cons g h, d, env => by
    cases d with
    | tup xs =>
      cases xs with
      | nil => simp [up, ups, asgG]
      | cons x xs =>
        simp only [up, ups, asgG]
        refine bindM (asgG_up g x env) fun env1 => ?_
        have := asgG_up h (.tup xs) env1
        simp only [up] at this
        exact this
    | _ => simp [up, asgG]
theorem wipeD_up (env : Sl) : ∀ vs : List Nat, wipeD (ue (List.length P) env) vs = ue (List.length P) (wipeD env vs)
  | [] => rfl
  | v :: vs => by
    show (wipeD (ue (List.length P) env) vs).set v none = ue (List.length P) ((wipeD env vs).set v none)
    rw [wipeD_up env vs]
    simp [ue, List.map_set]
theorem pushD_up (k : Nat) (x : D) : pushD (k + P.length) (up (List.length P) x) (uh P S) = (pushD k x S).map (uh P) := by
  simp only [pushD, uh_get]
  cases S[k]? with
  | none => rfl
  | some q =>
    cases q with
    | dct _ => rfl
    | lst ys =>
      simp only [Option.map_some, upO, List.length_map]
      split
      · simp only [Option.map_some, ← uh_set, upO, List.map_append, List.map_cons, List.map_nil]
      · rfl
open Classical in
theorem loopH_up {turn turn' : D → Hd → Option Hd} {still still' : Hd → Prop} (ht : ∀ d S, turn' (up (List.length P) d) (uh P S) = (turn d S).map (uh P)) (hs : ∀ S, still' (uh P S) ↔ still S) : ∀ (ds : List D) (S : Hd), loopH turn' still' (ds.map (up (List.length P))) (uh P S) = (loopH turn still ds S).map (uh P)
  | [], S => rfl
  | d :: ds, S => by
    simp only [List.map_cons, loopH]
    refine bindM (ht d S) fun S1 => ?_
    by_cases h : still S1
    · rw [if_pos h, if_pos ((hs S1).mpr h)]
      exact loopH_up ht hs ds S1
    · rw [if_neg h, if_neg (fun z => h ((hs S1).mp z))]
      rfl
def uo (P : Hd) : Out → Out
  | .ret d => .ret (up P.length d)
  | o => o
def u3 (P : Hd) (r : Out × Sl × Hd) : Out × Sl × Hd := (uo P r.1, ue P.length r.2.1, uh P r.2.2)
open Classical in
theorem loopS_up {turn turn' : D → Sl → Hd → Option (Out × Sl × Hd)} {still still' : Hd → Prop} (ht : ∀ d env S, turn' (up (List.length P) d) (ue (List.length P) env) (uh P S) = (turn d env S).map (u3 P)) (hs : ∀ S, still' (uh P S) ↔ still S) :
    ∀ (ds : List D) (env : Sl) (S : Hd), loopS turn' still' (ds.map (up (List.length P))) (ue (List.length P) env) (uh P S) = (loopS turn still ds env S).map (u3 P)
  | [], env, S => rfl
  | d :: ds, env, S => by
    simp only [List.map_cons, loopS]
    refine bindM (ht d env S) fun r => ?_
    obtain ⟨o, env1, S1⟩ := r
    have go : (if still' (uh P S1) then loopS turn' still' (ds.map (up (List.length P))) (ue (List.length P) env1) (uh P S1) else none) = (if still S1 then loopS turn still ds env1 S1 else none).map (u3 P) := by
      by_cases h : still S1
      · rw [if_pos h, if_pos ((hs S1).mpr h)]
        exact loopS_up ht hs ds env1 S1
      · rw [if_neg h, if_neg (fun z => h ((hs S1).mp z))]
        rfl
    cases o with
    | brk => rfl
    | ret x => rfl
    | nx => exact go
    | cont => exact go
theorem loopW_up {test test' : Sl → Hd → Option (Bool × Hd)} {body body' : Sl → Hd → Option (Out × Sl × Hd)} (ht : ∀ env S, test' (ue (List.length P) env) (uh P S) = (test env S).map fun x => (x.1, uh P x.2)) (hb : ∀ env S, body' (ue (List.length P) env) (uh P S) = (body env S).map (u3 P)) :
    ∀ (n : Nat) (env : Sl) (S : Hd), loopW test' body' n (ue (List.length P) env) (uh P S) = (loopW test body n env S).map (u3 P)
  | 0, _, _ => rfl
  | n + 1, env, S => by
    simp only [loopW]
    refine bindM (ht env S) fun t => ?_
    obtain ⟨b, S1⟩ := t
    cases b with
    | false => rfl
    | true =>
      simp only [if_true]
      refine bindM (hb env S1) fun r => ?_
      obtain ⟨o, env1, S2⟩ := r
      cases o with
      | brk => rfl
      | ret x => rfl
      | nx => exact loopW_up ht hb n env1 S2
      | cont => exact loopW_up ht hb n env1 S2
theorem argsOf_up (d : D) : argsOf (up (List.length P) d) = (argsOf d).map (List.map (up (List.length P))) := by cases d <;> simp [up, argsOf, ups_map]
theorem tst_up {o o' : Option (D × Hd)} (h : o' = o.map (ur P)) : tst o' = (tst o).map fun x => (x.1, uh P x.2) := by
  unfold tst
  refine bindM h fun x => ?_
  show ((tru (uh P x.2) (up (List.length P) x.1)).map fun b => (b, uh P x.2)) = _
  rw [tru_up, Option.map_map]
  congr 1
theorem evP_up (b : Bool) {o o' : Option (D × Hd)} (h : o' = o.map (ur P)) : evP b o' (uh P S) = (evP b o S).map fun x => (x.1, uh P x.2) := by
  unfold evP
  split
  · refine bindM h fun x => ?_
    obtain ⟨d, S1⟩ := x
    cases d <;> simp [ur, up]
  · rfl
theorem lookC_up {t : List (Str × D)} (ht : t.all (fun p => okD p.2) = true) (z : Str) : (lookC t z).map (up (List.length P)) = lookC t z := by
  unfold lookC
  cases e : t.find? fun p => decide (p.1 = z) with
  | none => rfl
  | some p =>
    have := List.all_eq_true.mp ht p (List.mem_of_find?_eq_some e)
    simp only [Option.map_some, up_ok _ this]
end
/-- no cell stands in it -/
def okE : E → Bool
  | .c d => okD d
  | .var _ => true | .nop => true | .nil => true
  | .bin _ a b => okE a && okE b | .neg a => okE a | .not_ a => okE a
  | .cmp _ a b => okE a && okE b | .cmpd _ a b => okE a && okE b | .chain _ _ a b c => okE a && okE b && okE c
  | .and_ a b => okE a && okE b | .or_ a b => okE a && okE b | .orv a b => okE a && okE b | .ite c a b => okE c && okE a && okE b
  | .ix a i => okE a && okE i | .sl _ _ a lo hi => okE a && okE lo && okE hi | .rev a => okE a
  | .tup es => okE es | .lst es => okE es | .cons e es => okE e && okE es
  | .dct es => okE es | .dget a i => okE a && okE i
  | .cix t a => t.all (fun p => okD p.2) && okE a | .cget t a => t.all (fun p => okD p.2) && okE a | .cnts a b => okE a && okE b | .rpr a => okE a
  | .call _ es => okE es | .callK _ es ks _ => okE es && okE ks
  | .blt _ es => okE es | .meth _ o es => okE o && okE es
  | .lc _ es _ ifs elt _ => okE es && okE ifs && okE elt
  | .getd a i d => okE a && okE i && okE d | .din a b => okE a && okE b | .joinS _ a => okE a | .cin _ _ a => okE a | .sgn a b => okE a && okE b | .stw a _ => okE a | .split a _ => okE a
  | .mkx _ _ _ es => okE es | .isx a _ => okE a | .attr a _ _ => okE a | .mkxK _ _ _ ks => okE ks
def okS : Sx → Bool
  | .skip => true | .seq s t => okS s && okS t | .asg _ e => okE e | .asgL _ e => okE e | .setix o i e => okE o && okE i && okE e | .drop e => okE e | .ret e => okE e | .retN => true
  | .ite c s t => okE c && okS s && okS t | .for_ _ es _ b => okE es && okS b | .brk => true | .cont => true | .stuck => true | .aug _ _ e => okE e | .while_ c b => okE c && okS b
section
variable {P : Hd} {Γ : Fs}
theorem perm_up (perm : List Nat) (zs : List D) : permV perm (zs.map (up (List.length P))) = (permV perm zs).map (up (List.length P)) := by
  unfold permV
  rw [List.map_filterMap]
  congr 1
  funext i
  rw [List.getElem?_map]
theorem isE_up (o : Option O) : isE (o.map (upO (List.length P))) = isE o := by
  cases o with
  | none => rfl
  | some q =>
    cases q with
    | lst _ => rfl
    | dct ks => cases ks <;> rfl
theorem ev_up (hΓ : ∀ f ds S, Γ f (ds.map (up (List.length P))) (uh P S) = (Γ f ds S).map (ur P)) : ∀ (e : E) (env : Sl) (S : Hd), okE e = true → ev Γ e (ue (List.length P) env) (uh P S) = (ev Γ e env S).map (ur P) := by
  intro e
  induction e with
  | var i =>
    intro env S _
    simp only [ev, ue, List.getElem?_map]
    cases env[i]? with
    | none => rfl
    | some o => cases o <;> rfl
  | c d =>
    intro env S h
    simp only [ev, Option.map_some, ur, up_ok d h]
  | nop =>
    intro env S _
    simp [ev, ur, up]
  | nil =>
    intro env S _
    simp [ev, ur, up, ups]
  | bin o a b iha ihb =>
    intro env S h
    simp only [okE, Bool.and_eq_true] at h
    simp only [ev]
    exact bindM (iha env S h.1) fun x => bindM (ihb env x.2 h.2) fun y => binD_up o x.1 y.1
  | neg a ih =>
    intro env S h
    simp only [ev]
    refine bindM (ih env S h) fun x => ?_
    obtain ⟨d, S1⟩ := x
    cases d <;> simp [ur, up]
  | not_ a ih =>
    intro env S h
    simp only [ev]
    exact mapM' (tst_up (ih env S h)) fun x => by simp [ur, up]
  | cmp o a b iha ihb =>
    intro env S h
    simp only [okE, Bool.and_eq_true] at h
    simp only [ev]
    exact bindM (iha env S h.1) fun x => bindM (ihb env x.2 h.2) fun y => cmpD_up o x.1 y.1
  | cmpd o a b iha ihb =>
    intro env S h
    simp only [okE, Bool.and_eq_true] at h
    simp only [ev]
    exact bindM (iha env S h.1) fun x => bindM (ihb env x.2 h.2) fun y => cmpdD_up o x.1 y.1
  | chain o p a b c iha ihb ihc =>
    intro env S h
    simp only [okE, Bool.and_eq_true] at h
    simp only [ev]
    refine bindM (iha env S h.1.1) fun x => bindM (ihb env x.2 h.1.2) fun y => bindM (cmpD_up o x.1 y.1) fun z => ?_
    obtain ⟨d, S1⟩ := z
    cases d with
    | bl b =>
      cases b with
      | false => simp [ur, up]
      | true =>
        simp only [ur, up]
        exact bindM (ihc env S1 h.2) fun u => cmpD_up p y.1 u.1
    | _ => simp [ur, up]
  | and_ a b iha ihb =>
    intro env S h
    simp only [okE, Bool.and_eq_true] at h
    simp only [ev]
    refine bindM (iha env S h.1) fun x => ?_
    obtain ⟨d, S1⟩ := x
    cases d with
    | bl b =>
      cases b with
      | false => simp [ur, up]
      | true =>
        simp only [ur, up]
        exact ihb env S1 h.2
    | _ => simp [ur, up]
  | or_ a b iha ihb =>
    intro env S h
    simp only [okE, Bool.and_eq_true] at h
    simp only [ev]
    refine bindM (iha env S h.1) fun x => ?_
    obtain ⟨d, S1⟩ := x
    cases d with
    | bl b =>
      cases b with
      | true => simp [ur, up]
      | false =>
        simp only [ur, up]
        exact ihb env S1 h.2
    | _ => simp [ur, up]
  | orv a b iha ihb =>
    intro env S h
    simp only [okE, Bool.and_eq_true] at h
    simp only [ev]
    refine bindM (iha env S h.1) fun x => ?_
    obtain ⟨d, S1⟩ := x
    show (tru (uh P S1) (up (List.length P) d)).bind _ = _
    rw [tru_up]
    refine bindM (m1 := id) (by simp) fun k => ?_
    cases k with
    | true => rfl
    | false => exact ihb env S1 h.2
  | ite c a b ihc iha ihb =>
    intro env S h
    simp only [okE, Bool.and_eq_true] at h
    simp only [ev]
    refine bindM (tst_up (ihc env S h.1.1)) fun x => ?_
    obtain ⟨k, S1⟩ := x
    cases k with
    | true => exact iha env S1 h.1.2
    | false => exact ihb env S1 h.2
  | ix a b iha ihb =>
    intro env S h
    simp only [okE, Bool.and_eq_true] at h
    simp only [ev]
    exact bindM (iha env S h.1) fun x => bindM (ihb env x.2 h.2) fun y => ixD_up x.1 y.1
  | sl bl bh a l hh iha ihl ihh =>
    intro env S h
    simp only [okE, Bool.and_eq_true] at h
    simp only [ev]
    exact bindM (iha env S h.1.1) fun x => bindM (evP_up bl (ihl env x.2 h.1.2)) fun y => bindM (evP_up bh (ihh env y.2 h.2)) fun z => slD_up x.1 y.1 z.1
  | rev a ih =>
    intro env S h
    simp only [ev]
    exact bindM (ih env S h) fun x => revD_up x.1
  | tup es ih =>
    intro env S h
    simp only [ev]
    refine bindM (ih env S h) fun x => bindM (argsOf_up x.1) fun ds => ?_
    rw [List.length_map]
    split
    · simp [ur, up, ups_map]
    · rfl
  | lst es ih =>
    intro env S h
    simp only [ev]
    refine bindM (ih env S h) fun x => bindM (argsOf_up x.1) fun ds => ?_
    rw [List.length_map]
    split
    · rw [Option.map_some, ← alloc_up]; rfl
    · rfl
  | cons e es ihe ihs =>
    intro env S h
    simp only [okE, Bool.and_eq_true] at h
    simp only [ev]
    exact bindM (ihe env S h.1) fun x => bindM (ihs env x.2 h.2) fun y => mapM' (argsOf_up y.1) fun ds => by simp [ur, up, ups, ups_map]
  | dct es ih =>
    intro env S h
    simp only [ev]
    refine bindM (by have := ih env (S ++ [.dct []]) h; rw [← uh_app] at this; exact this) fun x => bindM (argsOf_up x.1) fun ds => bindM (pairUp_up ds) fun ks => ?_
    have e1 : ((ks.map fun kv => (kv.1, up (List.length P) kv.2)).map (·.1)) = ks.map (·.1) := by rw [List.map_map]; congr 1
    show (if ((ks.map fun kv => (kv.1, up (List.length P) kv.2)).map (·.1)).Nodup ∧ (ks.map fun kv => (kv.1, up (List.length P) kv.2)).length ≤ 15 ∧ isE ((uh P x.2)[(uh P S).length]?) = true then _ else _) = _
    rw [e1, List.length_map, uh_len, uh_get, isE_up]
    split
    · simp only [Option.map_some, ur, up, ← uh_set]
      rfl
    · rfl
  | dget a i iha ihb =>
    intro env S h
    simp only [okE, Bool.and_eq_true] at h
    simp only [ev]
    exact bindM (iha env S h.1) fun x => bindM (ihb env x.2 h.2) fun y => dgetD_up x.1 y.1
  | cix t a ih =>
    intro env S h
    simp only [okE, Bool.and_eq_true] at h
    simp only [ev]
    refine bindM (ih env S h.2) fun x => ?_
    obtain ⟨d, S1⟩ := x
    cases d with
    | str z =>
      simp only [ur, up]
      exact mapM' (m1 := up (List.length P)) (lookC_up h.1 z).symm fun d => rfl
    | _ => simp [ur, up]
  | cget t a ih =>
    intro env S h
    simp only [okE, Bool.and_eq_true] at h
    simp only [ev]
    refine bindM (ih env S h.2) fun x => ?_
    obtain ⟨d, S1⟩ := x
    cases d with
    | str z =>
      simp only [ur, up, Option.map_some]
      have := lookC_up (P := P) h.1 z
      cases e : lookC t z with
      | none => simp [up]
      | some q =>
        rw [e] at this
        simp only [Option.map_some, Option.getD_some] at this ⊢
        rw [Option.some.inj this]
    | _ => simp [ur, up]
  | cnts a b iha ihb =>
    intro env S h
    simp only [okE, Bool.and_eq_true] at h
    simp only [ev]
    refine bindM (iha env S h.1) fun x => ?_
    show (if isLst (uh P x.2) (up (List.length P) x.1) = true then _ else _) = _
    rw [isLst_up]
    split
    · exact bindM (ihb env x.2 h.2) fun y => cntD_up x.1 y.1
    · rfl
  | rpr a ih =>
    intro env S h
    simp only [ev]
    exact bindM (ih env S h) fun x => rprD_up x.1
  | call f es ih =>
    intro env S h
    simp only [ev]
    exact bindM (ih env S h) fun x => bindM (argsOf_up x.1) fun ds => hΓ f ds x.2
  | callK f es ks perm ih ihk =>
    intro env S h
    simp only [okE, Bool.and_eq_true] at h
    simp only [ev]
    refine bindM (ih env S h.1) fun x => bindM (argsOf_up x.1) fun ds => bindM (ihk env x.2 h.2) fun y => bindM (argsOf_up y.1) fun zs => ?_
    rw [← List.map_append, perm_up]
    exact hΓ f _ y.2
  | blt b es ih =>
    intro env S h
    simp only [ev]
    exact bindM (ih env S h) fun x => bindM (argsOf_up x.1) fun ds => bltD_up b ds
  | meth m o es iho ihs =>
    intro env S h
    simp only [okE, Bool.and_eq_true] at h
    simp only [ev]
    refine bindM (iho env S h.1) fun x => ?_
    show (if isLst (uh P x.2) (up (List.length P) x.1) = true then _ else _) = _
    rw [isLst_up]
    split
    · exact bindM (ihs env x.2 h.2) fun y => bindM (argsOf_up y.1) fun ds => methD_up m x.1 ds
    · rfl
  | lc k es g ifs elt own ihs ihi ihe =>
    intro env S h
    simp only [okE, Bool.and_eq_true] at h
    simp only [ev]
    split
    · refine bindM (ihs env S h.1.1) fun x => bindM (argsOf_up x.1) fun ds => bindM (items_up k ds) fun its => ?_
      show (loopH _ _ (its.map (up (List.length P))) (uh P x.2 ++ [.lst []])).map (fun S2 => (D.ref (uh P x.2).length, S2)) = _
      rw [show ([O.lst []] : Hd) = [upO (List.length P) (.lst [])] from rfl, uh_app]
      refine mapM' (loopH_up (fun d S1 => ?_) (fun S1 => ?_) its (x.2 ++ [.lst []])) fun S2 => by simp only [ur, up, uh_len]
      · rw [wipeD_up]
        refine bindM (asgG_up g d _) fun env1 => bindM (tst_up (ihi env1 S1 h.1.2)) fun t => ?_
        obtain ⟨b, S2⟩ := t
        cases b with
        | false => rfl
        | true =>
          simp only [if_true]
          refine bindM (ihe env1 S2 h.2) fun y => ?_
          show pushD (uh P x.2).length (up (List.length P) y.1) (uh P y.2) = _
          rw [uh_len]
          exact pushD_up _ y.1
      · rw [items_up]
        constructor
        · intro z
          exact ur_inj (P := P) (by rw [z]; rfl)
        · intro z
          rw [z]
          rfl
    · rfl
  | getd a i e iha ihi ihe =>
    intro env S h
    simp only [okE, Bool.and_eq_true] at h
    simp only [ev]
    refine bindM (iha env S h.1.1) fun x => ?_
    show (if isDct (uh P x.2) (up (List.length P) x.1) = true then _ else _) = _
    rw [isDct_up]
    split
    · exact bindM (ihi env x.2 h.1.2) fun y => bindM (ihe env y.2 h.2) fun z => getdD_up x.1 y.1 z.1
    · rfl
  | din a b iha ihb =>
    intro env S h
    simp only [okE, Bool.and_eq_true] at h
    simp only [ev]
    exact bindM (iha env S h.1) fun x => bindM (ihb env x.2 h.2) fun y => dinD_up x.1 y.1
  | joinS z a ih =>
    intro env S h
    simp only [ev]
    exact bindM (ih env S h) fun x => joinD_up z x.1
  | cin neg t a ih =>
    intro env S h
    simp only [ev]
    refine bindM (ih env S h) fun x => ?_
    obtain ⟨d, S1⟩ := x
    cases d <;> simp [ur, up]
  | sgn a b iha ihb =>
    intro env S h
    simp only [okE, Bool.and_eq_true] at h
    simp only [ev]
    refine bindM (iha env S h.1) fun x => bindM (ihb env x.2 h.2) fun y => ?_
    obtain ⟨d, S1⟩ := x
    obtain ⟨d2, S2⟩ := y
    cases d with
    | str u =>
      cases d2 with
      | str z =>
        simp only [ur, up]
        split <;> simp [ur, up]
      | _ => simp [ur, up]
    | _ => cases d2 <;> simp [ur, up]
  | stw a z ih =>
    intro env S h
    simp only [ev]
    refine bindM (ih env S h) fun x => ?_
    obtain ⟨d, S1⟩ := x
    cases d <;> simp [ur, up]
  | split a z ih =>
    intro env S h
    simp only [ev]
    refine bindM (ih env S h) fun x => ?_
    obtain ⟨d, S1⟩ := x
    cases d with
    | str u =>
      simp only [ur, up]
      split
      · rw [Option.map_some, ← alloc_up, List.map_map]
        rfl
      · rfl
    | _ => simp [ur, up]
  | mkx c ns own es ih =>
    intro env S h
    simp only [ev]
    refine bindM (ih env S h) fun x => bindM (argsOf_up x.1) fun ds => ?_
    exact mapM' (mkxD_up c ns own ds) fun d => rfl
  | isx a t ih =>
    intro env S h
    simp only [ev]
    exact bindM (ih env S h) fun x => mapM' (isxD_up t x.1) fun d => rfl
  | attr a c n ih =>
    intro env S h
    simp only [ev]
    exact bindM (ih env S h) fun x => mapM' (attrD_up c n x.1) fun d => rfl
  | mkxK c ns perm ks ih =>
    intro env S h
    simp only [ev]
    refine bindM (ih env S h) fun x => bindM (argsOf_up x.1) fun ds => ?_
    rw [perm_up]
    exact mapM' (mkxD_up c ns true (permV perm ds)) fun d => rfl
theorem ex_up (hΓ : ∀ f ds S, Γ f (ds.map (up (List.length P))) (uh P S) = (Γ f ds S).map (ur P)) : ∀ (c : Sx) (env : Sl) (S : Hd), okS c = true → ex Γ c (ue (List.length P) env) (uh P S) = (ex Γ c env S).map (u3 P) := by
  intro c
  induction c with
  | skip =>
    intro env S _
    rfl
  | seq s t ihs iht =>
    intro env S h
    simp only [okS, Bool.and_eq_true] at h
    simp only [ex]
    refine bindM (ihs env S h.1) fun r => ?_
    obtain ⟨o, env1, S1⟩ := r
    cases o with
    | nx => exact iht env1 S1 h.2
    | _ => rfl
  | asg g e =>
    intro env S h
    simp only [ex]
    exact bindM (ev_up hΓ e env S h) fun x => mapM' (asgG_up g x.1 env) fun env1 => rfl
  | asgL g e =>
    intro env S h
    simp only [ex]
    refine bindM (ev_up hΓ e env S h) fun x => ?_
    refine bindM (m1 := List.map (up (List.length P))) ?_ fun xs => ?_
    · show (if isTup (up (List.length P) x.1) = true then none else seqOf (uh P x.2) (up (List.length P) x.1)) = _
      rw [isTup_up, seqOf_up]
      split <;> rfl
    · have := asgG_up (P := P) g (.tup xs) env
      simp only [up, ups_map] at this
      exact mapM' this fun env1 => rfl
  | setix o i e =>
    intro env S h
    simp only [okS, Bool.and_eq_true] at h
    simp only [ex]
    exact bindM (ev_up hΓ e env S h.2) fun x => bindM (ev_up hΓ o env x.2 h.1.1) fun y => bindM (ev_up hΓ i env y.2 h.1.2) fun z => mapM' (setD_up y.1 z.1 x.1) fun S1 => rfl
  | drop e =>
    intro env S h
    simp only [ex]
    exact mapM' (ev_up hΓ e env S h) fun x => rfl
  | ret e =>
    intro env S h
    simp only [ex]
    exact mapM' (ev_up hΓ e env S h) fun x => rfl
  | retN =>
    intro env S _
    simp [ex, u3, uo, up]
  | ite c s t ihs iht =>
    intro env S h
    simp only [okS, Bool.and_eq_true] at h
    simp only [ex]
    refine bindM (tst_up (ev_up hΓ c env S h.1.1)) fun x => ?_
    obtain ⟨k, S1⟩ := x
    cases k with
    | true => exact ihs env S1 h.1.2
    | false => exact iht env S1 h.2
  | for_ k es g b ihb =>
    intro env S h
    simp only [okS, Bool.and_eq_true] at h
    simp only [ex]
    refine bindM (ev_up hΓ es env S h.1) fun x => bindM (argsOf_up x.1) fun ds => bindM (items_up k ds) fun its => ?_
    refine loopS_up (fun d env1 S1 => bindM (asgG_up g d env1) fun env2 => ihb env2 S1 h.2) (fun S1 => ?_) its env x.2
    rw [items_up]
    constructor
    · intro z
      exact ur_inj (P := P) (by rw [z]; rfl)
    · intro z
      rw [z]
      rfl
  | brk =>
    intro env S _
    rfl
  | cont =>
    intro env S _
    rfl
  | stuck =>
    intro env S _
    rfl
  | aug i o e =>
    intro env S h
    simp only [ex, ue, List.getElem?_map]
    cases env[i]? with
    | none => rfl
    | some q =>
      cases q with
      | none => rfl
      | some d =>
        cases d with
        | int a =>
          simp only [Option.map_some, up]
          refine bindM (ev_up hΓ e env S h) fun x => ?_
          obtain ⟨d, S1⟩ := x
          cases o <;> cases d <;> simp [ur, up, u3, uo, ue, List.map_set]
        | _ => simp [up]
  | while_ c b ihb =>
    intro env S h
    simp only [okS, Bool.and_eq_true] at h
    simp only [ex]
    exact loopW_up (fun e S1 => tst_up (ev_up hΓ c e S1 h.1)) (fun e S1 => ihb e S1 h.2) most env S
end
theorem outD_up {P : Hd} {o o' : Option (Out × Sl × Hd)} (h : o' = o.map (u3 P)) : outD o' = (outD o).map (ur P) := by
  unfold outD
  refine bindM h fun r => ?_
  obtain ⟨o, env1, S1⟩ := r
  cases o <;> simp [u3, uo, ur, up]
/-- a run from behind P is the run, put behind P -/
theorem run_up {T : Nat → Option Fd} (hT : ∀ f F, T f = some F → okS F.body = true) (P : Hd) : ∀ (n f : Nat) (ds : List D) (S : Hd), run T n f (ds.map (up P.length)) (uh P S) = (run T n f ds S).map (ur P)
  | 0, f, ds, S => by rw [run_zero, run_zero]; rfl
  | n + 1, f, ds, S => by
    rw [run_step, run_step]
    cases e : T f with
    | none => rfl
    | some F =>
      simp only [Option.bind_some, List.length_map]
      split
      · refine outD_up ?_
        have := ex_up (P := P) (run_up hT P n) F.body (ds.map some ++ List.replicate (F.m - ds.length) none) S (hT f F e)
        rw [← this]
        congr 1
        simp [ue, List.map_map]
      · rfl
end Ix

namespace Ix
open PySem L2
/-! ### runs from heaps that differ by what lies ahead alone end alike -/
mutual
def rn (ρ : Nat → Nat) : D → D
  | .ref k => .ref (ρ k)
  | .tup xs => .tup (rns ρ xs)
  | .xcp c ns xs => .xcp c ns (rns ρ xs)
  | .non => .non
  | .bl b => .bl b
  | .int i => .int i
  | .str x => .str x
  | .ty n => .ty n
  | .ro xs => .ro xs
def rns (ρ : Nat → Nat) : List D → List D
  | [] => []
  | d :: ds => rn ρ d :: rns ρ ds
end
theorem rns_map {ρ : Nat → Nat} : ∀ xs : List D, rns ρ xs = xs.map (rn ρ)
  | [] => by simp [rns]
  | d :: ds => by rw [rns, List.map_cons, rns_map ds]
def rnO (ρ : Nat → Nat) : O → O
  | .lst xs => .lst (xs.map (rn ρ))
  | .dct ks => .dct (ks.map fun kv => (kv.1, rn ρ kv.2))
/-- a renaming of cells, and the heaps that it leads to -/
structure Rg where
  ρ : Nat → Nat
  uh : Hd → Hd
  ok : Hd → Prop
  get : ∀ S k, ok S → (uh S)[ρ k]? = (S[k]?).map (rnO ρ)
  len : ∀ S, ok S → (uh S).length = ρ S.length
  app : ∀ S o, ok S → uh S ++ [rnO ρ o] = uh (S ++ [o])
  set : ∀ S k o, ok S → (uh S).set (ρ k) (rnO ρ o) = uh (S.set k o)
  okA : ∀ S o, ok S → ok (S ++ [o])
  okS : ∀ S k o, ok S → ok (S.set k o)
  inj : ∀ i j, ρ i = ρ j → i = j
def urR (R : Rg) (r : D × Hd) : D × Hd := (rn R.ρ r.1, R.uh r.2)
def ueR (ρ : Nat → Nat) (env : Sl) : Sl := env.map (Option.map (rn ρ))
mutual
theorem rn_ok {ρ : Nat → Nat} : ∀ d : D, okD d = true → rn ρ d = d
  | .ref _, h => by simp [okD] at h
  | .tup xs, h => by rw [rn, rns_ok xs (by simpa [okD] using h)]
  | .xcp c ns xs, h => by rw [rn, rns_ok xs (by simpa [okD] using h)]
  | .non, _ => by simp [rn]
  | .bl b, _ => by simp [rn]
  | .int i, _ => by simp [rn]
  | .str x, _ => by simp [rn]
  | .ty n, _ => by simp [rn]
  | .ro xs, _ => by simp [rn]
theorem rns_ok {ρ : Nat → Nat} : ∀ ds : List D, okDs ds = true → rns ρ ds = ds
  | [], _ => by simp [rns]
  | d :: ds, h => by
    rw [okDs, Bool.and_eq_true] at h
    rw [rns, rn_ok d h.1, rns_ok ds h.2]
end
mutual
theorem rn_inj {ρ : Nat → Nat} (hi : ∀ i j, ρ i = ρ j → i = j) : ∀ d e : D, rn ρ d = rn ρ e → d = e
  | .ref k, e, h => by cases e <;> simp [rn] at h <;> simp [hi _ _ h]
  | .tup xs, e, h => by
    cases e with
    | tup ys =>
      simp only [rn, D.tup.injEq] at h
      rw [rns_inj hi xs ys h]
    | _ => simp [rn] at h
  | .xcp c ns xs, e, h => by
    cases e with
    | xcp c' ns' ys =>
      simp only [rn, D.xcp.injEq] at h
      rw [rns_inj hi xs ys h.2.2, h.1, h.2.1]
    | _ => simp [rn] at h
  | .non, e, h => by cases e <;> simp [rn] at h <;> rfl
  | .bl b, e, h => by cases e <;> simp [rn] at h <;> simp [h]
  | .int i, e, h => by cases e <;> simp [rn] at h <;> simp [h]
  | .str x, e, h => by cases e <;> simp [rn] at h <;> simp [h]
  | .ty n, e, h => by cases e <;> simp [rn] at h <;> simp [h]
  | .ro xs, e, h => by cases e <;> simp [rn] at h <;> simp [h]
theorem rns_inj {ρ : Nat → Nat} (hi : ∀ i j, ρ i = ρ j → i = j) : ∀ xs ys : List D, rns ρ xs = rns ρ ys → xs = ys
  | [], ys, h => by cases ys <;> simp [rns] at h; rfl
  | x :: xs, ys, h => by
    cases ys with
    | nil => simp [rns] at h
    | cons y ys =>
      simp only [rns, List.cons.injEq] at h
      rw [rn_inj hi x y h.1, rns_inj hi xs ys h.2]
end
theorem mapUp_injR {ρ : Nat → Nat} (hi : ∀ i j, ρ i = ρ j → i = j) {xs ys : List D} (h : xs.map (rn ρ) = ys.map (rn ρ)) : xs = ys := rns_inj hi xs ys (by rw [rns_map, rns_map]; exact h)
theorem ur_injR {ρ : Nat → Nat} (hi : ∀ i j, ρ i = ρ j → i = j) {a b : Option (List D)} (h : a.map (List.map (rn ρ)) = b.map (List.map (rn ρ))) : a = b := by
  cases a <;> cases b <;> simp at h
  · rfl
  · exact congrArg some (mapUp_injR hi h)
section
variable {R : Rg} {S : Hd}
theorem alloc_rn (hS : R.ok S) (xs : List D) : alloc (R.uh S) (xs.map (rn R.ρ)) = urR R (alloc S xs) := by
  unfold alloc urR
  rw [R.len _ hS]
  simp only [rn]
  rw [← R.app _ _ hS]
  rfl
theorem seqOf_rn (hS : R.ok S) (d : D) : seqOf (R.uh S) (rn R.ρ d) = (seqOf S d).map (List.map (rn R.ρ)) := by
  cases d with
  | tup xs => simp [rn, seqOf, rns_map]
  | ref k =>
    simp only [rn, seqOf, R.get _ _ hS]
    cases S[k]? with
    | none => rfl
    | some o => cases o <;> rfl
  | ro ns =>
    simp only [rn, seqOf, Option.map_some, List.map_map]
    congr 2
  | _ => simp [rn, seqOf]
theorem isTup_rn (d : D) : isTup (rn R.ρ d) = isTup d := by cases d <;> simp [rn, isTup]
theorem tru_rn (hS : R.ok S) (d : D) : tru (R.uh S) (rn R.ρ d) = tru S d := by
  cases d with
  | tup xs => simp [rn, tru, seqOf, rns_map]
  | ref k =>
    have := seqOf_rn hS (.ref k)
    simp only [rn] at this
    simp only [rn, tru, this, Option.map_map]
    congr 1
    funext xs
    simp
  | ro ns => simp [rn, tru, seqOf]
  | _ => simp [rn, tru, seqOf]
theorem flat_rn (d : D) : flat (rn R.ρ d) = flat d := by cases d <;> simp [rn, flat]
theorem eqF_rn (x y : D) : eqF (rn R.ρ x) (rn R.ρ y) = eqF x y := by cases x <;> cases y <;> simp [rn, eqF]
theorem isNon_rn (d : D) : isNon (rn R.ρ d) = isNon d := by cases d <;> simp [rn, isNon]
theorem scalD_rn (x y : D) : scalD (rn R.ρ x) (rn R.ρ y) = scalD x y := by cases x <;> cases y <;> simp [rn, scalD]
theorem binD_rn (hS : R.ok S) (o : Bo) (x y : D) : binD o (rn R.ρ x) (rn R.ρ y) (R.uh S) = (binD o x y S).map (urR R) := by
  cases o with
  | add =>
    cases x with
    | ref a =>
      cases y with
      | ref b =>
        simp only [rn, binD, R.get _ _ hS]
        cases S[a]? with
        | none => cases S[b]? <;> rfl
        | some o =>
          cases o with
          | dct _ => cases S[b]? <;> rfl
          | lst xs =>
            cases S[b]? with
            | none => rfl
            | some q =>
              cases q with
              | dct _ => rfl
              | lst ys =>
                simp only [Option.map_some, rnO, List.length_map]
                split
                · rw [Option.map_some, ← alloc_rn hS, List.map_append]
                · rfl
      | _ => simp [rn, binD]
    | ro ns =>
      cases y with
      | ref b =>
        simp only [rn, binD, R.get _ _ hS]
        cases S[b]? with
        | none => rfl
        | some q =>
          cases q with
          | dct _ => rfl
          | lst ys =>
            simp only [Option.map_some, rnO, List.length_map]
            split
            · rw [Option.map_some, ← alloc_rn hS, List.map_append, List.map_map]
              congr 3
            · rfl
      | _ => simp [rn, binD]
    | tup xs =>
      cases y with
      | tup ys =>
        simp only [rn, binD, rns_map, List.length_map]
        split
        · simp [urR, rn, rns_map]
        · rfl
      | _ => simp [rn, binD]
    | int i => cases y <;> simp [rn, binD, urR]
    | str i =>
      cases y with
      | str j =>
        simp only [rn, binD]
        split <;> simp [urR, rn]
      | _ => simp [rn, binD]
    | _ => cases y <;> simp [rn, binD]
  | sub => cases x <;> cases y <;> simp [rn, binD, urR]
  | mul =>
    cases x with
    | ref a =>
      cases y with
      | int k =>
        simp only [rn, binD, R.get _ _ hS]
        cases S[a]? with
        | none => rfl
        | some q =>
          cases q with
          | dct _ => rfl
          | lst ys =>
            simp only [Option.map_some, rnO, List.length_map]
            split
            · rw [Option.map_some, ← alloc_rn hS]
              simp
            · rfl
      | _ => simp [rn, binD]
    | int i =>
      cases y with
      | int j =>
        simp only [rn, binD]
        split <;> simp [urR, rn]
      | _ => simp [rn, binD]
    | _ => cases y <;> simp [rn, binD]
  | fdiv =>
    cases x with
    | int i =>
      cases y with
      | int j =>
        simp only [rn, binD]
        split <;> simp [urR, rn]
      | _ => simp [rn, binD]
    | _ => cases y <;> simp [rn, binD]
  | mod =>
    cases x with
    | int i =>
      cases y with
      | int j =>
        simp only [rn, binD]
        split <;> simp [urR, rn]
      | _ => simp [rn, binD]
    | _ => cases y <;> simp [rn, binD]
  | pow =>
    cases x with
    | int i =>
      cases y with
      | int j =>
        simp only [rn, binD]
        split <;> simp [urR, rn]
      | _ => simp [rn, binD]
    | _ => cases y <;> simp [rn, binD]
theorem allFlat_rn (xs : List D) : (xs.map (rn R.ρ)).all flat = xs.all flat := by
  rw [List.all_map]
  congr 1
  funext z
  exact flat_rn z
theorem anyEq_rn (x : D) (xs : List D) : ((xs.map (rn R.ρ)).any fun z => eqF z (rn R.ρ x)) = xs.any fun z => eqF z x := by
  rw [List.any_map]
  congr 1
  funext z
  exact eqF_rn z x
theorem cmpD_rn (hS : R.ok S) (o : Co) (x y : D) : cmpD o (rn R.ρ x) (rn R.ρ y) (R.uh S) = (cmpD o x y S).map (urR R) := by
  have hin : ∀ b : Bool, (if flat (rn R.ρ x) = true then (seqOf (R.uh S) (rn R.ρ y)).bind fun xs => if xs.all flat = true then some (D.bl (b ^^ (xs.any fun z => eqF z (rn R.ρ x))), R.uh S) else none else none) = (if flat x = true then (seqOf S y).bind fun xs => if xs.all flat = true then some (D.bl (b ^^ (xs.any fun z => eqF z x)), S) else none else none).map (urR R) := fun b => by
    rw [flat_rn]
    split
    · refine bindM (seqOf_rn hS y) fun xs => ?_
      rw [allFlat_rn, anyEq_rn]
      split <;> simp [urR, rn]
    · rfl
  cases o with
  | eq =>
    simp only [cmpD, scalD_rn, Option.map_map]
    congr 1
  | ne =>
    simp only [cmpD, scalD_rn, Option.map_map]
    congr 1
  | in_ => simpa [cmpD] using hin false
  | notin => simpa [cmpD] using hin true
  | is_ => cases x <;> cases y <;> simp [rn, cmpD, urR, isNon]
  | isnot => cases x <;> cases y <;> simp [rn, cmpD, urR, isNon]
  | _ => cases x <;> cases y <;> simp [rn, cmpD, urR]
theorem keyD_rn (d : D) : keyD (rn R.ρ d) = keyD d := by cases d <;> simp [rn, keyD]
theorem pairUp_rn : ∀ ds : List D, pairUp (ds.map (rn R.ρ)) = (pairUp ds).map (List.map fun kv => (kv.1, rn R.ρ kv.2))
  | [] => rfl
  | [_] => rfl
  | k :: v :: ds => by
    simp only [List.map_cons, pairUp, keyD_rn]
    cases keyD k with
    | none => rfl
    | some x =>
      simp only [Option.bind_some]
      exact mapM' (pairUp_rn ds) fun z => rfl
theorem strsD_rn : ∀ ds : List D, strsD (ds.map (rn R.ρ)) = strsD ds
  | [] => rfl
  | d :: ds => by cases d <;> simp [rn, strsD, strsD_rn ds]
theorem intsD_rn : ∀ ds : List D, intsD (ds.map (rn R.ρ)) = intsD ds
  | [] => rfl
  | d :: ds => by cases d <;> simp [rn, intsD, intsD_rn ds]
theorem bools_rn : ∀ ds : List D, bools (ds.map (rn R.ρ)) = bools ds
  | [] => rfl
  | d :: ds => by cases d <;> simp [rn, bools, bools_rn ds]
theorem tysOf_rn : ∀ ds : List D, tysOf (ds.map (rn R.ρ)) = tysOf ds
  | [] => rfl
  | d :: ds => by cases d <;> simp [rn, tysOf, tysOf_rn ds]
theorem pairsD_rn : ∀ ds : List D, pairsD (ds.map (rn R.ρ)) = pairsD ds
  | [] => rfl
  | d :: ds => by
    have ih := pairsD_rn ds
    cases d with
    | tup xs =>
      match xs with
      | [a, b] => cases a <;> cases b <;> simp [rn, rns, pairsD, ih]
      | [] => simp [rn, rns, pairsD]
      | [a] => cases a <;> simp [rn, rns, pairsD]
      | a :: b :: c :: r => cases a <;> cases b <;> simp [rn, rns, pairsD]
    | _ => simp [rn, pairsD]
theorem cntD_rn (hS : R.ok S) (x y : D) : cntD (rn R.ρ x) (rn R.ρ y) (R.uh S) = (cntD x y S).map (urR R) := by
  cases x with
  | ref k =>
    cases y with
    | str z =>
      simp only [rn, cntD, R.get _ _ hS]
      cases S[k]? with
      | none => rfl
      | some q =>
        cases q with
        | dct _ => rfl
        | lst ys =>
          simp only [Option.map_some, rnO, strsD_rn, Option.map_map]
          congr 1
    | _ => simp [rn, cntD]
  | _ => cases y <;> simp [rn, cntD]
theorem isDct_rn (hS : R.ok S) (d : D) : isDct (R.uh S) (rn R.ρ d) = isDct S d := by
  cases d with
  | ref k =>
    simp only [rn, isDct, R.get _ _ hS]
    cases S[k]? with
    | none => rfl
    | some q => cases q <;> rfl
  | _ => simp [rn, isDct]
theorem isLst_rn (hS : R.ok S) (d : D) : isLst (R.uh S) (rn R.ρ d) = isLst S d := by
  cases d with
  | ref k =>
    simp only [rn, isLst, R.get _ _ hS]
    cases S[k]? with
    | none => rfl
    | some q => cases q <;> rfl
  | _ => simp [rn, isLst]
theorem joinD_rn (hS : R.ok S) (z : Str) (x : D) : joinD z (rn R.ρ x) (R.uh S) = (joinD z x S).map (urR R) := by
  unfold joinD
  refine bindM (m1 := id) ?_ fun ys => ?_
  · rw [seqOf_rn hS, Option.map_id_fun, id]
    cases seqOf S x <;> simp [strsD_rn]
  · simp only [id]
    split <;> simp [urR, rn]
theorem findK_rn (ks : List (Key × D)) (k : Key) : findK (ks.map fun kv => (kv.1, rn R.ρ kv.2)) k = (findK ks k).map (rn R.ρ) := by
  unfold findK
  induction ks with
  | nil => rfl
  | cons a ks ih =>
    rw [List.map_cons, List.find?_cons, List.find?_cons]
    by_cases h : a.1 = k
    · simp only [h, decide_true]
      rfl
    · simp only [h, decide_false]
      exact ih
theorem dgetD_rn (hS : R.ok S) (x i : D) : dgetD (rn R.ρ x) (rn R.ρ i) (R.uh S) = (dgetD x i S).map (urR R) := by
  cases x with
  | ref k =>
    simp only [rn, dgetD, R.get _ _ hS]
    cases S[k]? with
    | none => rfl
    | some q =>
      cases q with
      | lst _ => rfl
      | dct ks =>
        simp only [Option.map_some, rnO, keyD_rn]
        refine bindM (m1 := id) (by simp) fun y => ?_
        exact mapM' (findK_rn ks y) fun d => rfl
  | _ => simp [rn, dgetD]
theorem getdD_rn (hS : R.ok S) (x i d : D) : getdD (rn R.ρ x) (rn R.ρ i) (rn R.ρ d) (R.uh S) = (getdD x i d S).map (urR R) := by
  cases x with
  | ref k =>
    simp only [rn, getdD, R.get _ _ hS]
    cases S[k]? with
    | none => rfl
    | some q =>
      cases q with
      | lst _ => rfl
      | dct ks =>
        simp only [Option.map_some, rnO, keyD_rn]
        refine mapM' (m1 := id) (by simp) fun y => ?_
        simp only [id, findK_rn]
        cases findK ks y <;> rfl
  | _ => simp [rn, getdD]
theorem dinD_rn (hS : R.ok S) (x y : D) : dinD (rn R.ρ x) (rn R.ρ y) (R.uh S) = (dinD x y S).map (urR R) := by
  cases y with
  | ref k =>
    simp only [rn, dinD, R.get _ _ hS]
    cases S[k]? with
    | none => rfl
    | some q =>
      cases q with
      | lst _ => rfl
      | dct ks =>
        simp only [Option.map_some, rnO, keyD_rn]
        refine mapM' (m1 := id) (by simp) fun y => ?_
        simp only [id, findK_rn]
        cases findK ks y <;> rfl
  | _ => simp [rn, dinD]
theorem txtD_rn (d : D) : txtD (rn R.ρ d) = txtD d := by cases d <;> simp [rn, txtD]
theorem mkxD_rn (c : Str) (ns : List Str) (own : Bool) (ds : List D) : mkxD c ns own (ds.map (rn R.ρ)) = (mkxD c ns own ds).map (rn R.ρ) := by
  unfold mkxD
  have h : (ds.map (rn R.ρ)).all txtD = ds.all txtD := by
    rw [List.all_map]
    congr 1
    funext z
    exact txtD_rn z
  rw [h, List.length_map]
  split
  · split
    · simp [rn, rns_map]
    · rfl
  · split
    · simp [rn, rns]
    · rfl
theorem isxD_rn (t : Str) (d : D) : isxD t (rn R.ρ d) = (isxD t d).map (rn R.ρ) := by cases d <;> simp [rn, isxD]
theorem lookup_rn : ∀ (ns : List Str) (xs : List D) (n : Str), (ns.zip (xs.map (rn R.ρ))).lookup n = ((ns.zip xs).lookup n).map (rn R.ρ)
  | [], _, _ => rfl
  | _ :: _, [], _ => rfl
  | a :: ns, x :: xs, n => by
    simp only [List.map_cons, List.zip_cons_cons, List.lookup]
    split
    · rfl
    · exact lookup_rn ns xs n
theorem attrD_rn (c n : Str) (d : D) : attrD c n (rn R.ρ d) = (attrD c n d).map (rn R.ρ) := by
  cases d with
  | xcp k ns xs =>
    simp only [rn, attrD, rns_map, lookup_rn]
    split <;> rfl
  | _ => simp [rn, attrD]
theorem pyL_rn {f g : D → Option PyData} (h : ∀ d, g (rn R.ρ d) = f d) : ∀ ds : List D, pyL g (ds.map (rn R.ρ)) = pyL f ds
  | [] => rfl
  | d :: ds => by simp only [List.map_cons, pyL, h, pyL_rn h ds]
theorem py_rn (hS : R.ok S) : ∀ (n : Nat) (d : D), py n (R.uh S) (rn R.ρ d) = py n S d
  | 0, d => by cases d <;> rfl
  | n + 1, d => by
    cases d with
    | tup xs => simp only [rn, py, rns_map, pyL_rn (fun d => py_rn hS n d)]
    | ref k =>
      simp only [rn, py, R.get _ _ hS]
      cases S[k]? with
      | none => rfl
      | some q =>
        cases q with
        | dct _ => rfl
        | lst ys => simp only [Option.map_some, rnO, pyL_rn (fun d => py_rn hS n d)]
    | _ => simp [rn, py]
theorem rprD_rn (hS : R.ok S) (x : D) : rprD (rn R.ρ x) (R.uh S) = (rprD x S).map (urR R) := by
  have h : ((py 9 (R.uh S) (rn R.ρ x)).bind fun d => if PySem.PyData.showable d = true ∧ PySem.PyData.hasDict d = false ∧ PySem.PyData.depth d ≤ 64 ∧ (PySem.PyData.shown d).length ≤ PySem.sizeLine then some (D.str (PySem.PyData.shown d), R.uh S) else none) = ((py 9 S x).bind fun d => if PySem.PyData.showable d = true ∧ PySem.PyData.hasDict d = false ∧ PySem.PyData.depth d ≤ 64 ∧ (PySem.PyData.shown d).length ≤ PySem.sizeLine then some (D.str (PySem.PyData.shown d), S) else none).map (urR R) := by
    rw [py_rn hS]
    refine bindM (m1 := id) (by simp) fun d => ?_
    simp only [id]
    split <;> simp [urR, rn]
  cases x <;> first | exact h | simp [rn, rprD]
theorem cmpdD_rn (hS : R.ok S) (o : Cd) (x y : D) : cmpdD o (rn R.ρ x) (rn R.ρ y) (R.uh S) = (cmpdD o x y S).map (urR R) := by
  cases o <;> simp only [cmpdD, py_rn hS] <;> refine bindM (m1 := id) (by simp) (fun d => bindM (m1 := id) (by simp) fun e => ?_) <;> simp only [id] <;> first
    | (split <;> simp [urR, rn])
    | (split
       · split <;> simp [urR, rn]
       · rfl)
theorem atI_rn (xs : List D) (k : Int) : atI (xs.map (rn R.ρ)) k = (atI xs k).map (rn R.ρ) := by
  unfold atI
  rw [List.length_map]
  cases ixN xs.length k with
  | none => rfl
  | some j => simp
theorem ixD_rn (hS : R.ok S) (x i : D) : ixD (rn R.ρ x) (rn R.ρ i) (R.uh S) = (ixD x i S).map (urR R) := by
  cases i with
  | int k =>
    simp only [rn, ixD]
    exact bindM (seqOf_rn hS x) fun xs => mapM' (atI_rn xs k) fun d => rfl
  | _ => simp [rn, ixD]
theorem cutD_rn (xs : List D) (lo hi : Option Int) : cutD (xs.map (rn R.ρ)) lo hi = (cutD xs lo hi).map (rn R.ρ) := by
  unfold cutD
  simp [List.map_drop, List.map_take]
theorem slD_rn (hS : R.ok S) (x : D) (l h : Option Int) : slD (rn R.ρ x) l h (R.uh S) = (slD x l h S).map (urR R) := by
  have g : ((seqOf (R.uh S) (rn R.ρ x)).map fun xs => alloc (R.uh S) (cutD xs l h)) = ((seqOf S x).map fun xs => alloc S (cutD xs l h)).map (urR R) :=
    mapM' (seqOf_rn hS x) fun xs => by rw [cutD_rn, alloc_rn hS]
  cases x with
  | str z =>
    simp only [rn, slD]
    split <;> simp [urR, rn]
  | tup xs => simp [rn, slD, urR, rns_map, cutD_rn]
  | _ => exact g
theorem revD_rn (hS : R.ok S) (x : D) : revD (rn R.ρ x) (R.uh S) = (revD x S).map (urR R) := by
  have g : ((seqOf (R.uh S) (rn R.ρ x)).map fun xs => alloc (R.uh S) xs.reverse) = ((seqOf S x).map fun xs => alloc S xs.reverse).map (urR R) :=
    mapM' (seqOf_rn hS x) fun xs => by rw [← List.map_reverse, alloc_rn hS]
  cases x with
  | tup xs => simp [rn, revD, urR, rns_map]
  | _ => exact g
theorem tyName_rn (hS : R.ok S) (d : D) : tyName (R.uh S) (rn R.ρ d) = tyName S d := by
  cases d with
  | ref k =>
    simp only [rn, tyName, R.get _ _ hS]
    cases S[k]? with
    | none => rfl
    | some q => cases q <;> rfl
  | _ => simp [rn, tyName]
theorem intsAt_rn (hS : R.ok S) (x : D) : intsAt (R.uh S) (rn R.ρ x) = intsAt S x := by
  unfold intsAt
  rw [isTup_rn, seqOf_rn hS]
  split
  · rfl
  · cases seqOf S x <;> simp [intsD_rn]
theorem pairsAt_rn (hS : R.ok S) (x : D) : pairsAt (R.uh S) (rn R.ρ x) = pairsAt S x := by
  unfold pairsAt
  rw [isTup_rn, seqOf_rn hS]
  split
  · rfl
  · cases seqOf S x <;> simp [pairsD_rn]
theorem map_intR (ns : List Int) : (ns.map D.int).map (rn R.ρ) = ns.map D.int := by
  rw [List.map_map]
  congr 1
theorem map_pairR (ps : List (Int × Int)) : (ps.map pairD).map (rn R.ρ) = ps.map pairD := by
  rw [List.map_map]
  congr 1
theorem map_strR {β : Type} (f : β → Str) (ns : List β) : (ns.map fun c => D.str (f c)).map (rn R.ρ) = ns.map fun c => D.str (f c) := by
  rw [List.map_map]
  congr 1
theorem alloc_intR (hS : R.ok S) (ns : List Int) : alloc (R.uh S) (ns.map D.int) = urR R (alloc S (ns.map D.int)) := by rw [← alloc_rn hS, map_intR]
theorem bltD_rn (hS : R.ok S) (b : Bl) (ds : List D) : bltD b (ds.map (rn R.ρ)) (R.uh S) = (bltD b ds S).map (urR R) := by
  cases b with
  | len =>
    match ds with
    | [x] =>
      simp only [List.map_cons, List.map_nil, bltD]
      exact mapM' (seqOf_rn hS x) fun xs => by simp [urR, rn]
    | [] => rfl
    | _ :: _ :: _ => rfl
  | int_ =>
    match ds with
    | [x] => cases x <;> simp [rn, bltD, urR]
    | [] => rfl
    | x :: _ :: _ => cases x <;> simp [rn, bltD]
  | abs_ =>
    match ds with
    | [x] => cases x <;> simp [rn, bltD, urR]
    | [] => rfl
    | x :: _ :: _ => cases x <;> simp [rn, bltD]
  | max_ =>
    match ds with
    | [x] =>
      have h : bltD .max_ [rn R.ρ x] (R.uh S) = (bltD .max_ [x] S).map (urR R) := by
        simp only [bltD, intsAt_rn hS, Option.map_map]
        congr 1
      exact h
    | [] => rfl
    | [x, y] => cases x <;> cases y <;> simp [rn, bltD, urR]
    | x :: y :: _ :: _ => cases x <;> cases y <;> simp [rn, bltD]
  | sum_ =>
    match ds with
    | [x] =>
      simp only [List.map_cons, List.map_nil, bltD, intsAt_rn hS, Option.map_map]
      congr 1
    | [] => rfl
    | _ :: _ :: _ => rfl
  | sorted_ =>
    match ds with
    | [x] =>
      simp only [List.map_cons, List.map_nil, bltD, intsAt_rn hS, Option.map_map]
      congr 1
      funext ns
      exact alloc_intR hS _
    | [] => rfl
    | _ :: _ :: _ => rfl
  | sortp_ =>
    match ds with
    | [x] =>
      simp only [List.map_cons, List.map_nil, bltD, pairsAt_rn hS, Option.map_map]
      congr 1
      funext ps
      show alloc (R.uh S) _ = urR R (alloc S _)
      rw [← alloc_rn hS, map_pairR]
    | [] => rfl
    | _ :: _ :: _ => rfl
  | ssort_ =>
    match ds with
    | [x] =>
      simp only [List.map_cons, List.map_nil, bltD, intsAt_rn hS]
      refine bindM (m1 := id) (by simp) fun ns => ?_
      simp only [id]
      split
      · rw [alloc_intR hS]; rfl
      · rfl
    | [] => rfl
    | _ :: _ :: _ => rfl
  | lrange_ =>
    match ds with
    | [x, y] =>
      cases x with
      | int a =>
        cases y with
        | int b =>
          simp only [List.map_cons, List.map_nil, rn, bltD]
          split
          · rw [Option.map_some, ← alloc_rn hS, List.map_map]
            congr 3
          · rfl
        | _ => simp [rn, bltD]
      | _ => cases y <;> simp [rn, bltD]
    | [] => rfl
    | [x] => cases x <;> simp [rn, bltD]
    | x :: y :: _ :: _ => cases x <;> cases y <;> simp [rn, bltD]
  | min_ =>
    match ds with
    | [x, y] => cases x <;> cases y <;> simp [rn, bltD, urR]
    | [] => rfl
    | [x] => cases x <;> simp [rn, bltD]
    | x :: y :: _ :: _ => cases x <;> cases y <;> simp [rn, bltD]
  | all_ =>
    match ds with
    | [x] =>
      simp only [List.map_cons, List.map_nil, bltD, isTup_rn, seqOf_rn hS]
      split
      · rfl
      · cases seqOf S x with
        | none => rfl
        | some xs =>
          simp only [Option.map_some, Option.bind_some, bools_rn, Option.map_map]
          congr 1
    | [] => rfl
    | _ :: _ :: _ => rfl
  | any_ =>
    match ds with
    | [x] =>
      simp only [List.map_cons, List.map_nil, bltD, isTup_rn, seqOf_rn hS]
      split
      · rfl
      · cases seqOf S x with
        | none => rfl
        | some xs =>
          simp only [Option.map_some, Option.bind_some, bools_rn, Option.map_map]
          congr 1
    | [] => rfl
    | _ :: _ :: _ => rfl
  | tuple_ =>
    match ds with
    | [x] =>
      simp only [List.map_cons, List.map_nil, bltD]
      exact mapM' (seqOf_rn hS x) fun xs => by simp [urR, rn, rns_map]
    | [] => rfl
    | _ :: _ :: _ => rfl
  | list_ =>
    match ds with
    | [x] =>
      simp only [List.map_cons, List.map_nil, bltD]
      exact mapM' (seqOf_rn hS x) fun xs => by rw [alloc_rn hS]
    | [] => rfl
    | _ :: _ :: _ => rfl
  | slen =>
    match ds with
    | [x] =>
      cases x with
      | str z =>
        simp only [List.map_cons, List.map_nil, rn, bltD]
        split <;> simp [urR, rn]
      | _ => simp [rn, bltD]
    | [] => rfl
    | x :: _ :: _ => cases x <;> simp [rn, bltD]
  | sint =>
    match ds with
    | [x] =>
      cases x with
      | str z =>
        simp only [List.map_cons, List.map_nil, rn, bltD]
        split
        · cases PySem.intText? z <;> simp [urR, rn]
        · rfl
      | _ => simp [rn, bltD]
    | [] => rfl
    | x :: _ :: _ => cases x <;> simp [rn, bltD]
  | str_ =>
    match ds with
    | [x] =>
      cases x with
      | int i =>
        simp only [List.map_cons, List.map_nil, rn, bltD]
        split <;> simp [urR, rn]
      | _ => simp [rn, bltD, urR]
    | [] => rfl
    | x :: _ :: _ => cases x <;> simp [rn, bltD]
  | isi =>
    match ds with
    | [x, y] =>
      cases y with
      | ty c =>
        simp only [List.map_cons, List.map_nil, rn, bltD, tyName_rn hS]
        split
        · rw [Option.map_map]
          congr 1
        · rfl
      | tup cs =>
        simp only [List.map_cons, List.map_nil, rn, rns_map, bltD, tyName_rn hS, tysOf_rn]
        refine bindM (m1 := id) (by simp) fun ts => ?_
        rw [Option.map_map]
        congr 1
      | _ => simp [rn, bltD]
    | [] => rfl
    | [x] => cases x <;> simp [rn, bltD]
    | x :: y :: _ :: _ => cases x <;> cases y <;> simp [rn, bltD]
theorem methD_rn (hS : R.ok S) (m : Mt) (x : D) (ds : List D) : methD m (rn R.ρ x) (ds.map (rn R.ρ)) (R.uh S) = (methD m x ds S).map (urR R) := by
  cases x with
  | ref k =>
    cases m with
    | clear =>
      match ds with
      | [] =>
        simp only [List.map_nil, rn, methD, R.get _ _ hS]
        cases S[k]? with
        | none => rfl
        | some q =>
          cases q with
          | dct _ => rfl
          | lst ys =>
            simp only [Option.map_some, rnO, urR, rn, ← R.set _ _ _ hS]
            rfl
      | _ :: _ => simp [rn, methD]
    | append =>
      match ds with
      | [y] =>
        simp only [List.map_cons, List.map_nil, rn, methD, R.get _ _ hS]
        cases S[k]? with
        | none => rfl
        | some q =>
          cases q with
          | dct _ => rfl
          | lst ys =>
            simp only [Option.map_some, rnO, List.length_map]
            split
            · simp only [Option.map_some, urR, rn, ← R.set _ _ _ hS, rnO, List.map_append, List.map_cons, List.map_nil]
            · rfl
      | [] => simp [rn, methD]
      | _ :: _ :: _ => simp [rn, methD]
  | _ => cases m <;> simp [rn, methD]
theorem setD_rn (hS : R.ok S) (o i x : D) : setD (rn R.ρ o) (rn R.ρ i) (rn R.ρ x) (R.uh S) = (setD o i x S).map (R.uh) := by
  cases o with
  | ref k =>
    cases i with
    | int j =>
      simp only [rn, setD, R.get _ _ hS]
      cases S[k]? with
      | none => rfl
      | some q =>
        cases q with
        | dct _ => rfl
        | lst ys =>
          simp only [Option.map_some, rnO, List.length_map, Option.map_map]
          congr 1
          funext m
          simp only [Function.comp, ← R.set _ _ _ hS, rnO, List.map_set]
    | _ => simp [rn, setD]
  | _ => cases i <;> simp [rn, setD]
theorem items_rn (hS : R.ok S) (k : Ik) (ds : List D) : items k (ds.map (rn R.ρ)) (R.uh S) = (items k ds S).map (List.map (rn R.ρ)) := by
  cases k with
  | chars =>
    match ds with
    | [x] =>
      cases x with
      | str z =>
        simp only [List.map_cons, List.map_nil, rn, items, Option.map_some, List.map_map]
        congr 2
      | _ => simp [rn, items]
    | [] => rfl
    | x :: _ :: _ => cases x <;> simp [rn, items]
  | seq =>
    match ds with
    | [x] => exact seqOf_rn hS x
    | [] => rfl
    | _ :: _ :: _ => rfl
  | range1 =>
    match ds with
    | [x] =>
      cases x with
      | int n =>
        simp only [List.map_cons, List.map_nil, rn, items]
        split
        · simp only [Option.map_some, List.map_map]
          congr 2
        · rfl
      | _ => simp [rn, items]
    | [] => rfl
    | x :: _ :: _ => cases x <;> simp [rn, items]
  | range2 =>
    match ds with
    | [x, y] =>
      cases x with
      | int a =>
        cases y with
        | int b =>
          simp only [List.map_cons, List.map_nil, rn, items]
          split
          · simp only [Option.map_some, List.map_map]
            congr 2
          · rfl
        | _ => simp [rn, items]
      | _ => cases y <;> simp [rn, items]
    | [] => rfl
    | [x] => cases x <;> simp [rn, items]
    | x :: y :: _ :: _ => cases x <;> cases y <;> simp [rn, items]
  | enum =>
    match ds with
    | [x] =>
      simp only [List.map_cons, List.map_nil, items]
      refine mapM' (seqOf_rn hS x) fun xs => ?_
      refine List.ext_getElem? fun i => ?_
      simp only [List.getElem?_mapIdx, List.getElem?_map, Option.map_map]
      congr 1
    | [] => rfl
    | _ :: _ :: _ => rfl
  | zip =>
    match ds with
    | [x, y] =>
      simp only [List.map_cons, List.map_nil, items, isTup_rn]
      split
      · refine bindM (seqOf_rn hS x) fun xs => mapM' (seqOf_rn hS y) fun ys => ?_
        rw [List.zipWith_map, List.map_zipWith]
        first | rfl | (congr 1; done) | (congr 1; funext a b; simp [rn, rns])
      · rfl
    | [] => rfl
    | [x] => rfl
    | _ :: _ :: _ :: _ => rfl
theorem asgG_rn : ∀ (g : G) (d : D) (env : Sl), asgG g (rn R.ρ d) (ueR R.ρ env) = (asgG g d env).map (ueR R.ρ)
  | .name i, d, env => by
    simp only [asgG, ueR, Option.map_some, List.map_set]
  | .tup g, d, env => by
    cases d with
    | tup xs =>
      have := asgG_rn g (.tup xs) env
      simp only [rn] at this
      simp only [rn, asgG, this]
    | _ => simp [rn, asgG]
  | .nil, d, env => by
    cases d with
    | tup xs => cases xs <;> simp [rn, rns, asgG]
    | _ => simp [rn, asgG]
  | .cons g h, d, env => by
    cases d with
    | tup xs =>
      cases xs with
      | nil => simp [rn, rns, asgG]
      | cons x xs =>
        simp only [rn, rns, asgG]
        refine bindM (asgG_rn g x env) fun env1 => ?_
        have := asgG_rn h (.tup xs) env1
        simp only [rn] at this
        exact this
    | _ => simp [rn, asgG]
theorem wipeD_rn (env : Sl) : ∀ vs : List Nat, wipeD (ueR R.ρ env) vs = ueR R.ρ (wipeD env vs)
  | [] => rfl
  | v :: vs => by
    show (wipeD (ueR R.ρ env) vs).set v none = ueR R.ρ ((wipeD env vs).set v none)
    rw [wipeD_rn env vs]
    simp [ueR, List.map_set]
theorem pushD_rn (hS : R.ok S) (k : Nat) (x : D) : pushD (R.ρ k) (rn R.ρ x) (R.uh S) = (pushD k x S).map (R.uh) := by
  simp only [pushD, R.get _ _ hS]
  cases S[k]? with
  | none => rfl
  | some q =>
    cases q with
    | dct _ => rfl
    | lst ys =>
      simp only [Option.map_some, rnO, List.length_map]
      split
      · simp only [Option.map_some, ← R.set _ _ _ hS, rnO, List.map_append, List.map_cons, List.map_nil]
      · rfl
end
section
variable {R : Rg} {S : Hd}
theorem alloc_g (hS : R.ok S) (xs : List D) : R.ok (alloc S xs).2 := R.okA _ _ hS
theorem binD_g (hS : R.ok S) (o : Bo) (x y : D) (r : D × Hd) (h : binD o x y S = some r) : R.ok r.2 := by
  have := R.okA S
  have := R.okS S
  unfold binD at h
  first
  | (split at h <;> ((try simp only [Option.map_eq_some_iff, Option.bind_eq_some_iff, alloc] at h); grind))
  | ((try simp only [Option.map_eq_some_iff, Option.bind_eq_some_iff, alloc] at h); grind)
theorem cmpD_g (hS : R.ok S) (o : Co) (x y : D) (r : D × Hd) (h : cmpD o x y S = some r) : R.ok r.2 := by
  have := R.okA S
  have := R.okS S
  unfold cmpD at h
  repeat' split at h
  all_goals ((try simp only [Option.map_eq_some_iff, Option.bind_eq_some_iff, alloc] at h); try grind)
theorem cntD_g (hS : R.ok S) (x y : D) (r : D × Hd) (h : cntD x y S = some r) : R.ok r.2 := by
  have := R.okA S
  have := R.okS S
  unfold cntD at h
  repeat' split at h
  all_goals ((try simp only [Option.map_eq_some_iff, Option.bind_eq_some_iff, alloc] at h); grind)
theorem joinD_g (hS : R.ok S) (z : Str) (x : D) (r : D × Hd) (h : joinD z x S = some r) : R.ok r.2 := by
  have := R.okA S
  have := R.okS S
  unfold joinD at h
  first
  | (split at h <;> ((try simp only [Option.map_eq_some_iff, Option.bind_eq_some_iff, alloc] at h); grind))
  | ((try simp only [Option.map_eq_some_iff, Option.bind_eq_some_iff, alloc] at h); grind)
theorem dgetD_g (hS : R.ok S) (x i : D) (r : D × Hd) (h : dgetD x i S = some r) : R.ok r.2 := by
  have := R.okA S
  have := R.okS S
  unfold dgetD at h
  repeat' split at h
  all_goals ((try simp only [Option.map_eq_some_iff, Option.bind_eq_some_iff, alloc] at h); grind)
theorem getdD_g (hS : R.ok S) (x i d : D) (r : D × Hd) (h : getdD x i d S = some r) : R.ok r.2 := by
  have := R.okA S
  have := R.okS S
  unfold getdD at h
  repeat' split at h
  all_goals ((try simp only [Option.map_eq_some_iff, Option.bind_eq_some_iff, alloc] at h); grind)
theorem dinD_g (hS : R.ok S) (x y : D) (r : D × Hd) (h : dinD x y S = some r) : R.ok r.2 := by
  have := R.okA S
  have := R.okS S
  unfold dinD at h
  repeat' split at h
  all_goals ((try simp only [Option.map_eq_some_iff, Option.bind_eq_some_iff, alloc] at h); grind)
theorem rprD_g (hS : R.ok S) (x : D) (r : D × Hd) (h : rprD x S = some r) : R.ok r.2 := by
  have := R.okA S
  have := R.okS S
  unfold rprD at h
  repeat' split at h
  all_goals ((try simp only [Option.map_eq_some_iff, Option.bind_eq_some_iff, alloc] at h); grind)
theorem cmpdD_g (hS : R.ok S) (o : Cd) (x y : D) (r : D × Hd) (h : cmpdD o x y S = some r) : R.ok r.2 := by
  have := R.okA S
  have := R.okS S
  unfold cmpdD at h
  repeat' split at h
  all_goals ((try simp only [Option.map_eq_some_iff, Option.bind_eq_some_iff, alloc] at h); grind)
theorem ixD_g (hS : R.ok S) (x i : D) (r : D × Hd) (h : ixD x i S = some r) : R.ok r.2 := by
  have := R.okA S
  have := R.okS S
  unfold ixD at h
  repeat' split at h
  all_goals ((try simp only [Option.map_eq_some_iff, Option.bind_eq_some_iff, alloc] at h); grind)
theorem slD_g (hS : R.ok S) (x : D) (l h : Option Int) (r : D × Hd) (h : slD x l h S = some r) : R.ok r.2 := by
  have := R.okA S
  have := R.okS S
  unfold slD at h
  first
  | (split at h <;> ((try simp only [Option.map_eq_some_iff, Option.bind_eq_some_iff, alloc] at h); grind))
  | ((try simp only [Option.map_eq_some_iff, Option.bind_eq_some_iff, alloc] at h); grind)
theorem revD_g (hS : R.ok S) (x : D) (r : D × Hd) (h : revD x S = some r) : R.ok r.2 := by
  have := R.okA S
  have := R.okS S
  unfold revD at h
  first
  | (split at h <;> ((try simp only [Option.map_eq_some_iff, Option.bind_eq_some_iff, alloc] at h); grind))
  | ((try simp only [Option.map_eq_some_iff, Option.bind_eq_some_iff, alloc] at h); grind)
theorem bltD_g (hS : R.ok S) (b : Bl) (ds : List D) (r : D × Hd) (h : bltD b ds S = some r) : R.ok r.2 := by
  have := R.okA S
  have := R.okS S
  unfold bltD at h
  repeat' split at h
  all_goals ((try simp only [Option.map_eq_some_iff, Option.bind_eq_some_iff, alloc] at h); try grind)
theorem methD_g (hS : R.ok S) (m : Mt) (x : D) (ds : List D) (r : D × Hd) (h : methD m x ds S = some r) : R.ok r.2 := by
  have := R.okA S
  have := R.okS S
  unfold methD at h
  first
  | (split at h <;> ((try simp only [Option.map_eq_some_iff, Option.bind_eq_some_iff, alloc] at h); grind))
  | ((try simp only [Option.map_eq_some_iff, Option.bind_eq_some_iff, alloc] at h); grind)
theorem setD_g (hS : R.ok S) (o i x : D) (r : Hd) (h : setD o i x S = some r) : R.ok r := by
  have := R.okA S
  have := R.okS S
  unfold setD at h
  repeat' split at h
  all_goals ((try simp only [Option.map_eq_some_iff, Option.bind_eq_some_iff, alloc] at h); try grind)
theorem pushD_g (hS : R.ok S) (k : Nat) (x : D) (r : Hd) (h : pushD k x S = some r) : R.ok r := by
  have := R.okA S
  have := R.okS S
  unfold pushD at h
  first
  | (split at h <;> ((try simp only [Option.map_eq_some_iff, Option.bind_eq_some_iff, alloc] at h); grind))
  | ((try simp only [Option.map_eq_some_iff, Option.bind_eq_some_iff, alloc] at h); grind)
end
/-- the same, renamed, and what stands is of the kind that the renaming asks -/
def Eqv {α : Type} (R : Rg) (m : α → α) (hp : α → Hd) (o' o : Option α) : Prop := o' = o.map m ∧ ∀ r, o = some r → R.ok (hp r)
theorem bindE {α β : Type} {R : Rg} {m1 : α → α} {hp1 : α → Hd} {m2 : β → β} {hp2 : β → Hd} {o o' : Option α} {f f' : α → Option β} (h : Eqv R m1 hp1 o' o) (k : ∀ x, R.ok (hp1 x) → Eqv R m2 hp2 (f' (m1 x)) (f x)) : Eqv R m2 hp2 (o'.bind f') (o.bind f) := by
  obtain ⟨h1, h2⟩ := h
  subst h1
  cases o with
  | none => exact ⟨rfl, fun r z => by cases z⟩
  | some x => exact k x (h2 x rfl)
theorem bindP {α α' β : Type} {R : Rg} {m1 : α → α'} {m2 : β → β} {hp2 : β → Hd} {o : Option α} {o' : Option α'} {f : α → Option β} {f' : α' → Option β} (h : o' = o.map m1) (k : ∀ x, Eqv R m2 hp2 (f' (m1 x)) (f x)) : Eqv R m2 hp2 (o'.bind f') (o.bind f) := by
  subst h
  cases o with
  | none => exact ⟨rfl, fun r z => by cases z⟩
  | some x => exact k x
theorem mapE {α β : Type} {R : Rg} {m1 : α → α} {hp1 : α → Hd} {m2 : β → β} {hp2 : β → Hd} {o o' : Option α} {f f' : α → β} (h : Eqv R m1 hp1 o' o) (k : ∀ x, R.ok (hp1 x) → f' (m1 x) = m2 (f x) ∧ R.ok (hp2 (f x))) : Eqv R m2 hp2 (o'.map f') (o.map f) := by
  obtain ⟨h1, h2⟩ := h
  subst h1
  cases o with
  | none => exact ⟨rfl, fun r z => by cases z⟩
  | some x => exact ⟨congrArg some (k x (h2 x rfl)).1, fun r z => by cases z; exact (k x (h2 x rfl)).2⟩
theorem mapP {α α' β : Type} {R : Rg} {m1 : α → α'} {m2 : β → β} {hp2 : β → Hd} {o : Option α} {o' : Option α'} {f : α → β} {f' : α' → β} (h : o' = o.map m1) (k : ∀ x, f' (m1 x) = m2 (f x) ∧ R.ok (hp2 (f x))) : Eqv R m2 hp2 (o'.map f') (o.map f) := by
  subst h
  cases o with
  | none => exact ⟨rfl, fun r z => by cases z⟩
  | some x => exact ⟨congrArg some (k x).1, fun r z => by cases z; exact (k x).2⟩
theorem noneE {α : Type} {R : Rg} {m : α → α} {hp : α → Hd} : Eqv R m hp none none := ⟨rfl, fun r z => by cases z⟩
theorem someE {α : Type} {R : Rg} {m : α → α} {hp : α → Hd} {x' x : α} (h : x' = m x) (hx : R.ok (hp x)) : Eqv R m hp (some x') (some x) := ⟨by rw [h]; rfl, fun r z => by cases z; exact hx⟩
section
variable {R : Rg} {S : Hd}
open Classical in
theorem loopH_rn {turn turn' : D → Hd → Option Hd} {still still' : Hd → Prop} (ht : ∀ d S, R.ok S → Eqv R R.uh id (turn' (rn R.ρ d) (R.uh S)) (turn d S)) (hs : ∀ S, R.ok S → (still' (R.uh S) ↔ still S)) : ∀ (ds : List D) (S : Hd), R.ok S → Eqv R R.uh id (loopH turn' still' (ds.map (rn R.ρ)) (R.uh S)) (loopH turn still ds S)
  | [], S, hS => someE rfl hS
  | d :: ds, S, hS => by
    simp only [List.map_cons, loopH]
    refine bindE (ht d S hS) fun S1 hS => ?_
    by_cases h : still S1
    · rw [if_pos h, if_pos ((hs S1 hS).mpr h)]
      exact loopH_rn ht hs ds S1 hS
    · rw [if_neg h, if_neg (fun z => h ((hs S1 hS).mp z))]
      exact noneE
def uoR (R : Rg) : Out → Out
  | .ret d => .ret (rn R.ρ d)
  | o => o
def u3R (R : Rg) (r : Out × Sl × Hd) : Out × Sl × Hd := (uoR R r.1, ueR R.ρ r.2.1, R.uh r.2.2)
def h3R (r : Out × Sl × Hd) : Hd := r.2.2
def t2R (R : Rg) (r : Bool × Hd) : Bool × Hd := (r.1, R.uh r.2)
open Classical in
theorem loopS_rn {turn turn' : D → Sl → Hd → Option (Out × Sl × Hd)} {still still' : Hd → Prop} (ht : ∀ d env S, R.ok S → Eqv R (u3R R) h3R (turn' (rn R.ρ d) (ueR R.ρ env) (R.uh S)) (turn d env S)) (hs : ∀ S, R.ok S → (still' (R.uh S) ↔ still S)) :
    ∀ (ds : List D) (env : Sl) (S : Hd), R.ok S → Eqv R (u3R R) h3R (loopS turn' still' (ds.map (rn R.ρ)) (ueR R.ρ env) (R.uh S)) (loopS turn still ds env S)
  | [], env, S, hS => someE rfl hS
  | d :: ds, env, S, hS => by
    simp only [List.map_cons, loopS]
    refine bindE (ht d env S hS) fun r hS => ?_
    obtain ⟨o, env1, S1⟩ := r
    have go : Eqv R (u3R R) h3R (if still' (R.uh S1) then loopS turn' still' (ds.map (rn R.ρ)) (ueR R.ρ env1) (R.uh S1) else none) (if still S1 then loopS turn still ds env1 S1 else none) := by
      by_cases h : still S1
      · rw [if_pos h, if_pos ((hs S1 hS).mpr h)]
        exact loopS_rn ht hs ds env1 S1 hS
      · rw [if_neg h, if_neg (fun z => h ((hs S1 hS).mp z))]
        exact noneE
    cases o with
    | brk => exact someE rfl hS
    | ret x => exact someE rfl hS
    | nx => exact go
    | cont => exact go
theorem loopW_rn {test test' : Sl → Hd → Option (Bool × Hd)} {body body' : Sl → Hd → Option (Out × Sl × Hd)} (ht : ∀ env S, R.ok S → Eqv R (t2R R) Prod.snd (test' (ueR R.ρ env) (R.uh S)) (test env S)) (hb : ∀ env S, R.ok S → Eqv R (u3R R) h3R (body' (ueR R.ρ env) (R.uh S)) (body env S)) :
    ∀ (n : Nat) (env : Sl) (S : Hd), R.ok S → Eqv R (u3R R) h3R (loopW test' body' n (ueR R.ρ env) (R.uh S)) (loopW test body n env S)
  | 0, _, _, _ => noneE
  | n + 1, env, S, hS => by
    simp only [loopW]
    refine bindE (ht env S hS) fun t hS => ?_
    obtain ⟨b, S1⟩ := t
    cases b with
    | false => exact someE rfl hS
    | true =>
      simp only [if_true, t2R]
      refine bindE (hb env S1 hS) fun r hS => ?_
      obtain ⟨o, env1, S2⟩ := r
      cases o with
      | brk => exact someE rfl hS
      | ret x => exact someE rfl hS
      | nx => exact loopW_rn ht hb n env1 S2 hS
      | cont => exact loopW_rn ht hb n env1 S2 hS
theorem argsOf_rn (d : D) : argsOf (rn R.ρ d) = (argsOf d).map (List.map (rn R.ρ)) := by cases d <;> simp [rn, argsOf, rns_map]
theorem tst_rn {o o' : Option (D × Hd)} (h : Eqv R (urR R) Prod.snd o' o) : Eqv R (t2R R) Prod.snd (tst o') (tst o) := by
  unfold tst
  refine bindE h fun x hS => ?_
  show Eqv R _ _ ((tru (R.uh x.2) (rn R.ρ x.1)).map fun b => (b, R.uh x.2)) _
  rw [tru_rn hS]
  exact mapP (m1 := id) (by simp) fun b => ⟨rfl, hS⟩
def p2R (R : Rg) (r : Option Int × Hd) : Option Int × Hd := (r.1, R.uh r.2)
theorem evP_rn (hS : R.ok S) (b : Bool) {o o' : Option (D × Hd)} (h : Eqv R (urR R) Prod.snd o' o) : Eqv R (p2R R) Prod.snd (evP b o' (R.uh S)) (evP b o S) := by
  unfold evP
  split
  · refine bindE h fun x hS => ?_
    obtain ⟨d, S1⟩ := x
    have hS : R.ok S1 := hS
    cases d <;> simp [Eqv, urR, rn, p2R, hS]
  · exact someE rfl hS
theorem lookC_rn {t : List (Str × D)} (ht : t.all (fun p => okD p.2) = true) (z : Str) : (lookC t z).map (rn R.ρ) = lookC t z := by
  unfold lookC
  cases e : t.find? fun p => decide (p.1 = z) with
  | none => rfl
  | some p =>
    have := List.all_eq_true.mp ht p (List.mem_of_find?_eq_some e)
    simp only [Option.map_some, rn_ok _ this]
end
section
variable {R : Rg} {Γ : Fs}
theorem perm_rn (perm : List Nat) (zs : List D) : permV perm (zs.map (rn R.ρ)) = (permV perm zs).map (rn R.ρ) := by
  unfold permV
  rw [List.map_filterMap]
  congr 1
  funext i
  rw [List.getElem?_map]
theorem isE_rn (o : Option O) : isE (o.map (rnO R.ρ)) = isE o := by
  cases o with
  | none => rfl
  | some q =>
    cases q with
    | lst _ => rfl
    | dct ks => cases ks <;> rfl
theorem ev_rn (hΓ : ∀ f ds S, R.ok S → Eqv R (urR R) Prod.snd (Γ f (ds.map (rn R.ρ)) (R.uh S)) (Γ f ds S)) : ∀ (e : E) (env : Sl) (S : Hd), R.ok S → okE e = true → Eqv R (urR R) Prod.snd (ev Γ e (ueR R.ρ env) (R.uh S)) (ev Γ e env S) := by
  intro e
  induction e with
  | var i =>
    intro env S hS _
    simp only [ev, ueR, List.getElem?_map]
    cases env[i]? with
    | none => exact noneE
    | some o =>
      cases o with
      | none => exact noneE
      | some d => exact someE rfl hS
  | c d =>
    intro env S hS h
    simp only [ev]
    exact someE (by simp only [urR, rn_ok d h]) hS
  | nop =>
    intro env S hS _
    simp only [ev]
    exact someE (by simp [urR, rn]) hS
  | nil =>
    intro env S hS _
    simp only [ev]
    exact someE (by simp [urR, rn, rns]) hS
  | bin o a b iha ihb =>
    intro env S hS h
    simp only [okE, Bool.and_eq_true] at h
    simp only [ev]
    exact bindE (iha env S hS h.1) fun x hS => bindE (ihb env x.2 hS h.2) fun y hS => ⟨binD_rn hS o x.1 y.1, binD_g hS o x.1 y.1⟩
  | neg a ih =>
    intro env S hS h
    simp only [ev]
    refine bindE (ih env S hS h) fun x hS => ?_
    obtain ⟨d, S1⟩ := x
    have hS : R.ok S1 := hS
    cases d <;> simp [Eqv, urR, rn, hS]
  | not_ a ih =>
    intro env S hS h
    simp only [ev]
    exact mapE (tst_rn (ih env S hS h)) fun x hS => ⟨by simp [urR, rn, t2R], hS⟩
  | cmp o a b iha ihb =>
    intro env S hS h
    simp only [okE, Bool.and_eq_true] at h
    simp only [ev]
    exact bindE (iha env S hS h.1) fun x hS => bindE (ihb env x.2 hS h.2) fun y hS => ⟨cmpD_rn hS o x.1 y.1, cmpD_g hS o x.1 y.1⟩
  | cmpd o a b iha ihb =>
    intro env S hS h
    simp only [okE, Bool.and_eq_true] at h
    simp only [ev]
    exact bindE (iha env S hS h.1) fun x hS => bindE (ihb env x.2 hS h.2) fun y hS => ⟨cmpdD_rn hS o x.1 y.1, cmpdD_g hS o x.1 y.1⟩
  | chain o p a b c iha ihb ihc =>
    intro env S hS h
    simp only [okE, Bool.and_eq_true] at h
    simp only [ev]
    refine bindE (iha env S hS h.1.1) fun x hS => bindE (ihb env x.2 hS h.1.2) fun y hS => bindE ⟨cmpD_rn hS o x.1 y.1, cmpD_g hS o x.1 y.1⟩ fun z hS => ?_
    obtain ⟨d, S1⟩ := z
    cases d with
    | bl b =>
      cases b with
      | false => exact someE (by simp [urR, rn]) hS
      | true =>
        simp only [urR, rn]
        have hS : R.ok S1 := hS
        exact bindE (ihc env S1 hS h.2) fun u hS => ⟨cmpD_rn hS p y.1 u.1, cmpD_g hS p y.1 u.1⟩
    | _ => simp [Eqv, urR, rn]
  | and_ a b iha ihb =>
    intro env S hS h
    simp only [okE, Bool.and_eq_true] at h
    simp only [ev]
    refine bindE (iha env S hS h.1) fun x hS => ?_
    obtain ⟨d, S1⟩ := x
    cases d with
    | bl b =>
      cases b with
      | false => exact someE (by simp [urR, rn]) hS
      | true =>
        simp only [urR, rn]
        exact ihb env S1 hS h.2
    | _ => simp [Eqv, urR, rn]
  | or_ a b iha ihb =>
    intro env S hS h
    simp only [okE, Bool.and_eq_true] at h
    simp only [ev]
    refine bindE (iha env S hS h.1) fun x hS => ?_
    obtain ⟨d, S1⟩ := x
    cases d with
    | bl b =>
      cases b with
      | true => exact someE (by simp [urR, rn]) hS
      | false =>
        simp only [urR, rn]
        exact ihb env S1 hS h.2
    | _ => simp [Eqv, urR, rn]
  | orv a b iha ihb =>
    intro env S hS h
    simp only [okE, Bool.and_eq_true] at h
    simp only [ev]
    refine bindE (iha env S hS h.1) fun x hS => ?_
    obtain ⟨d, S1⟩ := x
    have hS : R.ok S1 := hS
    show Eqv R _ _ ((tru (R.uh S1) (rn R.ρ d)).bind _) _
    rw [tru_rn hS]
    refine bindP (m1 := id) (by simp) fun k => ?_
    cases k with
    | true => exact someE rfl hS
    | false => exact ihb env S1 hS h.2
  | ite c a b ihc iha ihb =>
    intro env S hS h
    simp only [okE, Bool.and_eq_true] at h
    simp only [ev]
    refine bindE (tst_rn (ihc env S hS h.1.1)) fun x hS => ?_
    obtain ⟨k, S1⟩ := x
    cases k with
    | true => exact iha env S1 hS h.1.2
    | false => exact ihb env S1 hS h.2
  | ix a b iha ihb =>
    intro env S hS h
    simp only [okE, Bool.and_eq_true] at h
    simp only [ev]
    exact bindE (iha env S hS h.1) fun x hS => bindE (ihb env x.2 hS h.2) fun y hS => ⟨ixD_rn hS x.1 y.1, ixD_g hS x.1 y.1⟩
  | sl bl bh a l hh iha ihl ihh =>
    intro env S hS h
    simp only [okE, Bool.and_eq_true] at h
    simp only [ev]
    exact bindE (iha env S hS h.1.1) fun x hS => bindE (evP_rn hS bl (ihl env x.2 hS h.1.2)) fun y hS => bindE (evP_rn hS bh (ihh env y.2 hS h.2)) fun z hS => ⟨slD_rn hS x.1 y.1 z.1, slD_g hS x.1 y.1 z.1⟩
  | rev a ih =>
    intro env S hS h
    simp only [ev]
    exact bindE (ih env S hS h) fun x hS => ⟨revD_rn hS x.1, revD_g hS x.1⟩
  | tup es ih =>
    intro env S hS h
    simp only [ev]
    refine bindE (ih env S hS h) fun x hS => bindP (argsOf_rn x.1) fun ds => ?_
    rw [List.length_map]
    split
    · exact someE (by simp [urR, rn, rns_map]) hS
    · exact noneE
  | lst es ih =>
    intro env S hS h
    simp only [ev]
    refine bindE (ih env S hS h) fun x hS => bindP (argsOf_rn x.1) fun ds => ?_
    rw [List.length_map]
    split
    · exact someE (alloc_rn hS ds) (alloc_g hS ds)
    · exact noneE
  | cons e es ihe ihs =>
    intro env S hS h
    simp only [okE, Bool.and_eq_true] at h
    simp only [ev]
    exact bindE (ihe env S hS h.1) fun x hS => bindE (ihs env x.2 hS h.2) fun y hS => mapP (argsOf_rn y.1) fun ds => ⟨by simp [urR, rn, rns, rns_map], hS⟩
  | dct es ih =>
    intro env S hS h
    simp only [ev]
    have hS0 := hS
    refine bindE (by have := ih env (S ++ [.dct []]) (R.okA _ _ hS) h; rw [← R.app _ _ hS] at this; exact this) fun x hS => bindP (argsOf_rn x.1) fun ds => bindP (pairUp_rn ds) fun ks => ?_
    have e1 : ((ks.map fun kv => (kv.1, rn R.ρ kv.2)).map (·.1)) = ks.map (·.1) := by rw [List.map_map]; congr 1
    show Eqv R _ _ (if ((ks.map fun kv => (kv.1, rn R.ρ kv.2)).map (·.1)).Nodup ∧ (ks.map fun kv => (kv.1, rn R.ρ kv.2)).length ≤ 15 ∧ isE ((R.uh x.2)[(R.uh S).length]?) = true then _ else _) _
    rw [e1, List.length_map, R.len _ hS0, R.get _ _ hS, isE_rn]
    split
    · refine someE ?_ (R.okS _ _ _ hS)
      simp only [urR, rn, ← R.set _ _ _ hS]
      rfl
    · exact noneE
  | dget a i iha ihb =>
    intro env S hS h
    simp only [okE, Bool.and_eq_true] at h
    simp only [ev]
    exact bindE (iha env S hS h.1) fun x hS => bindE (ihb env x.2 hS h.2) fun y hS => ⟨dgetD_rn hS x.1 y.1, dgetD_g hS x.1 y.1⟩
  | cix t a ih =>
    intro env S hS h
    simp only [okE, Bool.and_eq_true] at h
    simp only [ev]
    refine bindE (ih env S hS h.2) fun x hS => ?_
    obtain ⟨d, S1⟩ := x
    cases d with
    | str z =>
      simp only [urR, rn]
      exact mapP (m1 := rn R.ρ) (lookC_rn h.1 z).symm fun d => ⟨rfl, hS⟩
    | _ => simp [Eqv, urR, rn]
  | cget t a ih =>
    intro env S hS h
    simp only [okE, Bool.and_eq_true] at h
    simp only [ev]
    refine bindE (ih env S hS h.2) fun x hS => ?_
    obtain ⟨d, S1⟩ := x
    cases d with
    | str z =>
      simp only [urR, rn]
      refine someE ?_ hS
      have := lookC_rn (R := R) h.1 z
      cases e : lookC t z with
      | none => simp [urR, rn]
      | some q =>
        rw [e] at this
        simp only [Option.map_some, Option.getD_some, urR] at this ⊢
        rw [Option.some.inj this]
    | _ => simp [Eqv, urR, rn]
  | cnts a b iha ihb =>
    intro env S hS h
    simp only [okE, Bool.and_eq_true] at h
    simp only [ev]
    refine bindE (iha env S hS h.1) fun x hS => ?_
    show Eqv R _ _ (if isLst (R.uh x.2) (rn R.ρ x.1) = true then _ else _) _
    rw [isLst_rn hS]
    split
    · exact bindE (ihb env x.2 hS h.2) fun y hS => ⟨cntD_rn hS x.1 y.1, cntD_g hS x.1 y.1⟩
    · exact noneE
  | rpr a ih =>
    intro env S hS h
    simp only [ev]
    exact bindE (ih env S hS h) fun x hS => ⟨rprD_rn hS x.1, rprD_g hS x.1⟩
  | call f es ih =>
    intro env S hS h
    simp only [ev]
    exact bindE (ih env S hS h) fun x hS => bindP (argsOf_rn x.1) fun ds => hΓ f ds x.2 hS
  | callK f es ks perm ih ihk =>
    intro env S hS h
    simp only [okE, Bool.and_eq_true] at h
    simp only [ev]
    refine bindE (ih env S hS h.1) fun x hS => bindP (argsOf_rn x.1) fun ds => bindE (ihk env x.2 hS h.2) fun y hS => bindP (argsOf_rn y.1) fun zs => ?_
    rw [← List.map_append, perm_rn]
    exact hΓ f _ y.2 hS
  | blt b es ih =>
    intro env S hS h
    simp only [ev]
    exact bindE (ih env S hS h) fun x hS => bindP (argsOf_rn x.1) fun ds => ⟨bltD_rn hS b ds, bltD_g hS b ds⟩
  | meth m o es iho ihs =>
    intro env S hS h
    simp only [okE, Bool.and_eq_true] at h
    simp only [ev]
    refine bindE (iho env S hS h.1) fun x hS => ?_
    show Eqv R _ _ (if isLst (R.uh x.2) (rn R.ρ x.1) = true then _ else _) _
    rw [isLst_rn hS]
    split
    · exact bindE (ihs env x.2 hS h.2) fun y hS => bindP (argsOf_rn y.1) fun ds => ⟨methD_rn hS m x.1 ds, methD_g hS m x.1 ds⟩
    · exact noneE
  | lc k es g ifs elt own ihs ihi ihe =>
    intro env S hS h
    simp only [okE, Bool.and_eq_true] at h
    simp only [ev]
    split
    · refine bindE (ihs env S hS h.1.1) fun x hS => bindP (argsOf_rn x.1) fun ds => bindP (items_rn hS k ds) fun its => ?_
      show Eqv R _ _ ((loopH _ _ (its.map (rn R.ρ)) (R.uh x.2 ++ [.lst []])).map (fun S2 => (D.ref (R.uh x.2).length, S2))) _
      rw [show ([O.lst []] : Hd) = [rnO R.ρ (.lst [])] from rfl, R.app _ _ hS]
      have hS0 := hS
      refine mapE (loopH_rn (fun d S1 hS => ?_) (fun S1 hS => ?_) its (x.2 ++ [.lst []]) (R.okA _ _ hS)) fun S2 hS => ⟨by simp only [urR, rn, R.len _ hS0], hS⟩
      · rw [wipeD_rn]
        refine bindP (asgG_rn g d _) fun env1 => bindE (tst_rn (ihi env1 S1 hS h.1.2)) fun t hS => ?_
        obtain ⟨b, S2⟩ := t
        cases b with
        | false => exact someE rfl hS
        | true =>
          simp only [if_true, t2R]
          refine bindE (ihe env1 S2 hS h.2) fun y hS => ?_
          show Eqv R _ _ (pushD (R.uh x.2).length (rn R.ρ y.1) (R.uh y.2)) _
          rw [R.len _ hS0]
          exact ⟨pushD_rn hS _ y.1, pushD_g hS _ y.1⟩
      · rw [items_rn hS]
        constructor
        · intro z
          exact ur_injR R.inj (by rw [z]; rfl)
        · intro z
          rw [z]
          rfl
    · exact noneE
  | getd a i e iha ihi ihe =>
    intro env S hS h
    simp only [okE, Bool.and_eq_true] at h
    simp only [ev]
    refine bindE (iha env S hS h.1.1) fun x hS => ?_
    show Eqv R _ _ (if isDct (R.uh x.2) (rn R.ρ x.1) = true then _ else _) _
    rw [isDct_rn hS]
    split
    · exact bindE (ihi env x.2 hS h.1.2) fun y hS => bindE (ihe env y.2 hS h.2) fun z hS => ⟨getdD_rn hS x.1 y.1 z.1, getdD_g hS x.1 y.1 z.1⟩
    · exact noneE
  | din a b iha ihb =>
    intro env S hS h
    simp only [okE, Bool.and_eq_true] at h
    simp only [ev]
    exact bindE (iha env S hS h.1) fun x hS => bindE (ihb env x.2 hS h.2) fun y hS => ⟨dinD_rn hS x.1 y.1, dinD_g hS x.1 y.1⟩
  | joinS z a ih =>
    intro env S hS h
    simp only [ev]
    exact bindE (ih env S hS h) fun x hS => ⟨joinD_rn hS z x.1, joinD_g hS z x.1⟩
  | cin neg t a ih =>
    intro env S hS h
    simp only [ev]
    refine bindE (ih env S hS h) fun x hS => ?_
    obtain ⟨d, S1⟩ := x
    have hS : R.ok S1 := hS
    cases d <;> simp [Eqv, urR, rn, hS]
  | sgn a b iha ihb =>
    intro env S hS h
    simp only [okE, Bool.and_eq_true] at h
    simp only [ev]
    refine bindE (iha env S hS h.1) fun x hS => bindE (ihb env x.2 hS h.2) fun y hS => ?_
    obtain ⟨d, S1⟩ := x
    obtain ⟨d2, S2⟩ := y
    cases d with
    | str u =>
      cases d2 with
      | str z =>
        simp only [urR, rn]
        have hS : R.ok S2 := hS
        split
        · exact someE (by simp [urR, rn]) hS
        · first
          | exact noneE
          | exact someE (by simp [urR, rn]) hS
      | _ => simp [Eqv, urR, rn]
    | _ => cases d2 <;> simp [Eqv, urR, rn]
  | stw a z ih =>
    intro env S hS h
    simp only [ev]
    refine bindE (ih env S hS h) fun x hS => ?_
    obtain ⟨d, S1⟩ := x
    have hS : R.ok S1 := hS
    cases d <;> simp [Eqv, urR, rn, hS]
  | split a z ih =>
    intro env S hS h
    simp only [ev]
    refine bindE (ih env S hS h) fun x hS => ?_
    obtain ⟨d, S1⟩ := x
    cases d with
    | str u =>
      simp only [urR, rn]
      split
      · refine someE ?_ (alloc_g hS _)
        rw [← alloc_rn hS, List.map_map]
        rfl
      · exact noneE
    | _ => simp [Eqv, urR, rn]
  | mkx c ns own es ih =>
    intro env S hS h
    simp only [ev]
    refine bindE (ih env S hS h) fun x hS => bindP (argsOf_rn x.1) fun ds => ?_
    exact mapP (mkxD_rn c ns own ds) fun d => ⟨rfl, hS⟩
  | isx a t ih =>
    intro env S hS h
    simp only [ev]
    exact bindE (ih env S hS h) fun x hS => mapP (isxD_rn t x.1) fun d => ⟨rfl, hS⟩
  | attr a c n ih =>
    intro env S hS h
    simp only [ev]
    exact bindE (ih env S hS h) fun x hS => mapP (attrD_rn c n x.1) fun d => ⟨rfl, hS⟩
  | mkxK c ns perm ks ih =>
    intro env S hS h
    simp only [ev]
    refine bindE (ih env S hS h) fun x hS => bindP (argsOf_rn x.1) fun ds => ?_
    rw [perm_rn]
    exact mapP (mkxD_rn c ns true (permV perm ds)) fun d => ⟨rfl, hS⟩
theorem ex_rn (hΓ : ∀ f ds S, R.ok S → Eqv R (urR R) Prod.snd (Γ f (ds.map (rn R.ρ)) (R.uh S)) (Γ f ds S)) : ∀ (c : Sx) (env : Sl) (S : Hd), R.ok S → okS c = true → Eqv R (u3R R) h3R (ex Γ c (ueR R.ρ env) (R.uh S)) (ex Γ c env S) := by
  intro c
  induction c with
  | skip =>
    intro env S hS _
    exact someE rfl hS
  | seq s t ihs iht =>
    intro env S hS h
    simp only [okS, Bool.and_eq_true] at h
    simp only [ex]
    refine bindE (ihs env S hS h.1) fun r hS => ?_
    obtain ⟨o, env1, S1⟩ := r
    cases o with
    | nx => exact iht env1 S1 hS h.2
    | _ => exact someE rfl hS
  | asg g e =>
    intro env S hS h
    simp only [ex]
    exact bindE (ev_rn hΓ e env S hS h) fun x hS => mapP (asgG_rn g x.1 env) fun env1 => ⟨rfl, hS⟩
  | asgL g e =>
    intro env S hS h
    simp only [ex]
    refine bindE (ev_rn hΓ e env S hS h) fun x hS => ?_
    refine bindP (m1 := List.map (rn R.ρ)) ?_ fun xs => ?_
    · show (if isTup (rn R.ρ x.1) = true then none else seqOf (R.uh x.2) (rn R.ρ x.1)) = _
      rw [isTup_rn, seqOf_rn hS]
      split <;> rfl
    · have := asgG_rn (R := R) g (.tup xs) env
      simp only [rn, rns_map] at this
      exact mapP this fun env1 => ⟨rfl, hS⟩
  | setix o i e =>
    intro env S hS h
    simp only [okS, Bool.and_eq_true] at h
    simp only [ex]
    exact bindE (ev_rn hΓ e env S hS h.2) fun x hS => bindE (ev_rn hΓ o env x.2 hS h.1.1) fun y hS => bindE (ev_rn hΓ i env y.2 hS h.1.2) fun z hS => mapE (hp1 := id) ⟨setD_rn hS y.1 z.1 x.1, setD_g hS y.1 z.1 x.1⟩ fun S1 hS => ⟨rfl, hS⟩
  | drop e =>
    intro env S hS h
    simp only [ex]
    exact mapE (ev_rn hΓ e env S hS h) fun x hS => ⟨rfl, hS⟩
  | ret e =>
    intro env S hS h
    simp only [ex]
    exact mapE (ev_rn hΓ e env S hS h) fun x hS => ⟨rfl, hS⟩
  | retN =>
    intro env S hS _
    simp only [ex]
    exact someE (by simp [u3R, uoR, rn]) hS
  | ite c s t ihs iht =>
    intro env S hS h
    simp only [okS, Bool.and_eq_true] at h
    simp only [ex]
    refine bindE (tst_rn (ev_rn hΓ c env S hS h.1.1)) fun x hS => ?_
    obtain ⟨k, S1⟩ := x
    cases k with
    | true => exact ihs env S1 hS h.1.2
    | false => exact iht env S1 hS h.2
  | for_ k es g b ihb =>
    intro env S hS h
    simp only [okS, Bool.and_eq_true] at h
    simp only [ex]
    refine bindE (ev_rn hΓ es env S hS h.1) fun x hS => bindP (argsOf_rn x.1) fun ds => bindP (items_rn hS k ds) fun its => ?_
    refine loopS_rn (fun d env1 S1 hS => bindP (asgG_rn g d env1) fun env2 => ihb env2 S1 hS h.2) (fun S1 hS => ?_) its env x.2 hS
    rw [items_rn hS]
    constructor
    · intro z
      exact ur_injR R.inj (by rw [z]; rfl)
    · intro z
      rw [z]
      rfl
  | brk =>
    intro env S hS _
    exact someE rfl hS
  | cont =>
    intro env S hS _
    exact someE rfl hS
  | stuck =>
    intro env S hS _
    exact noneE
  | aug i o e =>
    intro env S hS h
    simp only [ex, ueR, List.getElem?_map]
    cases env[i]? with
    | none => exact noneE
    | some q =>
      cases q with
      | none => exact noneE
      | some d =>
        cases d with
        | int a =>
          simp only [Option.map_some, rn]
          refine bindE (ev_rn hΓ e env S hS h) fun x hS => ?_
          obtain ⟨d, S1⟩ := x
          have hS : R.ok S1 := hS
          cases o <;> cases d <;> simp [Eqv, urR, rn, u3R, h3R, uoR, ueR, List.map_set, hS]
        | _ => simp [Eqv, rn]
  | while_ c b ihb =>
    intro env S hS h
    simp only [okS, Bool.and_eq_true] at h
    simp only [ex]
    exact loopW_rn (fun e S1 hS => tst_rn (ev_rn hΓ c e S1 hS h.1)) (fun e S1 hS => ihb e S1 hS h.2) most env S hS
end
theorem outD_rn {R : Rg} {o o' : Option (Out × Sl × Hd)} (h : Eqv R (u3R R) h3R o' o) : Eqv R (urR R) Prod.snd (outD o') (outD o) := by
  unfold outD
  refine bindE h fun r hS => ?_
  obtain ⟨o, env1, S1⟩ := r
  have hS : R.ok S1 := hS
  cases o <;> first
  | exact noneE
  | exact someE (by simp [u3R, uoR, urR, rn]) hS
/-- a run on renamed cells is the run, renamed -/
theorem run_rn {T : Nat → Option Fd} (hT : ∀ f F, T f = some F → okS F.body = true) (R : Rg) : ∀ (n f : Nat) (ds : List D) (S : Hd), R.ok S → Eqv R (urR R) Prod.snd (run T n f (ds.map (rn R.ρ)) (R.uh S)) (run T n f ds S)
  | 0, f, ds, S, _ => by rw [run_zero, run_zero]; exact noneE
  | n + 1, f, ds, S, hS => by
    rw [run_step, run_step]
    cases e : T f with
    | none => exact noneE
    | some F =>
      simp only [Option.bind_some, List.length_map]
      split
      · refine outD_rn ?_
        have := ex_rn (R := R) (run_rn hT R n) F.body (ds.map some ++ List.replicate (F.m - ds.length) none) S hS (hT f F e)
        rw [show ueR R.ρ (ds.map some ++ List.replicate (F.m - ds.length) none) = (ds.map (rn R.ρ)).map some ++ List.replicate (F.m - ds.length) none from by simp [ueR, List.map_map]] at this
        exact this
      · exact noneE
/-- one cell, put to another place -/
def potR (G : Hd) (p : Nat) (hp : p < G.length) : Rg where
  ρ k := if k = 0 then p else k - 1 + G.length
  uh X := (match X with | [] => G | x :: _ => G.set p (rnO (fun k => if k = 0 then p else k - 1 + G.length) x)) ++ (X.drop 1).map (rnO (fun k => if k = 0 then p else k - 1 + G.length))
  ok X := X ≠ []
  get := by
    intro S k hS
    cases S with
    | nil => exact absurd rfl hS
    | cons x S =>
      cases k with
      | zero => simp [List.getElem?_append, hp]
      | succ k =>
        rw [List.getElem?_append_right (by simp)]
        simp
  len := by
    intro S hS
    cases S with
    | nil => exact absurd rfl hS
    | cons x S => simp; omega
  app := by
    intro S o hS
    cases S with
    | nil => exact absurd rfl hS
    | cons x S => simp
  set := by
    intro S k o hS
    cases S with
    | nil => exact absurd rfl hS
    | cons x S =>
      cases k with
      | zero => simp [List.set_append, hp]
      | succ k => simp [List.set_append, List.map_set]
  okA := by intro S o _; simp
  okS := by intro S k o hS; cases S <;> cases k <;> simp_all
  inj := by
    intro i j h
    by_cases hi : i = 0 <;> by_cases hj : j = 0 <;> simp only [hi, hj, if_true, if_false] at h <;> omega
end Ix

open PySem L2 Ix in
local macro_rules
  | `(tactic| simp? only [$as,*] $[$loc]?) => `(tactic| simp only [ex, ev, M_bind, M_map, M_some, M_ite, t_eq, a_tup, al_eq, List.getElem?_cons_zero, List.getElem?_cons_succ, Option.bind_some, Option.map_some, q_add, q_sub, q_lt, q_le, q_gt, q_ge, q_eqI, q_neI, q_eqB, q_neB, q_isN, q_notN, Ix.isNon, q_ixT, q_ixR, atI_0, atI_1, atI_2, atI_3, atI_4, atI_5, atI_6, atI_7, q_slT, q_slR, q_revT, q_seqT, q_int, q_intB, q_max, q_min, q_abs, q_tupT, n_tup, n_int, n_bl, n_non, n_str, isi_ii, isi_ib, isi_tt, isi_itl, isi_btl, isi_ttl, isi_tl, isi_bb, u_bl, u_int, u_non, u_tup, g_name, g_tup, g_nil, g_cons, o_ret, o_nx, i_seq, List.set_cons_zero, List.set_cons_succ, decide_eq_true_eq, Bool.not_eq_true', decide_eq_false_iff_not, evP, Bool.false_eq_true, if_true, if_false, ite_true, ite_false, reduceIte, Bool.not_true, Bool.not_false, Option.some.injEq, q_pow10, Int.reduceToNat, Int.reducePow, Int.reduceAdd, Int.reduceSub, Int.reduceMul, Int.reduceNeg, Int.reduceLT, Int.reduceLE, Nat.reducePow, Nat.reduceLT, Nat.reduceLeDiff, Nat.reduceAdd, List.length_cons, List.length_nil, Int.neg_neg, $as,*] $[$loc]?)
open PySem L2 Ix in
local macro_rules
  | `(tactic| simp_all? only [$as,*]) => `(tactic| simp only [ev, M_bind, M_map, M_some, M_ite, t_eq, a_tup, al_eq, List.getElem?_cons_zero, List.getElem?_cons_succ, Option.bind_some, Option.map_some, q_add, q_sub, q_lt, q_le, q_gt, q_ge, q_eqI, q_neI, q_eqB, q_neB, q_isN, q_notN, Ix.isNon, q_ixT, q_ixR, atI_0, atI_1, atI_2, atI_3, atI_4, atI_5, atI_6, atI_7, q_slT, q_slR, q_revT, q_seqT, q_int, q_intB, q_max, q_min, q_abs, q_tupT, n_tup, n_int, n_bl, n_non, n_str, isi_ii, isi_ib, isi_tt, isi_itl, isi_btl, isi_ttl, isi_tl, isi_bb, u_bl, u_int, u_non, u_tup, g_name, g_tup, g_nil, g_cons, o_ret, o_nx, i_seq, List.set_cons_zero, List.set_cons_succ, decide_eq_true_eq, Bool.not_eq_true', decide_eq_false_iff_not, evP, Bool.false_eq_true, if_true, if_false, ite_true, ite_false, reduceIte, Bool.not_true, Bool.not_false, Option.some.injEq, q_pow10, Int.reduceToNat, Int.reducePow, Int.reduceAdd, Int.reduceSub, Int.reduceMul, Int.reduceNeg, Int.reduceLT, Int.reduceLE, Nat.reducePow, Nat.reduceLT, Nat.reduceLeDiff, Nat.reduceAdd, List.length_cons, List.length_nil, Int.neg_neg, $as,*])

namespace Lw
open PySem L2 Ix
/-- 0: is_number (value) -/
def b_is_number : Sx := (.ret (.and_ (.blt .isi (.cons (.var 0) (.cons (.c (.ty "int")) (.nil)))) (.not_ (.blt .isi (.cons (.var 0) (.cons (.c (.ty "bool")) (.nil)))))))
/-- 1: is_pair (value) -/
def b_is_pair : Sx := (.ret (.and_ (.blt .isi (.cons (.var 0) (.cons (.c (.ty "tuple")) (.nil)))) (.cmp .eq (.blt .len (.cons (.var 0) (.nil))) (.c (.int 2)))))
/-- 3: is_ascending (numbers, one, other) -/
def b_is_ascending : Sx := (.ret (.blt .all_ (.cons (.lc .zip (.cons (.var 0) (.cons (.sl true false (.var 0) (.c (.int 1)) .nop) (.nil))) (.tup (.cons (.name 1) (.cons (.name 2) .nil))) (.c (.bl true)) (.cmp .lt (.var 1) (.var 2)) [1, 2]) (.nil))))
/-- 4: _is_near (value) -/
def b_is_near : Sx := (.ret (.and_ (.call 0 (.cons (.var 0) (.nil))) (.chain .le .le (.neg (.c (.int 900))) (.var 0) (.c (.int 900)))))
/-- 5: _are_offsets (value, item) -/
def b_are_offsets : Sx := (.seq (.ite (.or_ (.not_ (.blt .isi (.cons (.var 0) (.cons (.c (.ty "tuple")) (.nil))))) (.not_ (.chain .le .le (.c (.int 1)) (.blt .len (.cons (.var 0) (.nil))) (.c (.int 3)))))
    (.ret (.c (.bl false))) .skip)
    (.ret (.and_ (.blt .all_ (.cons (.lc .seq (.cons (.var 0) .nil) (.name 1) (.c (.bl true)) (.call 4 (.cons (.var 1) (.nil))) [1]) (.nil))) (.call 3 (.cons (.var 0) (.nil))))))
/-- 6: is_zone (value, offsets, spacing) -/
def b_is_zone : Sx := (.seq (.ite (.not_ (.call 1 (.cons (.var 0) (.nil))))
    (.ret (.c (.bl false))) .skip)
    (.seq (.asg (.tup (.cons (.name 1) (.cons (.name 2) .nil))) (.var 0))
    (.seq (.ite (.or_ (.not_ (.call 5 (.cons (.var 1) (.nil)))) (.not_ (.call 0 (.cons (.var 2) (.nil)))))
    (.ret (.c (.bl false))) .skip)
    (.ret (.chain .lt .le (.bin .sub (.ix (.var 1) (.neg (.c (.int 1)))) (.ix (.var 1) (.c (.int 0)))) (.var 2) (.c (.int 1000000)))))))
/-- 7: check_zone (value) -/
def b_check_zone : Sx := (.ite (.not_ (.call 6 (.cons (.var 0) (.nil))))
    .stuck .skip)
/-- 8: _are_jumps (zone, offset, marks, moments, mark, offsets, spaced, moment, later, ahead, behind) -/
def b_are_jumps : Sx := (.seq (.asg (.name 3) (.lc .seq (.cons (.var 2) .nil) (.name 4) (.c (.bl true)) (.ix (.var 4) (.c (.int 0))) [4]))
    (.seq (.asg (.name 5) (.bin .add (.lst (.cons (.var 1) (.nil))) (.lc .seq (.cons (.var 2) .nil) (.name 4) (.c (.bl true)) (.ix (.var 4) (.c (.int 1))) [4])))
    (.seq (.asg (.name 6) (.blt .all_ (.cons (.lc .zip (.cons (.var 3) (.cons (.sl true false (.var 3) (.c (.int 1)) .nop) (.nil))) (.tup (.cons (.name 7) (.cons (.name 8) .nil))) (.c (.bl true)) (.cmp .ge (.bin .sub (.var 8) (.var 7)) (.ix (.var 0) (.c (.int 1)))) [7, 8]) (.nil))))
    (.ret (.and_ (.var 6) (.blt .all_ (.cons (.lc .zip (.cons (.var 5) (.cons (.sl true false (.var 5) (.c (.int 1)) .nop) (.nil))) (.tup (.cons (.name 9) (.cons (.name 10) .nil))) (.c (.bl true)) (.cmp .ne (.var 9) (.var 10)) [9, 10]) (.nil))))))))
/-- 9: is_offset (zone, value) -/
def b_is_offset : Sx := (.ret (.and_ (.call 0 (.cons (.var 1) (.nil))) (.cmp .in_ (.var 1) (.ix (.var 0) (.c (.int 0))))))
/-- 10: _is_mark (zone, value) -/
def b_is_mark : Sx := (.ret (.and_ (.call 1 (.cons (.var 1) (.nil))) (.and_ (.call 0 (.cons (.ix (.var 1) (.c (.int 0))) (.nil))) (.call 9 (.cons (.var 0) (.cons (.ix (.var 1) (.c (.int 1))) (.nil)))))))
/-- 11: are_marks (zone, value, item) -/
def b_are_marks : Sx := (.ret (.and_ (.blt .isi (.cons (.var 1) (.cons (.c (.ty "tuple")) (.nil)))) (.blt .all_ (.cons (.lc .seq (.cons (.var 1) .nil) (.name 2) (.c (.bl true)) (.call 10 (.cons (.var 0) (.cons (.var 2) (.nil)))) [2]) (.nil)))))
/-- 12: fits_as_table (zone, value, offset, jumps) -/
def b_fits_as_table : Sx := (.seq (.ite (.not_ (.call 1 (.cons (.var 1) (.nil))))
    (.ret (.c (.bl false))) .skip)
    (.seq (.asg (.tup (.cons (.name 2) (.cons (.name 3) .nil))) (.var 1))
    (.seq (.ite (.or_ (.not_ (.call 9 (.cons (.var 0) (.cons (.var 2) (.nil))))) (.not_ (.call 11 (.cons (.var 0) (.cons (.var 3) (.nil))))))
    (.ret (.c (.bl false))) .skip)
    (.ret (.call 8 (.cons (.var 0) (.cons (.var 2) (.cons (.var 3) (.nil)))))))))
/-- 17: _law_digits (_law_cell, _law_mixed, _law_full, _law_k) -/
def b_digits : Sx := (.seq (.ite (.cmp .ge (.var 0) (.bin .pow (.c (.int 10)) (.c (.int 18))))
    (.ret (.lst (.cons (.bin .sub (.var 0) (.bin .pow (.c (.int 10)) (.c (.int 18)))) (.nil)))) .skip)
    (.seq (.asg (.name 1) (.bin .add (.bin .mod (.blt .int_ (.cons (.var 0) (.nil))) (.bin .add (.bin .pow (.c (.int 10)) (.c (.int 38))) (.c (.int 133)))) (.c (.int 7))))
    (.seq (.asg (.name 2) (.c (.int 1)))
    (.seq (.for_ .range1 (.cons (.c (.int 19)) (.nil)) (.name 3)
    (.seq (.asg (.name 1) (.bin .mod (.bin .add (.bin .add (.bin .add (.bin .mul (.var 1) (.var 1)) (.bin .mul (.c (.int 31415926535)) (.var 1))) (.bin .mul (.c (.int 271829)) (.var 3))) (.c (.int 17))) (.bin .add (.bin .pow (.c (.int 10)) (.c (.int 41))) (.c (.int 9)))))
    (.ite (.cmp .gt (.var 3) (.c (.int 2)))
    (.asg (.name 2) (.bin .add (.bin .mul (.var 2) (.bin .pow (.c (.int 10)) (.c (.int 41)))) (.var 1))) .skip)))
    (.ret (.lst (.cons (.var 2) (.nil))))))))
/-- 18: _law_draw (_law_pot, _law_upto, _law_digit) -/
def b_draw : Sx := (.seq (.asg (.name 2) (.bin .mod (.blt .int_ (.cons (.ix (.var 0) (.c (.int 0))) (.nil))) (.var 1)))
    (.seq (.setix (.var 0) (.c (.int 0)) (.bin .fdiv (.ix (.var 0) (.c (.int 0))) (.var 1)))
    (.ret (.var 2))))
/-- 19: _law_any_hour (_law_pot, _law_kind) -/
def b_any_hour : Sx := (.seq (.asg (.name 1) (.call 18 (.cons (.var 0) (.cons (.c (.int 4)) (.nil)))))
    (.seq (.ite (.cmp .lt (.var 1) (.c (.int 2)))
    (.ret (.bin .sub (.call 18 (.cons (.var 0) (.cons (.c (.int 241)) (.nil)))) (.c (.int 120)))) .skip)
    (.seq (.ite (.cmp .eq (.var 1) (.c (.int 2)))
    (.ret (.bin .sub (.call 18 (.cons (.var 0) (.cons (.bin .add (.bin .mul (.c (.int 18)) (.bin .pow (.c (.int 10)) (.c (.int 11)))) (.c (.int 1))) (.nil)))) (.bin .mul (.c (.int 9)) (.bin .pow (.c (.int 10)) (.c (.int 11)))))) .skip)
    (.ret (.ix (.lst (.cons (.c (.int 0)) (.cons (.c (.int 1)) (.cons (.neg (.c (.int 1))) (.cons (.c (.int 1440)) (.cons (.neg (.c (.int 525600))) (.cons (.bin .sub (.bin .sub (.bin .pow (.c (.int 10)) (.c (.int 12))) (.c (.int 1))) (.bin .mul (.c (.int 2)) (.bin .pow (.c (.int 10)) (.c (.int 8))))) (.cons (.bin .sub (.c (.int 1)) (.bin .pow (.c (.int 10)) (.c (.int 12)))) (.nil))))))))) (.call 18 (.cons (.var 0) (.cons (.c (.int 7)) (.nil)))))))))
/-- 20: _law_make_region (_law_pot, _law_kind, _law_low, _law_unit, _law_wide, _law_mid, _law_top, _law_shifts, _law_shift, _law_spare, _law_more) -/
def b_make_region : Sx := (.seq (.asg (.name 1) (.call 18 (.cons (.var 0) (.cons (.c (.int 6)) (.nil)))))
    (.seq (.asg (.name 2) (.neg (.c (.int 900))))
    (.seq (.ite (.cmp .lt (.var 1) (.c (.int 2)))
    (.asg (.name 2) (.bin .sub (.call 18 (.cons (.var 0) (.cons (.c (.int 7)) (.nil)))) (.c (.int 3)))) (.ite (.cmp .eq (.var 1) (.c (.int 2)))
    (.asg (.name 2) (.bin .mul (.c (.int 30)) (.bin .sub (.call 18 (.cons (.var 0) (.cons (.c (.int 45)) (.nil)))) (.c (.int 22))))) (.ite (.cmp .eq (.var 1) (.c (.int 4)))
    (.asg (.name 2) (.bin .sub (.call 18 (.cons (.var 0) (.cons (.c (.int 1201)) (.nil)))) (.c (.int 900)))) .skip)))
    (.seq (.asg (.tup (.cons (.name 3) (.cons (.name 4) .nil))) (.ix (.lst (.cons (.tup (.cons (.c (.int 1)) (.cons (.c (.int 4)) (.nil)))) (.cons (.tup (.cons (.c (.int 1)) (.cons (.c (.int 4)) (.nil)))) (.cons (.tup (.cons (.c (.int 30)) (.cons (.c (.int 4)) (.nil)))) (.cons (.tup (.cons (.c (.int 1)) (.cons (.c (.int 900)) (.nil)))) (.cons (.tup (.cons (.c (.int 1)) (.cons (.c (.int 300)) (.nil)))) (.cons (.tup (.cons (.c (.int 900)) (.cons (.c (.int 1)) (.nil)))) (.nil)))))))) (.var 1)))
    (.seq (.asg (.name 5) (.bin .add (.var 2) (.bin .mul (.var 3) (.bin .add (.c (.int 1)) (.call 18 (.cons (.var 0) (.cons (.var 4) (.nil))))))))
    (.seq (.asg (.name 6) (.bin .add (.var 5) (.bin .mul (.var 3) (.bin .add (.c (.int 1)) (.call 18 (.cons (.var 0) (.cons (.var 4) (.nil))))))))
    (.seq (.asg (.name 7) (.lst (.cons (.tup (.cons (.var 2) (.cons (.var 5) (.nil)))) (.cons (.tup (.cons (.var 2) (.cons (.var 5) (.cons (.var 6) (.nil))))) (.cons (.tup (.cons (.var 2) (.cons (.var 6) (.nil)))) (.cons (.tup (.cons (.var 2) (.cons (.var 5) (.cons (.var 6) (.nil))))) (.cons (.tup (.cons (.var 6) (.nil))) (.nil))))))))
    (.seq (.asg (.name 7) (.ix (.var 7) (.bin .fdiv (.call 18 (.cons (.var 0) (.cons (.c (.int 9)) (.nil)))) (.c (.int 2)))))
    (.seq (.ite (.cmp .eq (.call 18 (.cons (.var 0) (.cons (.c (.int 2)) (.nil)))) (.c (.int 1)))
    (.asg (.name 7) (.blt .tuple_ (.cons (.lc .seq (.cons (.rev (.var 7)) .nil) (.name 8) (.c (.bl true)) (.neg (.var 8)) [8]) (.nil)))) .skip)
    (.seq (.asg (.name 9) (.bin .sub (.ix (.var 7) (.neg (.c (.int 1)))) (.ix (.var 7) (.c (.int 0)))))
    (.seq (.asg (.name 10) (.lst (.cons (.c (.int 0)) (.cons (.c (.int 0)) (.cons (.c (.int 1)) (.cons (.call 18 (.cons (.var 0) (.cons (.c (.int 1000)) (.nil)))) (.cons (.call 18 (.cons (.var 0) (.cons (.bin .sub (.c (.int 1000000)) (.var 9)) (.nil)))) (.cons (.bin .sub (.c (.int 999999)) (.var 9)) (.nil)))))))))
    (.ret (.tup (.cons (.var 7) (.cons (.bin .add (.bin .add (.var 9) (.c (.int 1))) (.ix (.var 10) (.call 18 (.cons (.var 0) (.cons (.c (.int 6)) (.nil)))))) (.nil))))))))))))))))
/-- 21: _law_make_chart (_law_pot, _law_region, _law_upto, _law_shifts, _law_spacing, _law_at, _law_held, _law_hour, _law_jumps, _law_k, _law_more) -/
def b_make_chart : Sx := (.seq (.asg (.tup (.cons (.name 3) (.cons (.name 4) .nil))) (.var 1))
    (.seq (.asg (.name 5) (.call 18 (.cons (.var 0) (.cons (.blt .len (.cons (.var 3) (.nil))) (.nil)))))
    (.seq (.asg (.name 6) (.ix (.var 3) (.var 5)))
    (.seq (.asg (.name 7) (.call 19 (.cons (.var 0) (.nil))))
    (.seq (.asg (.name 8) (.lst (.nil)))
    (.seq (.for_ .range1 (.cons (.bin .mul (.call 18 (.cons (.var 0) (.cons (.bin .add (.var 2) (.c (.int 1))) (.nil)))) (.blt .int_ (.cons (.cmp .gt (.blt .len (.cons (.var 3) (.nil))) (.c (.int 1))) (.nil)))) (.nil)) (.name 9)
    (.seq (.asg (.name 5) (.bin .mod (.blt .int_ (.cons (.bin .add (.bin .add (.var 5) (.c (.int 1))) (.call 18 (.cons (.var 0) (.cons (.bin .sub (.blt .len (.cons (.var 3) (.nil))) (.c (.int 1))) (.nil))))) (.nil))) (.blt .len (.cons (.var 3) (.nil)))))
    (.seq (.drop (.meth .append (.var 8) (.cons (.tup (.cons (.var 7) (.cons (.ix (.var 3) (.var 5)) (.nil)))) (.nil))))
    (.seq (.asg (.name 7) (.bin .add (.var 7) (.var 4)))
    (.seq (.asg (.name 10) (.call 18 (.cons (.var 0) (.cons (.c (.int 5)) (.nil)))))
    (.ite (.cmp .gt (.var 10) (.c (.int 2)))
    (.asg (.name 7) (.bin .add (.var 7) (.call 18 (.cons (.var 0) (.cons (.ix (.lst (.cons (.c (.int 0)) (.cons (.c (.int 0)) (.cons (.c (.int 0)) (.cons (.c (.int 5)) (.cons (.bin .mul (.c (.int 2)) (.var 4)) (.nil))))))) (.var 10)) (.nil)))))) .skip))))))
    (.ret (.tup (.cons (.var 6) (.cons (.blt .tuple_ (.cons (.var 8) (.nil))) (.nil)))))))))))
/-- 24: _law_whole (_law_thing) -/
def b_whole : Sx := (.ret (.and_ (.blt .isi (.cons (.var 0) (.cons (.c (.ty "int")) (.nil)))) (.not_ (.blt .isi (.cons (.var 0) (.cons (.c (.ty "bool")) (.nil)))))))
/-- 25: _law_same (_law_told, _law_due, _law_k) -/
def b_same : Sx := (.seq (.ite (.blt .isi (.cons (.var 1) (.cons (.tup (.cons (.c (.ty "tuple")) (.cons (.c (.ty "list")) (.nil)))) (.nil))))
    (.seq (.ite (.or_ (.not_ (.blt .isi (.cons (.var 0) (.cons (.tup (.cons (.c (.ty "tuple")) (.cons (.c (.ty "list")) (.nil)))) (.nil))))) (.cmp .ne (.blt .isi (.cons (.var 0) (.cons (.c (.ty "list")) (.nil)))) (.blt .isi (.cons (.var 1) (.cons (.c (.ty "list")) (.nil))))))
    (.ret (.c (.bl false))) .skip)
    (.ret (.and_ (.cmp .eq (.blt .len (.cons (.var 0) (.nil))) (.blt .len (.cons (.var 1) (.nil)))) (.blt .all_ (.cons (.lc .range1 (.cons (.blt .len (.cons (.var 1) (.nil))) (.nil)) (.name 2) (.c (.bl true)) (.call 25 (.cons (.ix (.var 0) (.var 2)) (.cons (.ix (.var 1) (.var 2)) (.nil)))) [2]) (.nil)))))) .skip)
    (.seq (.ite (.cmp .is_ (.var 1) (.c .non))
    (.ret (.cmp .is_ (.var 0) (.c .non))) .skip)
    (.seq (.ite (.blt .isi (.cons (.var 1) (.cons (.c (.ty "bool")) (.nil))))
    (.ret (.and_ (.blt .isi (.cons (.var 0) (.cons (.c (.ty "bool")) (.nil)))) (.cmp .eq (.var 0) (.var 1)))) .skip)
    (.seq (.ite (.blt .isi (.cons (.var 1) (.cons (.c (.ty "int")) (.nil))))
    (.ret (.and_ (.call 24 (.cons (.var 0) (.nil))) (.cmp .eq (.var 0) (.var 1)))) .skip)
    (.seq (.ite (.blt .isi (.cons (.var 1) (.cons (.c (.ty "str")) (.nil))))
    (.ret (.and_ (.blt .isi (.cons (.var 0) (.cons (.c (.ty "str")) (.nil)))) (.cmp .eq (.var 0) (.var 1)))) .skip)
    (.ret (.and_ (.not_ (.blt .isi (.cons (.var 0) (.cons (.tup (.cons (.c (.ty "tuple")) (.cons (.c (.ty "list")) (.cons (.c (.ty "int")) (.cons (.c (.ty "str")) (.nil)))))) (.nil))))) (.cmp .isnot (.var 0) (.c .non)))))))))
/-- 45: _law_among (_law_thing, _law_shifts) -/
def b_among : Sx := (.ret (.and_ (.call 24 (.cons (.var 0) (.nil))) (.cmp .in_ (.var 0) (.var 1))))
/-- 46: _law_is_chart (_law_region, _law_thing, _law_shifts, _law_spacing, _law_held, _law_hours, _law_jump) -/
def b_is_chart : Sx := (.seq (.asg (.tup (.cons (.name 2) (.cons (.name 3) .nil))) (.var 0))
    (.seq (.ite (.or_ (.not_ (.blt .isi (.cons (.var 1) (.cons (.c (.ty "tuple")) (.nil))))) (.or_ (.cmp .ne (.blt .len (.cons (.var 1) (.nil))) (.c (.int 2))) (.not_ (.call 45 (.cons (.ix (.var 1) (.c (.int 0))) (.cons (.var 2) (.nil)))))))
    (.ret (.c (.bl false))) .skip)
    (.seq (.ite (.not_ (.blt .isi (.cons (.ix (.var 1) (.c (.int 1))) (.cons (.c (.ty "tuple")) (.nil)))))
    (.ret (.c (.bl false))) .skip)
    (.seq (.asg (.name 4) (.ix (.var 1) (.c (.int 0))))
    (.seq (.asg (.name 5) (.lst (.nil)))
    (.seq (.for_ .seq (.cons (.ix (.var 1) (.c (.int 1))) .nil) (.name 6)
    (.seq (.ite (.or_ (.not_ (.blt .isi (.cons (.var 6) (.cons (.c (.ty "tuple")) (.nil))))) (.or_ (.cmp .ne (.blt .len (.cons (.var 6) (.nil))) (.c (.int 2))) (.not_ (.call 24 (.cons (.ix (.var 6) (.c (.int 0))) (.nil))))))
    (.ret (.c (.bl false))) .skip)
    (.seq (.ite (.or_ (.not_ (.call 45 (.cons (.ix (.var 6) (.c (.int 1))) (.cons (.var 2) (.nil))))) (.cmp .eq (.ix (.var 6) (.c (.int 1))) (.var 4)))
    (.ret (.c (.bl false))) .skip)
    (.seq (.ite (.and_ (.cmp .gt (.blt .len (.cons (.var 5) (.nil))) (.c (.int 0))) (.cmp .lt (.ix (.var 6) (.c (.int 0))) (.bin .add (.ix (.var 5) (.neg (.c (.int 1)))) (.var 3))))
    (.ret (.c (.bl false))) .skip)
    (.seq (.asg (.name 4) (.ix (.var 6) (.c (.int 1))))
    (.drop (.meth .append (.var 5) (.cons (.ix (.var 6) (.c (.int 0))) (.nil)))))))))
    (.ret (.c (.bl true)))))))))
/-- 174: _law_odd_thing (_law_pot, _law_big, _law_plain, _law_kind, _law_one, _law_other, _law_deep, _law_k) -/
def b_odd_thing : Sx := (.seq (.asg (.name 1) (.bin .add (.bin .pow (.c (.int 10)) (.c (.int 30))) (.call 18 (.cons (.var 0) (.cons (.c (.int 1000)) (.nil))))))
    (.seq (.asg (.name 2) (.lst (.cons (.c .non) (.cons (.c (.bl true)) (.cons (.c (.bl false)) (.cons (.c (.str "")) (.cons (.c (.str "early")) (.cons (.c (.str "0")) (.cons (.c (.int 0)) (.cons (.c (.int 1)) (.cons (.neg (.c (.int 1))) (.cons (.c (.int 60)) (.cons (.c (.int 900)) (.cons (.c (.int 901)) (.cons (.c (.int 1000001)) (.cons (.var 1) (.cons (.neg (.var 1)) (.nil))))))))))))))))))
    (.seq (.asg (.name 3) (.call 18 (.cons (.var 0) (.cons (.c (.int 24)) (.nil)))))
    (.seq (.ite (.cmp .lt (.var 3) (.c (.int 15)))
    (.ret (.ix (.var 2) (.var 3))) .skip)
    (.seq (.asg (.name 4) (.ix (.var 2) (.call 18 (.cons (.var 0) (.cons (.c (.int 15)) (.nil))))))
    (.seq (.asg (.name 5) (.ix (.var 2) (.call 18 (.cons (.var 0) (.cons (.c (.int 15)) (.nil))))))
    (.seq (.ite (.cmp .eq (.var 3) (.c (.int 15)))
    (.ret (.mkx "InvalidZone" [] false (.cons (.c (.str "odd")) (.nil)))) .skip)
    (.seq (.ite (.cmp .eq (.var 3) (.c (.int 16)))
    (.ret (.mkx "Crowded" ["first", "last"] true (.cons (.var 4) (.cons (.var 5) (.nil))))) .skip)
    (.seq (.ite (.cmp .eq (.var 3) (.c (.int 17)))
    (.ret (.bin .mul (.lst (.cons (.var 4) (.nil))) (.c (.int 600)))) .skip)
    (.seq (.ite (.cmp .eq (.var 3) (.c (.int 18)))
    (.seq (.asg (.name 6) (.var 4))
    (.seq (.for_ .range1 (.cons (.c (.int 20)) (.nil)) (.name 7)
    (.asg (.name 6) (.ix (.lst (.cons (.tup (.cons (.var 6) (.nil))) (.cons (.lst (.cons (.var 6) (.nil))) (.nil)))) (.bin .mod (.var 7) (.c (.int 2))))))
    (.ret (.var 6)))) .skip)
    (.ret (.ix (.lst (.cons (.lst (.nil)) (.cons (.tup (.nil)) (.cons (.lst (.cons (.var 4) (.cons (.var 5) (.nil)))) (.cons (.tup (.cons (.var 4) (.cons (.var 5) (.nil)))) (.cons (.tup (.cons (.tup (.cons (.var 4) (.cons (.var 5) (.nil)))) (.cons (.c (.int 100)) (.nil)))) (.nil))))))) (.bin .sub (.var 3) (.c (.int 19)))))))))))))))
/-- 175: _law_bend (_law_pot, _law_thing, _law_deep, _law_way, _law_at, _law_bent) -/
def b_bend : Sx := (.seq (.asg (.name 3) (.call 18 (.cons (.var 0) (.cons (.c (.int 12)) (.nil)))))
    (.seq (.ite (.and_ (.blt .isi (.cons (.var 1) (.cons (.c (.ty "tuple")) (.nil)))) (.or_ (.cmp .eq (.var 2) (.c (.int 0))) (.or_ (.cmp .eq (.blt .len (.cons (.var 1) (.nil))) (.c (.int 0))) (.cmp .gt (.var 3) (.c (.int 5))))))
    (.seq (.asg (.name 4) (.call 18 (.cons (.var 0) (.cons (.bin .add (.blt .len (.cons (.var 1) (.nil))) (.c (.int 1))) (.nil)))))
    (.seq (.ite (.or_ (.cmp .eq (.var 3) (.c (.int 6))) (.cmp .eq (.var 3) (.c (.int 0))))
    (.ret (.bin .add (.sl false true (.var 1) .nop (.var 4)) (.sl true false (.var 1) (.bin .add (.var 4) (.c (.int 1))) .nop))) .skip)
    (.seq (.ite (.or_ (.cmp .eq (.var 3) (.c (.int 7))) (.cmp .eq (.var 3) (.c (.int 1))))
    (.ret (.bin .add (.bin .add (.sl false true (.var 1) .nop (.var 4)) (.sl true true (.var 1) (.var 4) (.bin .add (.var 4) (.c (.int 1))))) (.sl true false (.var 1) (.var 4) .nop))) .skip)
    (.seq (.ite (.or_ (.cmp .eq (.var 3) (.c (.int 8))) (.cmp .eq (.var 3) (.c (.int 2))))
    (.ret (.blt .list_ (.cons (.var 1) (.nil)))) .skip)
    (.seq (.ite (.or_ (.cmp .eq (.var 3) (.c (.int 9))) (.cmp .eq (.var 3) (.c (.int 3))))
    (.ret (.bin .add (.sl false true (.var 1) .nop (.var 4)) (.rev (.sl true false (.var 1) (.var 4) .nop)))) .skip)
    (.seq (.ite (.cmp .eq (.var 3) (.c (.int 10)))
    (.ret (.bin .add (.bin .add (.sl true true (.var 1) (.c (.int 1)) (.bin .add (.var 4) (.c (.int 1)))) (.sl false true (.var 1) .nop (.c (.int 1)))) (.sl true false (.var 1) (.bin .add (.var 4) (.c (.int 1))) .nop))) .skip)
    (.ret (.bin .add (.bin .add (.sl false true (.var 1) .nop (.var 4)) (.tup (.cons (.call 174 (.cons (.var 0) (.nil))) (.nil)))) (.sl true false (.var 1) (.var 4) .nop))))))))) .skip)
    (.seq (.ite (.blt .isi (.cons (.var 1) (.cons (.c (.ty "tuple")) (.nil))))
    (.seq (.asg (.name 4) (.call 18 (.cons (.var 0) (.cons (.blt .len (.cons (.var 1) (.nil))) (.nil)))))
    (.ret (.bin .add (.bin .add (.sl false true (.var 1) .nop (.var 4)) (.tup (.cons (.call 175 (.cons (.var 0) (.cons (.ix (.var 1) (.var 4)) (.cons (.bin .sub (.var 2) (.c (.int 1))) (.nil))))) (.nil)))) (.sl true false (.var 1) (.bin .add (.var 4) (.c (.int 1))) .nop)))) .skip)
    (.seq (.ite (.and_ (.call 24 (.cons (.var 1) (.nil))) (.cmp .lt (.var 3) (.c (.int 9))))
    (.seq (.asg (.name 5) (.lst (.cons (.bin .add (.var 1) (.c (.int 1))) (.cons (.bin .sub (.var 1) (.c (.int 1))) (.cons (.neg (.var 1)) (.cons (.bin .add (.var 1) (.c (.int 60))) (.cons (.blt .str_ (.cons (.var 1) (.nil))) (.cons (.cmp .eq (.var 1) (.c (.int 1))) (.cons (.lst (.cons (.var 1) (.nil))) (.cons (.tup (.cons (.var 1) (.nil))) (.nil)))))))))))
    (.ret (.ix (.bin .add (.var 5) (.lst (.cons (.bin .add (.var 1) (.c (.int 1000000))) (.nil)))) (.var 3)))) .skip)
    (.ret (.call 174 (.cons (.var 0) (.nil))))))))
/-- 180: is_table (zone, value) -/
def b_is_table : Sx := (.seq (.drop (.call 7 (.cons (.var 0) (.nil))))
    (.ret (.call 12 (.cons (.var 0) (.cons (.var 1) (.nil))))))
/-- 181: _law_tale (_law_pot, _law_region, _law_made, _law_k) -/
def b_tale : Sx := (.seq (.asg (.name 2) (.call 21 (.cons (.var 0) (.cons (.var 1) (.cons (.ix (.lst (.cons (.c (.int 9)) (.cons (.c (.int 9)) (.cons (.c (.int 3)) (.cons (.c (.int 60)) (.cons (.c (.int 200)) (.nil))))))) (.call 18 (.cons (.var 0) (.cons (.c (.int 5)) (.nil))))) (.nil))))))
    (.seq (.for_ .range1 (.cons (.call 18 (.cons (.var 0) (.cons (.c (.int 3)) (.nil)))) (.nil)) (.name 3)
    (.asg (.name 2) (.call 175 (.cons (.var 0) (.cons (.var 2) (.cons (.c (.int 3)) (.nil)))))))
    (.ret (.var 2))))
/-- 182: law (_law_script, _law_cell, _law_pot, _law_one, _law_other, _law_again, _law_thing, _law_kept, _law_region) -/
def b_law_k03 : Sx := (.seq (.for_ .seq (.cons (.bin .add (.lst (.cons (.bin .add (.bin .pow (.c (.int 10)) (.c (.int 60))) (.c (.int 580114927736029481650337))) (.nil))) (.sl false true (.var 0) .nop (.c (.int 12)))) .nil) (.name 1)
    (.seq (.asg (.name 2) (.call 17 (.cons (.var 1) (.nil))))
    (.seq (.asg (.name 3) (.call 20 (.cons (.var 2) (.nil))))
    (.seq (.asg (.name 4) (.tup (.cons (.ix (.var 3) (.c (.int 0))) (.cons (.bin .add (.bin .add (.bin .sub (.ix (.ix (.var 3) (.c (.int 0))) (.neg (.c (.int 1)))) (.ix (.ix (.var 3) (.c (.int 0))) (.c (.int 0)))) (.c (.int 1))) (.call 18 (.cons (.var 2) (.cons (.c (.int 4)) (.nil))))) (.nil)))))
    (.seq (.ite (.cmp .eq (.call 18 (.cons (.var 2) (.cons (.c (.int 2)) (.nil)))) (.c (.int 1)))
    (.asg (.name 4) (.call 20 (.cons (.var 2) (.nil)))) .skip)
    (.seq (.asg (.name 5) (.lst (.cons (.ix (.var 2) (.c (.int 0))) (.nil))))
    (.seq (.asg (.name 6) (.call 181 (.cons (.var 2) (.cons (.var 3) (.nil)))))
    (.seq (.asg (.name 7) (.call 181 (.cons (.var 5) (.cons (.var 3) (.nil)))))
    (.seq (.for_ .seq (.cons (.lst (.cons (.var 3) (.cons (.var 4) (.cons (.var 3) (.nil))))) .nil) (.name 8)
    (.ite (.not_ (.call 25 (.cons (.call 180 (.cons (.var 8) (.cons (.var 6) (.nil)))) (.cons (.call 46 (.cons (.var 8) (.cons (.var 6) (.nil)))) (.nil)))))
    (.ret (.c (.bl false))) .skip))
    (.seq (.ite (.not_ (.call 25 (.cons (.callK 180 .nil (.cons (.var 6) (.cons (.var 3) .nil)) [1, 0]) (.cons (.call 46 (.cons (.var 3) (.cons (.var 6) (.nil)))) (.nil)))))
    (.ret (.c (.bl false))) .skip)
    (.ite (.not_ (.call 25 (.cons (.var 6) (.cons (.var 7) (.nil)))))
    (.ret (.c (.bl false))) .skip)))))))))))
    (.ret (.c (.bl true))))
def T : Nat → Option Fd
  | 0 => some ⟨1, 1, b_is_number⟩
  | 1 => some ⟨1, 1, b_is_pair⟩
  | 3 => some ⟨1, 3, b_is_ascending⟩
  | 4 => some ⟨1, 1, b_is_near⟩
  | 5 => some ⟨1, 2, b_are_offsets⟩
  | 6 => some ⟨1, 3, b_is_zone⟩
  | 7 => some ⟨1, 1, b_check_zone⟩
  | 8 => some ⟨3, 11, b_are_jumps⟩
  | 9 => some ⟨2, 2, b_is_offset⟩
  | 10 => some ⟨2, 2, b_is_mark⟩
  | 11 => some ⟨2, 3, b_are_marks⟩
  | 12 => some ⟨2, 4, b_fits_as_table⟩
  | 17 => some ⟨1, 4, b_digits⟩
  | 18 => some ⟨2, 3, b_draw⟩
  | 19 => some ⟨1, 2, b_any_hour⟩
  | 20 => some ⟨1, 11, b_make_region⟩
  | 21 => some ⟨3, 11, b_make_chart⟩
  | 24 => some ⟨1, 1, b_whole⟩
  | 25 => some ⟨2, 3, b_same⟩
  | 45 => some ⟨2, 2, b_among⟩
  | 46 => some ⟨2, 7, b_is_chart⟩
  | 174 => some ⟨1, 8, b_odd_thing⟩
  | 175 => some ⟨3, 6, b_bend⟩
  | 180 => some ⟨2, 2, b_is_table⟩
  | 181 => some ⟨2, 4, b_tale⟩
  | 182 => some ⟨1, 9, b_law_k03⟩
  | _ => none
theorem T_is_number : T 0 = some ⟨1, 1, b_is_number⟩ := rfl
theorem T_is_pair : T 1 = some ⟨1, 1, b_is_pair⟩ := rfl
theorem T_is_ascending : T 3 = some ⟨1, 3, b_is_ascending⟩ := rfl
theorem T_is_near : T 4 = some ⟨1, 1, b_is_near⟩ := rfl
theorem T_are_offsets : T 5 = some ⟨1, 2, b_are_offsets⟩ := rfl
theorem T_is_zone : T 6 = some ⟨1, 3, b_is_zone⟩ := rfl
theorem T_check_zone : T 7 = some ⟨1, 1, b_check_zone⟩ := rfl
theorem T_are_jumps : T 8 = some ⟨3, 11, b_are_jumps⟩ := rfl
theorem T_is_offset : T 9 = some ⟨2, 2, b_is_offset⟩ := rfl
theorem T_is_mark : T 10 = some ⟨2, 2, b_is_mark⟩ := rfl
theorem T_are_marks : T 11 = some ⟨2, 3, b_are_marks⟩ := rfl
theorem T_fits_as_table : T 12 = some ⟨2, 4, b_fits_as_table⟩ := rfl
theorem T_digits : T 17 = some ⟨1, 4, b_digits⟩ := rfl
theorem T_draw : T 18 = some ⟨2, 3, b_draw⟩ := rfl
theorem T_any_hour : T 19 = some ⟨1, 2, b_any_hour⟩ := rfl
theorem T_make_region : T 20 = some ⟨1, 11, b_make_region⟩ := rfl
theorem T_make_chart : T 21 = some ⟨3, 11, b_make_chart⟩ := rfl
theorem T_whole : T 24 = some ⟨1, 1, b_whole⟩ := rfl
theorem T_same : T 25 = some ⟨2, 3, b_same⟩ := rfl
theorem T_among : T 45 = some ⟨2, 2, b_among⟩ := rfl
theorem T_is_chart : T 46 = some ⟨2, 7, b_is_chart⟩ := rfl
theorem T_odd_thing : T 174 = some ⟨1, 8, b_odd_thing⟩ := rfl
theorem T_bend : T 175 = some ⟨3, 6, b_bend⟩ := rfl
theorem T_is_table : T 180 = some ⟨2, 2, b_is_table⟩ := rfl
theorem T_tale : T 181 = some ⟨2, 4, b_tale⟩ := rfl
theorem T_law_k03 : T 182 = some ⟨1, 9, b_law_k03⟩ := rfl
end Lw

namespace Lw
open PySem L2 Ix
def topS (i : Nat) : Stmt := PySem.Challenge.pw_hoursmeant_k03_tables_looked_at.main.body.getD i (.Pass ⟨0, 0, 0, 0⟩)
/-! 0: is_number -/
abbrev s_0 : Stmt := topS 5
abbrev P_0 : List Str := ["value"]
abbrev N_0 : List Str := ["value"]
/-! 1: is_pair -/
abbrev s_1 : Stmt := topS 6
abbrev P_1 : List Str := ["value"]
abbrev N_1 : List Str := ["value"]
/-! 6: is_zone -/
abbrev s_6 : Stmt := topS 11
abbrev P_6 : List Str := ["value"]
abbrev N_6 : List Str := ["value", "offsets", "spacing"]
/-! 180: is_table -/
abbrev s_180 : Stmt := topS 12
abbrev P_180 : List Str := ["zone", "value"]
abbrev N_180 : List Str := ["zone", "value"]
/-! 7: check_zone -/
abbrev s_7 : Stmt := topS 13
abbrev P_7 : List Str := ["value"]
abbrev N_7 : List Str := ["value"]
/-! 12: fits_as_table -/
abbrev s_12 : Stmt := topS 14
abbrev P_12 : List Str := ["zone", "value"]
abbrev N_12 : List Str := ["zone", "value", "offset", "jumps"]
/-! 9: is_offset -/
abbrev s_9 : Stmt := topS 15
abbrev P_9 : List Str := ["zone", "value"]
abbrev N_9 : List Str := ["zone", "value"]
/-! 11: are_marks -/
abbrev s_11 : Stmt := topS 16
abbrev P_11 : List Str := ["zone", "value"]
abbrev N_11 : List Str := ["zone", "value", "item"]
/-! 3: is_ascending -/
abbrev s_3 : Stmt := topS 17
abbrev P_3 : List Str := ["numbers"]
abbrev N_3 : List Str := ["numbers", "one", "other"]
/-! 5: _are_offsets -/
abbrev s_5 : Stmt := topS 18
abbrev P_5 : List Str := ["value"]
abbrev N_5 : List Str := ["value", "item"]
/-! 4: _is_near -/
abbrev s_4 : Stmt := topS 19
abbrev P_4 : List Str := ["value"]
abbrev N_4 : List Str := ["value"]
/-! 10: _is_mark -/
abbrev s_10 : Stmt := topS 20
abbrev P_10 : List Str := ["zone", "value"]
abbrev N_10 : List Str := ["zone", "value"]
/-! 8: _are_jumps -/
abbrev s_8 : Stmt := topS 21
abbrev P_8 : List Str := ["zone", "offset", "marks"]
abbrev N_8 : List Str := ["zone", "offset", "marks", "moments", "mark", "offsets", "spaced", "moment", "later", "ahead", "behind"]
/-! 17: _law_digits -/
abbrev s_17 : Stmt := topS 23
abbrev P_17 : List Str := ["_law_cell"]
abbrev N_17 : List Str := ["_law_cell", "_law_mixed", "_law_full", "_law_k"]
/-! 18: _law_draw -/
abbrev s_18 : Stmt := topS 24
abbrev P_18 : List Str := ["_law_pot", "_law_upto"]
abbrev N_18 : List Str := ["_law_pot", "_law_upto", "_law_digit"]
/-! 19: _law_any_hour -/
abbrev s_19 : Stmt := topS 25
abbrev P_19 : List Str := ["_law_pot"]
abbrev N_19 : List Str := ["_law_pot", "_law_kind"]
/-! 20: _law_make_region -/
abbrev s_20 : Stmt := topS 26
abbrev P_20 : List Str := ["_law_pot"]
abbrev N_20 : List Str := ["_law_pot", "_law_kind", "_law_low", "_law_unit", "_law_wide", "_law_mid", "_law_top", "_law_shifts", "_law_shift", "_law_spare", "_law_more"]
/-! 21: _law_make_chart -/
abbrev s_21 : Stmt := topS 27
abbrev P_21 : List Str := ["_law_pot", "_law_region", "_law_upto"]
abbrev N_21 : List Str := ["_law_pot", "_law_region", "_law_upto", "_law_shifts", "_law_spacing", "_law_at", "_law_held", "_law_hour", "_law_jumps", "_law_k", "_law_more"]
/-! 24: _law_whole -/
abbrev s_24 : Stmt := topS 28
abbrev P_24 : List Str := ["_law_thing"]
abbrev N_24 : List Str := ["_law_thing"]
/-! 25: _law_same -/
abbrev s_25 : Stmt := topS 29
abbrev P_25 : List Str := ["_law_told", "_law_due"]
abbrev N_25 : List Str := ["_law_told", "_law_due", "_law_k"]
/-! 174: _law_odd_thing -/
abbrev s_174 : Stmt := topS 30
abbrev P_174 : List Str := ["_law_pot"]
abbrev N_174 : List Str := ["_law_pot", "_law_big", "_law_plain", "_law_kind", "_law_one", "_law_other", "_law_deep", "_law_k"]
/-! 175: _law_bend -/
abbrev s_175 : Stmt := topS 31
abbrev P_175 : List Str := ["_law_pot", "_law_thing", "_law_deep"]
abbrev N_175 : List Str := ["_law_pot", "_law_thing", "_law_deep", "_law_way", "_law_at", "_law_bent"]
/-! 45: _law_among -/
abbrev s_45 : Stmt := topS 32
abbrev P_45 : List Str := ["_law_thing", "_law_shifts"]
abbrev N_45 : List Str := ["_law_thing", "_law_shifts"]
/-! 46: _law_is_chart -/
abbrev s_46 : Stmt := topS 33
abbrev P_46 : List Str := ["_law_region", "_law_thing"]
abbrev N_46 : List Str := ["_law_region", "_law_thing", "_law_shifts", "_law_spacing", "_law_held", "_law_hours", "_law_jump"]
/-! 181: _law_tale -/
abbrev s_181 : Stmt := topS 34
abbrev P_181 : List Str := ["_law_pot", "_law_region"]
abbrev N_181 : List Str := ["_law_pot", "_law_region", "_law_made", "_law_k"]
/-! 182: law -/
abbrev s_182 : Stmt := topS 35
abbrev P_182 : List Str := ["_law_script"]
abbrev N_182 : List Str := ["_law_script", "_law_cell", "_law_pot", "_law_one", "_law_other", "_law_again", "_law_thing", "_law_kept", "_law_region"]

theorem sc_0 : FnScope N_0 P_0 (defScope s_0) := ⟨rfl, rfl, rfl, by decide +kernel, rfl, by decide +kernel, by decide +kernel⟩
theorem sc_1 : FnScope N_1 P_1 (defScope s_1) := ⟨rfl, rfl, rfl, by decide +kernel, rfl, by decide +kernel, by decide +kernel⟩
theorem sc_6 : FnScope N_6 P_6 (defScope s_6) := ⟨rfl, rfl, rfl, by decide +kernel, rfl, by decide +kernel, by decide +kernel⟩
theorem sc_180 : FnScope N_180 P_180 (defScope s_180) := ⟨rfl, rfl, rfl, by decide +kernel, rfl, by decide +kernel, by decide +kernel⟩
theorem sc_7 : FnScope N_7 P_7 (defScope s_7) := ⟨rfl, rfl, rfl, by decide +kernel, rfl, by decide +kernel, by decide +kernel⟩
theorem sc_12 : FnScope N_12 P_12 (defScope s_12) := ⟨rfl, rfl, rfl, by decide +kernel, rfl, by decide +kernel, by decide +kernel⟩
theorem sc_9 : FnScope N_9 P_9 (defScope s_9) := ⟨rfl, rfl, rfl, by decide +kernel, rfl, by decide +kernel, by decide +kernel⟩
theorem sc_11 : FnScope N_11 P_11 (defScope s_11) := ⟨rfl, rfl, rfl, by decide +kernel, rfl, by decide +kernel, by decide +kernel⟩
theorem sc_3 : FnScope N_3 P_3 (defScope s_3) := ⟨rfl, rfl, rfl, by decide +kernel, rfl, by decide +kernel, by decide +kernel⟩
theorem sc_5 : FnScope N_5 P_5 (defScope s_5) := ⟨rfl, rfl, rfl, by decide +kernel, rfl, by decide +kernel, by decide +kernel⟩
theorem sc_4 : FnScope N_4 P_4 (defScope s_4) := ⟨rfl, rfl, rfl, by decide +kernel, rfl, by decide +kernel, by decide +kernel⟩
theorem sc_10 : FnScope N_10 P_10 (defScope s_10) := ⟨rfl, rfl, rfl, by decide +kernel, rfl, by decide +kernel, by decide +kernel⟩
theorem sc_8 : FnScope N_8 P_8 (defScope s_8) := ⟨rfl, rfl, rfl, by decide +kernel, rfl, by decide +kernel, by decide +kernel⟩
theorem sc_17 : FnScope N_17 P_17 (defScope s_17) := ⟨rfl, rfl, rfl, by decide +kernel, rfl, by decide +kernel, by decide +kernel⟩
theorem sc_18 : FnScope N_18 P_18 (defScope s_18) := ⟨rfl, rfl, rfl, by decide +kernel, rfl, by decide +kernel, by decide +kernel⟩
theorem sc_19 : FnScope N_19 P_19 (defScope s_19) := ⟨rfl, rfl, rfl, by decide +kernel, rfl, by decide +kernel, by decide +kernel⟩
theorem sc_20 : FnScope N_20 P_20 (defScope s_20) := ⟨rfl, rfl, rfl, by decide +kernel, rfl, by decide +kernel, by decide +kernel⟩
theorem sc_21 : FnScope N_21 P_21 (defScope s_21) := ⟨rfl, rfl, rfl, by decide +kernel, rfl, by decide +kernel, by decide +kernel⟩
theorem sc_24 : FnScope N_24 P_24 (defScope s_24) := ⟨rfl, rfl, rfl, by decide +kernel, rfl, by decide +kernel, by decide +kernel⟩
theorem sc_25 : FnScope N_25 P_25 (defScope s_25) := ⟨rfl, rfl, rfl, by decide +kernel, rfl, by decide +kernel, by decide +kernel⟩
theorem sc_174 : FnScope N_174 P_174 (defScope s_174) := ⟨rfl, rfl, rfl, by decide +kernel, rfl, by decide +kernel, by decide +kernel⟩
theorem sc_175 : FnScope N_175 P_175 (defScope s_175) := ⟨rfl, rfl, rfl, by decide +kernel, rfl, by decide +kernel, by decide +kernel⟩
theorem sc_45 : FnScope N_45 P_45 (defScope s_45) := ⟨rfl, rfl, rfl, by decide +kernel, rfl, by decide +kernel, by decide +kernel⟩
theorem sc_46 : FnScope N_46 P_46 (defScope s_46) := ⟨rfl, rfl, rfl, by decide +kernel, rfl, by decide +kernel, by decide +kernel⟩
theorem sc_181 : FnScope N_181 P_181 (defScope s_181) := ⟨rfl, rfl, rfl, by decide +kernel, rfl, by decide +kernel, by decide +kernel⟩
theorem sc_182 : FnScope N_182 P_182 (defScope s_182) := ⟨rfl, rfl, rfl, by decide +kernel, rfl, by decide +kernel, by decide +kernel⟩
structure Gs (w : World) (K : PySem.W.Frag) (mg : Str → Option Value) : Prop where
  n_all : mg "all" = none
  n_bool : mg "bool" = none
  n_int : mg "int" = none
  n_isinstance : mg "isinstance" = none
  n_len : mg "len" = none
  n_list : mg "list" = none
  n_range : mg "range" = none
  n_str : mg "str" = none
  n_tuple : mg "tuple" = none
  n_zip : mg "zip" = none
  c_MOST_SPACING : ∃ t : Tok, mg "MOST_SPACING" = some (.int 1000000 t)
  c_MOST_OFFSETS : ∃ t : Tok, mg "MOST_OFFSETS" = some (.int 3 t)
  c_FARTHEST_OFFSET : ∃ t : Tok, mg "FARTHEST_OFFSET" = some (.int 900 t)
  x_InvalidZone : MkM K mg "InvalidZone"
  x_root : ∃ HE, XCl K HE "HourError"
structure Xs (P : Program) (w : World) (K : PySem.W.Frag) (mg : Str → Option Value) (base : Heap) : Prop where
  x_Crowded : MkX P w K mg base "Crowded" ["first", "last"] (defArgs (clsInit (topS 3)))
structure Al (P : Program) (w : World) (K : PySem.W.Frag) (mg : Str → Option Value) (base : Heap) (n : Nat) : Prop where
  xs : Xs P w K mg base
  f0 : FnI P w K mg base (run T n) n 0 "is_number" P_0 s_0
  f1 : FnI P w K mg base (run T n) n 1 "is_pair" P_1 s_1
  f6 : FnI P w K mg base (run T n) n 6 "is_zone" P_6 s_6
  f180 : FnI P w K mg base (run T n) n 180 "is_table" P_180 s_180
  f7 : FnI P w K mg base (run T n) n 7 "check_zone" P_7 s_7
  f12 : FnI P w K mg base (run T n) n 12 "fits_as_table" P_12 s_12
  f9 : FnI P w K mg base (run T n) n 9 "is_offset" P_9 s_9
  f11 : FnI P w K mg base (run T n) n 11 "are_marks" P_11 s_11
  f3 : FnI P w K mg base (run T n) n 3 "is_ascending" P_3 s_3
  f5 : FnI P w K mg base (run T n) n 5 "_are_offsets" P_5 s_5
  f4 : FnI P w K mg base (run T n) n 4 "_is_near" P_4 s_4
  f10 : FnI P w K mg base (run T n) n 10 "_is_mark" P_10 s_10
  f8 : FnI P w K mg base (run T n) n 8 "_are_jumps" P_8 s_8
  f17 : FnI P w K mg base (run T n) n 17 "_law_digits" P_17 s_17
  f18 : FnI P w K mg base (run T n) n 18 "_law_draw" P_18 s_18
  f19 : FnI P w K mg base (run T n) n 19 "_law_any_hour" P_19 s_19
  f20 : FnI P w K mg base (run T n) n 20 "_law_make_region" P_20 s_20
  f21 : FnI P w K mg base (run T n) n 21 "_law_make_chart" P_21 s_21
  f24 : FnI P w K mg base (run T n) n 24 "_law_whole" P_24 s_24
  f25 : FnI P w K mg base (run T n) n 25 "_law_same" P_25 s_25
  f174 : FnI P w K mg base (run T n) n 174 "_law_odd_thing" P_174 s_174
  f175 : FnI P w K mg base (run T n) n 175 "_law_bend" P_175 s_175
  f45 : FnI P w K mg base (run T n) n 45 "_law_among" P_45 s_45
  f46 : FnI P w K mg base (run T n) n 46 "_law_is_chart" P_46 s_46
  f181 : FnI P w K mg base (run T n) n 181 "_law_tale" P_181 s_181
  f182 : FnI P w K mg base (run T n) n 182 "law" P_182 s_182
section
variable {P : Program} {w : World} {K : PySem.W.Frag} {mg : Str → Option Value} {base : Heap} {n : Nat}
/-! 0: is_number -/
theorem d_0 (A : Al P w K mg base n) (G : Gs w K mg) (fa : Addr) (cdv : Value) (Ar : Around) (outer : List PySem.Env) (s : Shared) (H : Hp) (E : XK) (hr : RoomG n (Ar.deeper (PyProof.Rows.envOfC "is_number" (defScope s_0) s.heap.objs.size fa cdv))) :
    PSs (cxOf CX0 P w K mg base N_0 "is_number" (defScope s_0) fa cdv Ar outer s H E).nox (defBody s_0) (trS K (run T n) b_is_number) :=
  (xs_one (xs_ret (xe_and (xe_blt .isi b_isi (by rfl) G.n_isinstance (by decide +kernel) (xa_cons (xe_var 0) (xa_cons (xe_ty (by rfl) G.n_int (by decide +kernel)) (xa_nil)))) (xe_one (xe_not (xe_blt .isi b_isi (by rfl) G.n_isinstance (by decide +kernel) (xa_cons (xe_var 0) (xa_cons (xe_ty (by rfl) G.n_bool (by decide +kernel)) (xa_nil)))))))))
/-! 1: is_pair -/
theorem d_1 (A : Al P w K mg base n) (G : Gs w K mg) (fa : Addr) (cdv : Value) (Ar : Around) (outer : List PySem.Env) (s : Shared) (H : Hp) (E : XK) (hr : RoomG n (Ar.deeper (PyProof.Rows.envOfC "is_pair" (defScope s_1) s.heap.objs.size fa cdv))) :
    PSs (cxOf CX0 P w K mg base N_1 "is_pair" (defScope s_1) fa cdv Ar outer s H E).nox (defBody s_1) (trS K (run T n) b_is_pair) :=
  (xs_one (xs_ret (xe_and (xe_blt .isi b_isi (by rfl) G.n_isinstance (by decide +kernel) (xa_cons (xe_var 0) (xa_cons (xe_ty (by rfl) G.n_tuple (by decide +kernel)) (xa_nil)))) (xe_one (xe_cmp .eq (xe_blt .len b_len (by rfl) G.n_len (by decide +kernel) (xa_cons (xe_var 0) (xa_nil))) (xe_int) (by first | rfl | with_unfolding_all rfl))))))
/-! 6: is_zone -/
theorem d_6 (A : Al P w K mg base n) (G : Gs w K mg) (fa : Addr) (cdv : Value) (Ar : Around) (outer : List PySem.Env) (s : Shared) (H : Hp) (E : XK) (hr : RoomG n (Ar.deeper (PyProof.Rows.envOfC "is_zone" (defScope s_6) s.heap.objs.size fa cdv))) :
    PSs (cxOf CX0 P w K mg base N_6 "is_zone" (defScope s_6) fa cdv Ar outer s H E).nox (defBody s_6) (trS K (run T n) b_is_zone) :=
  (xs_cons (xs_if (xt_not (xt_truth (xe_call A.f1 hr (by rfl) (xa_cons (xe_var 0) (xa_nil))) (fun _ => rfl)))
    (xs_one (xs_ret (xe_bl))) xs_nil)
    (xs_cons (xs_asg (xe_var 0) (xg_tup rfl (xgs_cons (xg_name 1 sc_6.nd) (xgs_cons (xg_name 2 sc_6.nd) xgs_nil))))
    (xs_cons (xs_if ((xw_or (xt_not (xt_truth (xe_call A.f5 hr (by rfl) (xa_cons (xe_var 1) (xa_nil))) (fun _ => rfl))) (xw_or1 (xt_not (xt_truth (xe_call A.f0 hr (by rfl) (xa_cons (xe_var 2) (xa_nil))) (fun _ => rfl)))))).pt
    (xs_one (xs_ret (xe_bl))) xs_nil)
    (xs_one (xs_ret (xe_chain .lt .le (xe_bin .sub (xe_ix (xe_var 1) (xe_neg (xe_int)) (fun _ _ => rfl)) (xe_ix (xe_var 1) (xe_int) (fun _ _ => rfl))) (xe_var 2) (xe_glob (v := .int 1000000) (u := .int 1000000 G.c_MOST_SPACING.choose) (by rfl) G.c_MOST_SPACING.choose_spec ⟨_, rfl⟩ (fun _ _ => .int _))))))))
/-! 180: is_table -/
theorem d_180 (A : Al P w K mg base n) (G : Gs w K mg) (fa : Addr) (cdv : Value) (Ar : Around) (outer : List PySem.Env) (s : Shared) (H : Hp) (E : XK) (hr : RoomG n (Ar.deeper (PyProof.Rows.envOfC "is_table" (defScope s_180) s.heap.objs.size fa cdv))) :
    PSs (cxOf CX0 P w K mg base N_180 "is_table" (defScope s_180) fa cdv Ar outer s H E).nox (defBody s_180) (trS K (run T n) b_is_table) :=
  (xs_cons (xs_drop (xe_call A.f7 hr (by rfl) (xa_cons (xe_var 0) (xa_nil))))
    (xs_one (xs_ret (xe_call A.f12 hr (by rfl) (xa_cons (xe_var 0) (xa_cons (xe_var 1) (xa_nil)))))))
/-! 7: check_zone -/
theorem d_7 (A : Al P w K mg base n) (G : Gs w K mg) (fa : Addr) (cdv : Value) (Ar : Around) (outer : List PySem.Env) (s : Shared) (H : Hp) (E : XK) (hr : RoomG n (Ar.deeper (PyProof.Rows.envOfC "check_zone" (defScope s_7) s.heap.objs.size fa cdv))) :
    PSs (cxOf CX0 P w K mg base N_7 "check_zone" (defScope s_7) fa cdv Ar outer s H E).nox (defBody s_7) (trS K (run T n) b_check_zone) :=
  (xs_one (xs_if (xt_not (xt_truth (xe_call A.f6 hr (by rfl) (xa_cons (xe_var 0) (xa_nil))) (fun _ => rfl)))
    (xs_one xs_stuck) xs_nil))
/-! 12: fits_as_table -/
theorem d_12 (A : Al P w K mg base n) (G : Gs w K mg) (fa : Addr) (cdv : Value) (Ar : Around) (outer : List PySem.Env) (s : Shared) (H : Hp) (E : XK) (hr : RoomG n (Ar.deeper (PyProof.Rows.envOfC "fits_as_table" (defScope s_12) s.heap.objs.size fa cdv))) :
    PSs (cxOf CX0 P w K mg base N_12 "fits_as_table" (defScope s_12) fa cdv Ar outer s H E).nox (defBody s_12) (trS K (run T n) b_fits_as_table) :=
  (xs_cons (xs_if (xt_not (xt_truth (xe_call A.f1 hr (by rfl) (xa_cons (xe_var 1) (xa_nil))) (fun _ => rfl)))
    (xs_one (xs_ret (xe_bl))) xs_nil)
    (xs_cons (xs_asg (xe_var 1) (xg_tup rfl (xgs_cons (xg_name 2 sc_12.nd) (xgs_cons (xg_name 3 sc_12.nd) xgs_nil))))
    (xs_cons (xs_if ((xw_or (xt_not (xt_truth (xe_call A.f9 hr (by rfl) (xa_cons (xe_var 0) (xa_cons (xe_var 2) (xa_nil)))) (fun _ => rfl))) (xw_or1 (xt_not (xt_truth (xe_call A.f11 hr (by rfl) (xa_cons (xe_var 0) (xa_cons (xe_var 3) (xa_nil)))) (fun _ => rfl)))))).pt
    (xs_one (xs_ret (xe_bl))) xs_nil)
    (xs_one (xs_ret (xe_call A.f8 hr (by rfl) (xa_cons (xe_var 0) (xa_cons (xe_var 2) (xa_cons (xe_var 3) (xa_nil))))))))))
/-! 9: is_offset -/
theorem d_9 (A : Al P w K mg base n) (G : Gs w K mg) (fa : Addr) (cdv : Value) (Ar : Around) (outer : List PySem.Env) (s : Shared) (H : Hp) (E : XK) (hr : RoomG n (Ar.deeper (PyProof.Rows.envOfC "is_offset" (defScope s_9) s.heap.objs.size fa cdv))) :
    PSs (cxOf CX0 P w K mg base N_9 "is_offset" (defScope s_9) fa cdv Ar outer s H E).nox (defBody s_9) (trS K (run T n) b_is_offset) :=
  (xs_one (xs_ret (xe_and (xe_call A.f0 hr (by rfl) (xa_cons (xe_var 1) (xa_nil))) (xe_one (xe_cmp .in_ (xe_var 1) (xe_ix (xe_var 0) (xe_int) (fun _ _ => rfl)) (by first | rfl | with_unfolding_all rfl))))))
/-! 11: are_marks -/
theorem d_11 (A : Al P w K mg base n) (G : Gs w K mg) (fa : Addr) (cdv : Value) (Ar : Around) (outer : List PySem.Env) (s : Shared) (H : Hp) (E : XK) (hr : RoomG n (Ar.deeper (PyProof.Rows.envOfC "are_marks" (defScope s_11) s.heap.objs.size fa cdv))) :
    PSs (cxOf CX0 P w K mg base N_11 "are_marks" (defScope s_11) fa cdv Ar outer s H E).nox (defBody s_11) (trS K (run T n) b_are_marks) :=
  (xs_one (xs_ret (xe_and (xe_blt .isi b_isi (by rfl) G.n_isinstance (by decide +kernel) (xa_cons (xe_var 1) (xa_cons (xe_ty (by rfl) G.n_tuple (by decide +kernel)) (xa_nil)))) (xe_one (xe_blt .all_ (b_all rfl) (by rfl) G.n_all (by decide +kernel) (xa_cons (xe_lc (own := [("item", 2)]) rfl sc_11.nd (xi_seq (xe_var 1)) N_11 (defScope s_11) (by decide +kernel) (fun _ _ _ _ _ => (xg_name 2 sc_11.nd)) (fun _ _ _ _ _ => xts_nil) (fun _ _ _ _ _ => (xe_call A.f10 hr (by rfl) (xa_cons (xe_var 0) (xa_cons (xe_var 2) (xa_nil)))))) (xa_nil)))))))
/-! 3: is_ascending -/
theorem d_3 (A : Al P w K mg base n) (G : Gs w K mg) (fa : Addr) (cdv : Value) (Ar : Around) (outer : List PySem.Env) (s : Shared) (H : Hp) (E : XK) (hr : RoomG n (Ar.deeper (PyProof.Rows.envOfC "is_ascending" (defScope s_3) s.heap.objs.size fa cdv))) :
    PSs (cxOf CX0 P w K mg base N_3 "is_ascending" (defScope s_3) fa cdv Ar outer s H E).nox (defBody s_3) (trS K (run T n) b_is_ascending) :=
  (xs_one (xs_ret (xe_blt .all_ (b_all rfl) (by rfl) G.n_all (by decide +kernel) (xa_cons (xe_lc (own := [("one", 1), ("other", 2)]) rfl sc_3.nd (xi_zip (by rfl) G.n_zip (xa_cons (xe_var 0) (xa_cons (xe_sl (xe_var 0) (xo_some (xe_int)) xo_none) (xa_nil)))) N_3 (defScope s_3) (by decide +kernel) (fun _ _ _ _ _ => (xg_tup rfl (xgs_cons (xg_name 1 sc_3.nd) (xgs_cons (xg_name 2 sc_3.nd) xgs_nil)))) (fun _ _ _ _ _ => xts_nil) (fun _ _ _ _ _ => (xe_cmp .lt (xe_var 1) (xe_var 2) (by first | rfl | with_unfolding_all rfl)))) (xa_nil)))))
/-! 5: _are_offsets -/
theorem d_5 (A : Al P w K mg base n) (G : Gs w K mg) (fa : Addr) (cdv : Value) (Ar : Around) (outer : List PySem.Env) (s : Shared) (H : Hp) (E : XK) (hr : RoomG n (Ar.deeper (PyProof.Rows.envOfC "_are_offsets" (defScope s_5) s.heap.objs.size fa cdv))) :
    PSs (cxOf CX0 P w K mg base N_5 "_are_offsets" (defScope s_5) fa cdv Ar outer s H E).nox (defBody s_5) (trS K (run T n) b_are_offsets) :=
  (xs_cons (xs_if ((xw_or (xt_not (xt_truth (xe_blt .isi b_isi (by rfl) G.n_isinstance (by decide +kernel) (xa_cons (xe_var 0) (xa_cons (xe_ty (by rfl) G.n_tuple (by decide +kernel)) (xa_nil)))) (fun _ => rfl))) (xw_or1 (xt_not (xt_chain .le .le (xe_int) (xe_blt .len b_len (by rfl) G.n_len (by decide +kernel) (xa_cons (xe_var 0) (xa_nil))) (xe_glob (v := .int 3) (u := .int 3 G.c_MOST_OFFSETS.choose) (by rfl) G.c_MOST_OFFSETS.choose_spec ⟨_, rfl⟩ (fun _ _ => .int _))))))).pt
    (xs_one (xs_ret (xe_bl))) xs_nil)
    (xs_one (xs_ret (xe_and (xe_blt .all_ (b_all rfl) (by rfl) G.n_all (by decide +kernel) (xa_cons (xe_lc (own := [("item", 1)]) rfl sc_5.nd (xi_seq (xe_var 0)) N_5 (defScope s_5) (by decide +kernel) (fun _ _ _ _ _ => (xg_name 1 sc_5.nd)) (fun _ _ _ _ _ => xts_nil) (fun _ _ _ _ _ => (xe_call A.f4 hr (by rfl) (xa_cons (xe_var 1) (xa_nil))))) (xa_nil))) (xe_one (xe_call A.f3 hr (by rfl) (xa_cons (xe_var 0) (xa_nil))))))))
/-! 4: _is_near -/
theorem d_4 (A : Al P w K mg base n) (G : Gs w K mg) (fa : Addr) (cdv : Value) (Ar : Around) (outer : List PySem.Env) (s : Shared) (H : Hp) (E : XK) (hr : RoomG n (Ar.deeper (PyProof.Rows.envOfC "_is_near" (defScope s_4) s.heap.objs.size fa cdv))) :
    PSs (cxOf CX0 P w K mg base N_4 "_is_near" (defScope s_4) fa cdv Ar outer s H E).nox (defBody s_4) (trS K (run T n) b_is_near) :=
  (xs_one (xs_ret (xe_and (xe_call A.f0 hr (by rfl) (xa_cons (xe_var 0) (xa_nil))) (xe_one (xe_chain .le .le (xe_neg (xe_glob (v := .int 900) (u := .int 900 G.c_FARTHEST_OFFSET.choose) (by rfl) G.c_FARTHEST_OFFSET.choose_spec ⟨_, rfl⟩ (fun _ _ => .int _))) (xe_var 0) (xe_glob (v := .int 900) (u := .int 900 G.c_FARTHEST_OFFSET.choose) (by rfl) G.c_FARTHEST_OFFSET.choose_spec ⟨_, rfl⟩ (fun _ _ => .int _)))))))
/-! 10: _is_mark -/
theorem d_10 (A : Al P w K mg base n) (G : Gs w K mg) (fa : Addr) (cdv : Value) (Ar : Around) (outer : List PySem.Env) (s : Shared) (H : Hp) (E : XK) (hr : RoomG n (Ar.deeper (PyProof.Rows.envOfC "_is_mark" (defScope s_10) s.heap.objs.size fa cdv))) :
    PSs (cxOf CX0 P w K mg base N_10 "_is_mark" (defScope s_10) fa cdv Ar outer s H E).nox (defBody s_10) (trS K (run T n) b_is_mark) :=
  (xs_one (xs_ret (xe_and (xe_call A.f1 hr (by rfl) (xa_cons (xe_var 1) (xa_nil))) (xe_and (xe_call A.f0 hr (by rfl) (xa_cons (xe_ix (xe_var 1) (xe_int) (fun _ _ => rfl)) (xa_nil))) (xe_one (xe_call A.f9 hr (by rfl) (xa_cons (xe_var 0) (xa_cons (xe_ix (xe_var 1) (xe_int) (fun _ _ => rfl)) (xa_nil)))))))))
/-! 8: _are_jumps -/
theorem d_8 (A : Al P w K mg base n) (G : Gs w K mg) (fa : Addr) (cdv : Value) (Ar : Around) (outer : List PySem.Env) (s : Shared) (H : Hp) (E : XK) (hr : RoomG n (Ar.deeper (PyProof.Rows.envOfC "_are_jumps" (defScope s_8) s.heap.objs.size fa cdv))) :
    PSs (cxOf CX0 P w K mg base N_8 "_are_jumps" (defScope s_8) fa cdv Ar outer s H E).nox (defBody s_8) (trS K (run T n) b_are_jumps) :=
  (xs_cons (xs_setlc (i := 3) (own := [("mark", 4)]) rfl sc_8.nd rfl rfl (sw_true rfl rfl rfl (by decide +kernel)) (xi_seq (xe_var 2)) N_8 (defScope s_8) (by decide +kernel) (fun _ _ _ _ _ => (xg_name 4 sc_8.nd)) (fun _ _ _ _ _ => xts_nil) (fun _ _ _ _ _ => (xe_ix (xe_var 4) (xe_int) (fun _ _ => rfl))))
    (xs_cons (xs_set 5 sc_8.nd (xe_bin .add (xe_lst (xa_cons (xe_var 1) (xa_nil))) (xe_lc (own := [("mark", 4)]) rfl sc_8.nd (xi_seq (xe_var 2)) N_8 (defScope s_8) (by decide +kernel) (fun _ _ _ _ _ => (xg_name 4 sc_8.nd)) (fun _ _ _ _ _ => xts_nil) (fun _ _ _ _ _ => (xe_ix (xe_var 4) (xe_int) (fun _ _ => rfl))))))
    (xs_cons (xs_set 6 sc_8.nd (xe_blt .all_ (b_all rfl) (by rfl) G.n_all (by decide +kernel) (xa_cons (xe_lc (own := [("moment", 7), ("later", 8)]) rfl sc_8.nd (xi_zip (by rfl) G.n_zip (xa_cons (xe_var 3) (xa_cons (xe_sl (xe_var 3) (xo_some (xe_int)) xo_none) (xa_nil)))) N_8 (defScope s_8) (by decide +kernel) (fun _ _ _ _ _ => (xg_tup rfl (xgs_cons (xg_name 7 sc_8.nd) (xgs_cons (xg_name 8 sc_8.nd) xgs_nil)))) (fun _ _ _ _ _ => xts_nil) (fun _ _ _ _ _ => (xe_cmp .ge (xe_bin .sub (xe_var 8) (xe_var 7)) (xe_ix (xe_var 0) (xe_int) (fun _ _ => rfl)) (by first | rfl | with_unfolding_all rfl)))) (xa_nil))))
    (xs_one (xs_ret (xe_and (xe_var 6) (xe_one (xe_blt .all_ (b_all rfl) (by rfl) G.n_all (by decide +kernel) (xa_cons (xe_lc (own := [("ahead", 9), ("behind", 10)]) rfl sc_8.nd (xi_zip (by rfl) G.n_zip (xa_cons (xe_var 5) (xa_cons (xe_sl (xe_var 5) (xo_some (xe_int)) xo_none) (xa_nil)))) N_8 (defScope s_8) (by decide +kernel) (fun _ _ _ _ _ => (xg_tup rfl (xgs_cons (xg_name 9 sc_8.nd) (xgs_cons (xg_name 10 sc_8.nd) xgs_nil)))) (fun _ _ _ _ _ => xts_nil) (fun _ _ _ _ _ => (xe_cmp .ne (xe_var 9) (xe_var 10) (by first | rfl | with_unfolding_all rfl)))) (xa_nil))))))))))
/-! 17: _law_digits -/
theorem d_17 (A : Al P w K mg base n) (G : Gs w K mg) (fa : Addr) (cdv : Value) (Ar : Around) (outer : List PySem.Env) (s : Shared) (H : Hp) (E : XK) (hr : RoomG n (Ar.deeper (PyProof.Rows.envOfC "_law_digits" (defScope s_17) s.heap.objs.size fa cdv))) :
    PSs (cxOf CX0 P w K mg base N_17 "_law_digits" (defScope s_17) fa cdv Ar outer s H E).nox (defBody s_17) (trS K (run T n) b_digits) :=
  (xs_cons (xs_if (xt_cmp .ge (xe_var 0) (xe_bin .pow (xe_int) (xe_int)) (by first | rfl | with_unfolding_all rfl))
    (xs_one (xs_ret (xe_lst (xa_cons (xe_bin .sub (xe_var 0) (xe_bin .pow (xe_int) (xe_int))) (xa_nil))))) xs_nil)
    (xs_cons (xs_set 1 sc_17.nd (xe_bin .add (xe_bin .mod (xe_bty .int_ b_int (by rfl) G.n_int (by decide +kernel) (xa_cons (xe_var 0) (xa_nil))) (xe_bin .add (xe_bin .pow (xe_int) (xe_int)) (xe_int))) (xe_int)))
    (xs_cons (xs_set 2 sc_17.nd (xe_int))
    (xs_cons (xs_for PassesOwn.never rfl (xi_range1 (by rfl) G.n_range (xa_cons (xe_int) (xa_nil))) (xg_name 3 sc_17.nd)
    (xs_cons (xs_set 1 sc_17.nd (xe_bin .mod (xe_bin .add (xe_bin .add (xe_bin .add (xe_bin .mul (xe_var 1) (xe_var 1)) (xe_bin .mul (xe_int) (xe_var 1))) (xe_bin .mul (xe_int) (xe_var 3))) (xe_int)) (xe_bin .add (xe_bin .pow (xe_int) (xe_int)) (xe_int))))
    (xs_one (xs_if (xt_cmp .gt (xe_var 3) (xe_int) (by first | rfl | with_unfolding_all rfl))
    (xs_one (xs_set 2 sc_17.nd (xe_bin .add (xe_bin .mul (xe_var 2) (xe_bin .pow (xe_int) (xe_int))) (xe_var 1)))) xs_nil))))
    (xs_one (xs_ret (xe_lst (xa_cons (xe_var 2) (xa_nil)))))))))
/-! 18: _law_draw -/
theorem d_18 (A : Al P w K mg base n) (G : Gs w K mg) (fa : Addr) (cdv : Value) (Ar : Around) (outer : List PySem.Env) (s : Shared) (H : Hp) (E : XK) (hr : RoomG n (Ar.deeper (PyProof.Rows.envOfC "_law_draw" (defScope s_18) s.heap.objs.size fa cdv))) :
    PSs (cxOf CX0 P w K mg base N_18 "_law_draw" (defScope s_18) fa cdv Ar outer s H E).nox (defBody s_18) (trS K (run T n) b_draw) :=
  (xs_cons (xs_set 2 sc_18.nd (xe_bin .mod (xe_bty .int_ b_int (by rfl) G.n_int (by decide +kernel) (xa_cons (xe_ix (xe_var 0) (xe_int) (fun _ _ => rfl)) (xa_nil))) (xe_var 1)))
    (xs_cons (xs_setix (xe_bin .fdiv (xe_ix (xe_var 0) (xe_int) (fun _ _ => rfl)) (xe_var 1)) (xe_var 0) (xe_int))
    (xs_one (xs_ret (xe_var 2)))))
/-! 19: _law_any_hour -/
theorem d_19 (A : Al P w K mg base n) (G : Gs w K mg) (fa : Addr) (cdv : Value) (Ar : Around) (outer : List PySem.Env) (s : Shared) (H : Hp) (E : XK) (hr : RoomG n (Ar.deeper (PyProof.Rows.envOfC "_law_any_hour" (defScope s_19) s.heap.objs.size fa cdv))) :
    PSs (cxOf CX0 P w K mg base N_19 "_law_any_hour" (defScope s_19) fa cdv Ar outer s H E).nox (defBody s_19) (trS K (run T n) b_any_hour) :=
  (xs_cons (xs_set 1 sc_19.nd (xe_call A.f18 hr (by rfl) (xa_cons (xe_var 0) (xa_cons (xe_int) (xa_nil)))))
    (xs_cons (xs_if (xt_cmp .lt (xe_var 1) (xe_int) (by first | rfl | with_unfolding_all rfl))
    (xs_one (xs_ret (xe_bin .sub (xe_call A.f18 hr (by rfl) (xa_cons (xe_var 0) (xa_cons (xe_int) (xa_nil)))) (xe_int)))) xs_nil)
    (xs_cons (xs_if (xt_cmp .eq (xe_var 1) (xe_int) (by first | rfl | with_unfolding_all rfl))
    (xs_one (xs_ret (xe_bin .sub (xe_call A.f18 hr (by rfl) (xa_cons (xe_var 0) (xa_cons (xe_bin .add (xe_bin .mul (xe_int) (xe_bin .pow (xe_int) (xe_int))) (xe_int)) (xa_nil)))) (xe_bin .mul (xe_int) (xe_bin .pow (xe_int) (xe_int)))))) xs_nil)
    (xs_one (xs_ret (xe_ix (xe_lst (xa_cons (xe_int) (xa_cons (xe_int) (xa_cons (xe_neg (xe_int)) (xa_cons (xe_int) (xa_cons (xe_neg (xe_int)) (xa_cons (xe_bin .sub (xe_bin .sub (xe_bin .pow (xe_int) (xe_int)) (xe_int)) (xe_bin .mul (xe_int) (xe_bin .pow (xe_int) (xe_int)))) (xa_cons (xe_bin .sub (xe_int) (xe_bin .pow (xe_int) (xe_int))) (xa_nil))))))))) (xe_call A.f18 hr (by rfl) (xa_cons (xe_var 0) (xa_cons (xe_int) (xa_nil)))) (fun _ _ => rfl)))))))
/-! 20: _law_make_region -/
theorem d_20 (A : Al P w K mg base n) (G : Gs w K mg) (fa : Addr) (cdv : Value) (Ar : Around) (outer : List PySem.Env) (s : Shared) (H : Hp) (E : XK) (hr : RoomG n (Ar.deeper (PyProof.Rows.envOfC "_law_make_region" (defScope s_20) s.heap.objs.size fa cdv))) :
    PSs (cxOf CX0 P w K mg base N_20 "_law_make_region" (defScope s_20) fa cdv Ar outer s H E).nox (defBody s_20) (trS K (run T n) b_make_region) :=
  (xs_cons (xs_set 1 sc_20.nd (xe_call A.f18 hr (by rfl) (xa_cons (xe_var 0) (xa_cons (xe_int) (xa_nil)))))
    (xs_cons (xs_set 2 sc_20.nd (xe_neg (xe_int)))
    (xs_cons (xs_if (xt_cmp .lt (xe_var 1) (xe_int) (by first | rfl | with_unfolding_all rfl))
    (xs_one (xs_set 2 sc_20.nd (xe_bin .sub (xe_call A.f18 hr (by rfl) (xa_cons (xe_var 0) (xa_cons (xe_int) (xa_nil)))) (xe_int)))) (xs_one (xs_if (xt_cmp .eq (xe_var 1) (xe_int) (by first | rfl | with_unfolding_all rfl))
    (xs_one (xs_set 2 sc_20.nd (xe_bin .mul (xe_int) (xe_bin .sub (xe_call A.f18 hr (by rfl) (xa_cons (xe_var 0) (xa_cons (xe_int) (xa_nil)))) (xe_int))))) (xs_one (xs_if (xt_cmp .eq (xe_var 1) (xe_int) (by first | rfl | with_unfolding_all rfl))
    (xs_one (xs_set 2 sc_20.nd (xe_bin .sub (xe_call A.f18 hr (by rfl) (xa_cons (xe_var 0) (xa_cons (xe_int) (xa_nil)))) (xe_int)))) xs_nil)))))
    (xs_cons (xs_asg (xe_ix (xe_lst (xa_cons (xe_tup (xa_cons (xe_int) (xa_cons (xe_int) (xa_nil)))) (xa_cons (xe_tup (xa_cons (xe_int) (xa_cons (xe_int) (xa_nil)))) (xa_cons (xe_tup (xa_cons (xe_int) (xa_cons (xe_int) (xa_nil)))) (xa_cons (xe_tup (xa_cons (xe_int) (xa_cons (xe_int) (xa_nil)))) (xa_cons (xe_tup (xa_cons (xe_int) (xa_cons (xe_int) (xa_nil)))) (xa_cons (xe_tup (xa_cons (xe_int) (xa_cons (xe_int) (xa_nil)))) (xa_nil)))))))) (xe_var 1) (fun _ _ => rfl)) (xg_tup rfl (xgs_cons (xg_name 3 sc_20.nd) (xgs_cons (xg_name 4 sc_20.nd) xgs_nil))))
    (xs_cons (xs_set 5 sc_20.nd (xe_bin .add (xe_var 2) (xe_bin .mul (xe_var 3) (xe_bin .add (xe_int) (xe_call A.f18 hr (by rfl) (xa_cons (xe_var 0) (xa_cons (xe_var 4) (xa_nil))))))))
    (xs_cons (xs_set 6 sc_20.nd (xe_bin .add (xe_var 5) (xe_bin .mul (xe_var 3) (xe_bin .add (xe_int) (xe_call A.f18 hr (by rfl) (xa_cons (xe_var 0) (xa_cons (xe_var 4) (xa_nil))))))))
    (xs_cons (xs_set 7 sc_20.nd (xe_lst (xa_cons (xe_tup (xa_cons (xe_var 2) (xa_cons (xe_var 5) (xa_nil)))) (xa_cons (xe_tup (xa_cons (xe_var 2) (xa_cons (xe_var 5) (xa_cons (xe_var 6) (xa_nil))))) (xa_cons (xe_tup (xa_cons (xe_var 2) (xa_cons (xe_var 6) (xa_nil)))) (xa_cons (xe_tup (xa_cons (xe_var 2) (xa_cons (xe_var 5) (xa_cons (xe_var 6) (xa_nil))))) (xa_cons (xe_tup (xa_cons (xe_var 6) (xa_nil))) (xa_nil))))))))
    (xs_cons (xs_set 7 sc_20.nd (xe_ix (xe_var 7) (xe_bin .fdiv (xe_call A.f18 hr (by rfl) (xa_cons (xe_var 0) (xa_cons (xe_int) (xa_nil)))) (xe_int)) (fun _ _ => rfl)))
    (xs_cons (xs_if (xt_cmp .eq (xe_call A.f18 hr (by rfl) (xa_cons (xe_var 0) (xa_cons (xe_int) (xa_nil)))) (xe_int) (by first | rfl | with_unfolding_all rfl))
    (xs_one (xs_set 7 sc_20.nd (xe_bty .tuple_ b_tuple (by rfl) G.n_tuple (by decide +kernel) (xa_cons (xe_lc (own := [("_law_shift", 8)]) rfl sc_20.nd (xi_seq (xe_rev (xe_var 7))) N_20 (defScope s_20) (by decide +kernel) (fun _ _ _ _ _ => (xg_name 8 sc_20.nd)) (fun _ _ _ _ _ => xts_nil) (fun _ _ _ _ _ => (xe_neg (xe_var 8)))) (xa_nil))))) xs_nil)
    (xs_cons (xs_set 9 sc_20.nd (xe_bin .sub (xe_ix (xe_var 7) (xe_neg (xe_int)) (fun _ _ => rfl)) (xe_ix (xe_var 7) (xe_int) (fun _ _ => rfl))))
    (xs_cons (xs_set 10 sc_20.nd (xe_lst (xa_cons (xe_int) (xa_cons (xe_int) (xa_cons (xe_int) (xa_cons (xe_call A.f18 hr (by rfl) (xa_cons (xe_var 0) (xa_cons (xe_int) (xa_nil)))) (xa_cons (xe_call A.f18 hr (by rfl) (xa_cons (xe_var 0) (xa_cons (xe_bin .sub (xe_int) (xe_var 9)) (xa_nil)))) (xa_cons (xe_bin .sub (xe_int) (xe_var 9)) (xa_nil)))))))))
    (xs_one (xs_ret (xe_tup (xa_cons (xe_var 7) (xa_cons (xe_bin .add (xe_bin .add (xe_var 9) (xe_int)) (xe_ix (xe_var 10) (xe_call A.f18 hr (by rfl) (xa_cons (xe_var 0) (xa_cons (xe_int) (xa_nil)))) (fun _ _ => rfl))) (xa_nil)))))))))))))))))
/-! 21: _law_make_chart -/
theorem d_21 (A : Al P w K mg base n) (G : Gs w K mg) (fa : Addr) (cdv : Value) (Ar : Around) (outer : List PySem.Env) (s : Shared) (H : Hp) (E : XK) (hr : RoomG n (Ar.deeper (PyProof.Rows.envOfC "_law_make_chart" (defScope s_21) s.heap.objs.size fa cdv))) :
    PSs (cxOf CX0 P w K mg base N_21 "_law_make_chart" (defScope s_21) fa cdv Ar outer s H E).nox (defBody s_21) (trS K (run T n) b_make_chart) :=
  (xs_cons (xs_asg (xe_var 1) (xg_tup rfl (xgs_cons (xg_name 3 sc_21.nd) (xgs_cons (xg_name 4 sc_21.nd) xgs_nil))))
    (xs_cons (xs_set 5 sc_21.nd (xe_call A.f18 hr (by rfl) (xa_cons (xe_var 0) (xa_cons (xe_blt .len b_len (by rfl) G.n_len (by decide +kernel) (xa_cons (xe_var 3) (xa_nil))) (xa_nil)))))
    (xs_cons (xs_set 6 sc_21.nd (xe_ix (xe_var 3) (xe_var 5) (fun _ _ => rfl)))
    (xs_cons (xs_set 7 sc_21.nd (xe_call A.f19 hr (by rfl) (xa_cons (xe_var 0) (xa_nil))))
    (xs_cons (xs_set 8 sc_21.nd (xe_lst (xa_nil)))
    (xs_cons (xs_for PassesOwn.never rfl (xi_range1 (by rfl) G.n_range (xa_cons (xe_bin .mul (xe_call A.f18 hr (by rfl) (xa_cons (xe_var 0) (xa_cons (xe_bin .add (xe_var 2) (xe_int)) (xa_nil)))) (xe_bty .int_ b_int (by rfl) G.n_int (by decide +kernel) (xa_cons (xe_cmp .gt (xe_blt .len b_len (by rfl) G.n_len (by decide +kernel) (xa_cons (xe_var 3) (xa_nil))) (xe_int) (by first | rfl | with_unfolding_all rfl)) (xa_nil)))) (xa_nil))) (xg_name 9 sc_21.nd)
    (xs_cons (xs_set 5 sc_21.nd (xe_bin .mod (xe_bty .int_ b_int (by rfl) G.n_int (by decide +kernel) (xa_cons (xe_bin .add (xe_bin .add (xe_var 5) (xe_int)) (xe_call A.f18 hr (by rfl) (xa_cons (xe_var 0) (xa_cons (xe_bin .sub (xe_blt .len b_len (by rfl) G.n_len (by decide +kernel) (xa_cons (xe_var 3) (xa_nil))) (xe_int)) (xa_nil))))) (xa_nil))) (xe_blt .len b_len (by rfl) G.n_len (by decide +kernel) (xa_cons (xe_var 3) (xa_nil)))))
    (xs_cons (xs_drop (xe_append (xe_var 8) (xa_cons (xe_tup (xa_cons (xe_var 7) (xa_cons (xe_ix (xe_var 3) (xe_var 5) (fun _ _ => rfl)) (xa_nil)))) (xa_nil))))
    (xs_cons (xs_set 7 sc_21.nd (xe_bin .add (xe_var 7) (xe_var 4)))
    (xs_cons (xs_set 10 sc_21.nd (xe_call A.f18 hr (by rfl) (xa_cons (xe_var 0) (xa_cons (xe_int) (xa_nil)))))
    (xs_one (xs_if (xt_cmp .gt (xe_var 10) (xe_int) (by first | rfl | with_unfolding_all rfl))
    (xs_one (xs_set 7 sc_21.nd (xe_bin .add (xe_var 7) (xe_call A.f18 hr (by rfl) (xa_cons (xe_var 0) (xa_cons (xe_ix (xe_lst (xa_cons (xe_int) (xa_cons (xe_int) (xa_cons (xe_int) (xa_cons (xe_int) (xa_cons (xe_bin .mul (xe_int) (xe_var 4)) (xa_nil))))))) (xe_var 10) (fun _ _ => rfl)) (xa_nil))))))) xs_nil)))))))
    (xs_one (xs_ret (xe_tup (xa_cons (xe_var 6) (xa_cons (xe_bty .tuple_ b_tuple (by rfl) G.n_tuple (by decide +kernel) (xa_cons (xe_var 8) (xa_nil))) (xa_nil))))))))))))
/-! 24: _law_whole -/
theorem d_24 (A : Al P w K mg base n) (G : Gs w K mg) (fa : Addr) (cdv : Value) (Ar : Around) (outer : List PySem.Env) (s : Shared) (H : Hp) (E : XK) (hr : RoomG n (Ar.deeper (PyProof.Rows.envOfC "_law_whole" (defScope s_24) s.heap.objs.size fa cdv))) :
    PSs (cxOf CX0 P w K mg base N_24 "_law_whole" (defScope s_24) fa cdv Ar outer s H E).nox (defBody s_24) (trS K (run T n) b_whole) :=
  (xs_one (xs_ret (xe_and (xe_blt .isi b_isi (by rfl) G.n_isinstance (by decide +kernel) (xa_cons (xe_var 0) (xa_cons (xe_ty (by rfl) G.n_int (by decide +kernel)) (xa_nil)))) (xe_one (xe_not (xe_blt .isi b_isi (by rfl) G.n_isinstance (by decide +kernel) (xa_cons (xe_var 0) (xa_cons (xe_ty (by rfl) G.n_bool (by decide +kernel)) (xa_nil)))))))))
/-! 25: _law_same -/
theorem d_25 (A : Al P w K mg base n) (G : Gs w K mg) (fa : Addr) (cdv : Value) (Ar : Around) (outer : List PySem.Env) (s : Shared) (H : Hp) (E : XK) (hr : RoomG n (Ar.deeper (PyProof.Rows.envOfC "_law_same" (defScope s_25) s.heap.objs.size fa cdv))) :
    PSs (cxOf CX0 P w K mg base N_25 "_law_same" (defScope s_25) fa cdv Ar outer s H E).nox (defBody s_25) (trS K (run T n) b_same) :=
  (xs_cons (xs_if (xt_truth (xe_blt .isi b_isi (by rfl) G.n_isinstance (by decide +kernel) (xa_cons (xe_var 1) (xa_cons (xe_tup (xa_cons (xe_ty (by rfl) G.n_tuple (by decide +kernel)) (xa_cons (xe_ty (by rfl) G.n_list (by decide +kernel)) (xa_nil)))) (xa_nil)))) (fun _ => rfl))
    (xs_cons (xs_if ((xw_or (xt_not (xt_truth (xe_blt .isi b_isi (by rfl) G.n_isinstance (by decide +kernel) (xa_cons (xe_var 0) (xa_cons (xe_tup (xa_cons (xe_ty (by rfl) G.n_tuple (by decide +kernel)) (xa_cons (xe_ty (by rfl) G.n_list (by decide +kernel)) (xa_nil)))) (xa_nil)))) (fun _ => rfl))) (xw_or1 (xt_cmp .ne (xe_blt .isi b_isi (by rfl) G.n_isinstance (by decide +kernel) (xa_cons (xe_var 0) (xa_cons (xe_ty (by rfl) G.n_list (by decide +kernel)) (xa_nil)))) (xe_blt .isi b_isi (by rfl) G.n_isinstance (by decide +kernel) (xa_cons (xe_var 1) (xa_cons (xe_ty (by rfl) G.n_list (by decide +kernel)) (xa_nil)))) (by first | rfl | with_unfolding_all rfl))))).pt
    (xs_one (xs_ret (xe_bl))) xs_nil)
    (xs_one (xs_ret (xe_and (xe_cmp .eq (xe_blt .len b_len (by rfl) G.n_len (by decide +kernel) (xa_cons (xe_var 0) (xa_nil))) (xe_blt .len b_len (by rfl) G.n_len (by decide +kernel) (xa_cons (xe_var 1) (xa_nil))) (by first | rfl | with_unfolding_all rfl)) (xe_one (xe_blt .all_ (b_all rfl) (by rfl) G.n_all (by decide +kernel) (xa_cons (xe_lc (own := [("_law_k", 2)]) rfl sc_25.nd (xi_range1 (by rfl) G.n_range (xa_cons (xe_blt .len b_len (by rfl) G.n_len (by decide +kernel) (xa_cons (xe_var 1) (xa_nil))) (xa_nil))) N_25 (defScope s_25) (by decide +kernel) (fun _ _ _ _ _ => (xg_name 2 sc_25.nd)) (fun _ _ _ _ _ => xts_nil) (fun _ _ _ _ _ => (xe_call A.f25 hr (by rfl) (xa_cons (xe_ix (xe_var 0) (xe_var 2) (fun _ _ => rfl)) (xa_cons (xe_ix (xe_var 1) (xe_var 2) (fun _ _ => rfl)) (xa_nil)))))) (xa_nil)))))))) xs_nil)
    (xs_cons (xs_if (xt_cmp .is_ (xe_var 1) (xe_non) (by first | rfl | with_unfolding_all rfl))
    (xs_one (xs_ret (xe_cmp .is_ (xe_var 0) (xe_non) (by first | rfl | with_unfolding_all rfl)))) xs_nil)
    (xs_cons (xs_if (xt_truth (xe_blt .isi b_isi (by rfl) G.n_isinstance (by decide +kernel) (xa_cons (xe_var 1) (xa_cons (xe_ty (by rfl) G.n_bool (by decide +kernel)) (xa_nil)))) (fun _ => rfl))
    (xs_one (xs_ret (xe_and (xe_blt .isi b_isi (by rfl) G.n_isinstance (by decide +kernel) (xa_cons (xe_var 0) (xa_cons (xe_ty (by rfl) G.n_bool (by decide +kernel)) (xa_nil)))) (xe_one (xe_cmp .eq (xe_var 0) (xe_var 1) (by first | rfl | with_unfolding_all rfl)))))) xs_nil)
    (xs_cons (xs_if (xt_truth (xe_blt .isi b_isi (by rfl) G.n_isinstance (by decide +kernel) (xa_cons (xe_var 1) (xa_cons (xe_ty (by rfl) G.n_int (by decide +kernel)) (xa_nil)))) (fun _ => rfl))
    (xs_one (xs_ret (xe_and (xe_call A.f24 hr (by rfl) (xa_cons (xe_var 0) (xa_nil))) (xe_one (xe_cmp .eq (xe_var 0) (xe_var 1) (by first | rfl | with_unfolding_all rfl)))))) xs_nil)
    (xs_cons (xs_if (xt_truth (xe_blt .isi b_isi (by rfl) G.n_isinstance (by decide +kernel) (xa_cons (xe_var 1) (xa_cons (xe_ty (by rfl) G.n_str (by decide +kernel)) (xa_nil)))) (fun _ => rfl))
    (xs_one (xs_ret (xe_and (xe_blt .isi b_isi (by rfl) G.n_isinstance (by decide +kernel) (xa_cons (xe_var 0) (xa_cons (xe_ty (by rfl) G.n_str (by decide +kernel)) (xa_nil)))) (xe_one (xe_cmp .eq (xe_var 0) (xe_var 1) (by first | rfl | with_unfolding_all rfl)))))) xs_nil)
    (xs_one (xs_ret (xe_and (xe_not (xe_blt .isi b_isi (by rfl) G.n_isinstance (by decide +kernel) (xa_cons (xe_var 0) (xa_cons (xe_tup (xa_cons (xe_ty (by rfl) G.n_tuple (by decide +kernel)) (xa_cons (xe_ty (by rfl) G.n_list (by decide +kernel)) (xa_cons (xe_ty (by rfl) G.n_int (by decide +kernel)) (xa_cons (xe_ty (by rfl) G.n_str (by decide +kernel)) (xa_nil)))))) (xa_nil))))) (xe_one (xe_cmp .isnot (xe_var 0) (xe_non) (by first | rfl | with_unfolding_all rfl)))))))))))
/-! 174: _law_odd_thing -/
theorem d_174 (A : Al P w K mg base n) (G : Gs w K mg) (fa : Addr) (cdv : Value) (Ar : Around) (outer : List PySem.Env) (s : Shared) (H : Hp) (E : XK) (hr : RoomG n (Ar.deeper (PyProof.Rows.envOfC "_law_odd_thing" (defScope s_174) s.heap.objs.size fa cdv))) :
    PSs (cxOf CX0 P w K mg base N_174 "_law_odd_thing" (defScope s_174) fa cdv Ar outer s H E).nox (defBody s_174) (trS K (run T n) b_odd_thing) :=
  (xs_cons (xs_set 1 sc_174.nd (xe_bin .add (xe_bin .pow (xe_int) (xe_int)) (xe_call A.f18 hr (by rfl) (xa_cons (xe_var 0) (xa_cons (xe_int) (xa_nil))))))
    (xs_cons (xs_set 2 sc_174.nd (xe_lst (xa_cons (xe_non) (xa_cons (xe_bl) (xa_cons (xe_bl) (xa_cons (xe_str) (xa_cons (xe_str) (xa_cons (xe_str) (xa_cons (xe_int) (xa_cons (xe_int) (xa_cons (xe_neg (xe_int)) (xa_cons (xe_int) (xa_cons (xe_int) (xa_cons (xe_int) (xa_cons (xe_int) (xa_cons (xe_var 1) (xa_cons (xe_neg (xe_var 1)) (xa_nil))))))))))))))))))
    (xs_cons (xs_set 3 sc_174.nd (xe_call A.f18 hr (by rfl) (xa_cons (xe_var 0) (xa_cons (xe_int) (xa_nil)))))
    (xs_cons (xs_if (xt_cmp .lt (xe_var 3) (xe_int) (by first | rfl | with_unfolding_all rfl))
    (xs_one (xs_ret (xe_ix (xe_var 2) (xe_var 3) (fun _ _ => rfl)))) xs_nil)
    (xs_cons (xs_set 4 sc_174.nd (xe_ix (xe_var 2) (xe_call A.f18 hr (by rfl) (xa_cons (xe_var 0) (xa_cons (xe_int) (xa_nil)))) (fun _ _ => rfl)))
    (xs_cons (xs_set 5 sc_174.nd (xe_ix (xe_var 2) (xe_call A.f18 hr (by rfl) (xa_cons (xe_var 0) (xa_cons (xe_int) (xa_nil)))) (fun _ _ => rfl)))
    (xs_cons (xs_if (xt_cmp .eq (xe_var 3) (xe_int) (by first | rfl | with_unfolding_all rfl))
    (xs_one (xs_ret (xe_mkm (ns := []) G.x_InvalidZone (by rfl) (xa_cons (xe_str) (xa_nil))))) xs_nil)
    (xs_cons (xs_if (xt_cmp .eq (xe_var 3) (xe_int) (by first | rfl | with_unfolding_all rfl))
    (xs_one (xs_ret (xe_mkx A.xs.x_Crowded hr (by rfl) (xa_cons (xe_var 4) (xa_cons (xe_var 5) (xa_nil)))))) xs_nil)
    (xs_cons (xs_if (xt_cmp .eq (xe_var 3) (xe_int) (by first | rfl | with_unfolding_all rfl))
    (xs_one (xs_ret (xe_bin .mul (xe_lst (xa_cons (xe_var 4) (xa_nil))) (xe_int)))) xs_nil)
    (xs_cons (xs_if (xt_cmp .eq (xe_var 3) (xe_int) (by first | rfl | with_unfolding_all rfl))
    (xs_cons (xs_set 6 sc_174.nd (xe_var 4))
    (xs_cons (xs_for PassesOwn.never rfl (xi_range1 (by rfl) G.n_range (xa_cons (xe_int) (xa_nil))) (xg_name 7 sc_174.nd)
    (xs_one (xs_set 6 sc_174.nd (xe_ix (xe_lst (xa_cons (xe_tup (xa_cons (xe_var 6) (xa_nil))) (xa_cons (xe_lst (xa_cons (xe_var 6) (xa_nil))) (xa_nil)))) (xe_bin .mod (xe_var 7) (xe_int)) (fun _ _ => rfl)))))
    (xs_one (xs_ret (xe_var 6))))) xs_nil)
    (xs_one (xs_ret (xe_ix (xe_lst (xa_cons (xe_lst (xa_nil)) (xa_cons (xe_tup (xa_nil)) (xa_cons (xe_lst (xa_cons (xe_var 4) (xa_cons (xe_var 5) (xa_nil)))) (xa_cons (xe_tup (xa_cons (xe_var 4) (xa_cons (xe_var 5) (xa_nil)))) (xa_cons (xe_tup (xa_cons (xe_tup (xa_cons (xe_var 4) (xa_cons (xe_var 5) (xa_nil)))) (xa_cons (xe_int) (xa_nil)))) (xa_nil))))))) (xe_bin .sub (xe_var 3) (xe_int)) (fun _ _ => rfl))))))))))))))
/-! 175: _law_bend -/
theorem d_175 (A : Al P w K mg base n) (G : Gs w K mg) (fa : Addr) (cdv : Value) (Ar : Around) (outer : List PySem.Env) (s : Shared) (H : Hp) (E : XK) (hr : RoomG n (Ar.deeper (PyProof.Rows.envOfC "_law_bend" (defScope s_175) s.heap.objs.size fa cdv))) :
    PSs (cxOf CX0 P w K mg base N_175 "_law_bend" (defScope s_175) fa cdv Ar outer s H E).nox (defBody s_175) (trS K (run T n) b_bend) :=
  (xs_cons (xs_set 3 sc_175.nd (xe_call A.f18 hr (by rfl) (xa_cons (xe_var 0) (xa_cons (xe_int) (xa_nil)))))
    (xs_cons (xs_if ((xw_and (xt_truth (xe_blt .isi b_isi (by rfl) G.n_isinstance (by decide +kernel) (xa_cons (xe_var 1) (xa_cons (xe_ty (by rfl) G.n_tuple (by decide +kernel)) (xa_nil)))) (fun _ => rfl)) (xw_and1 ((xw_or (xt_cmp .eq (xe_var 2) (xe_int) (by first | rfl | with_unfolding_all rfl)) (xw_or (xt_cmp .eq (xe_blt .len b_len (by rfl) G.n_len (by decide +kernel) (xa_cons (xe_var 1) (xa_nil))) (xe_int) (by first | rfl | with_unfolding_all rfl)) (xw_or1 (xt_cmp .gt (xe_var 3) (xe_int) (by first | rfl | with_unfolding_all rfl)))))).pt))).pt
    (xs_cons (xs_set 4 sc_175.nd (xe_call A.f18 hr (by rfl) (xa_cons (xe_var 0) (xa_cons (xe_bin .add (xe_blt .len b_len (by rfl) G.n_len (by decide +kernel) (xa_cons (xe_var 1) (xa_nil))) (xe_int)) (xa_nil)))))
    (xs_cons (xs_if ((xw_or (xt_cmp .eq (xe_var 3) (xe_int) (by first | rfl | with_unfolding_all rfl)) (xw_or1 (xt_cmp .eq (xe_var 3) (xe_int) (by first | rfl | with_unfolding_all rfl))))).pt
    (xs_one (xs_ret (xe_bin .add (xe_sl (xe_var 1) xo_none (xo_some (xe_var 4))) (xe_sl (xe_var 1) (xo_some (xe_bin .add (xe_var 4) (xe_int))) xo_none)))) xs_nil)
    (xs_cons (xs_if ((xw_or (xt_cmp .eq (xe_var 3) (xe_int) (by first | rfl | with_unfolding_all rfl)) (xw_or1 (xt_cmp .eq (xe_var 3) (xe_int) (by first | rfl | with_unfolding_all rfl))))).pt
    (xs_one (xs_ret (xe_bin .add (xe_bin .add (xe_sl (xe_var 1) xo_none (xo_some (xe_var 4))) (xe_sl (xe_var 1) (xo_some (xe_var 4)) (xo_some (xe_bin .add (xe_var 4) (xe_int))))) (xe_sl (xe_var 1) (xo_some (xe_var 4)) xo_none)))) xs_nil)
    (xs_cons (xs_if ((xw_or (xt_cmp .eq (xe_var 3) (xe_int) (by first | rfl | with_unfolding_all rfl)) (xw_or1 (xt_cmp .eq (xe_var 3) (xe_int) (by first | rfl | with_unfolding_all rfl))))).pt
    (xs_one (xs_ret (xe_bty .list_ b_list (by rfl) G.n_list (by decide +kernel) (xa_cons (xe_var 1) (xa_nil))))) xs_nil)
    (xs_cons (xs_if ((xw_or (xt_cmp .eq (xe_var 3) (xe_int) (by first | rfl | with_unfolding_all rfl)) (xw_or1 (xt_cmp .eq (xe_var 3) (xe_int) (by first | rfl | with_unfolding_all rfl))))).pt
    (xs_one (xs_ret (xe_bin .add (xe_sl (xe_var 1) xo_none (xo_some (xe_var 4))) (xe_rev (xe_sl (xe_var 1) (xo_some (xe_var 4)) xo_none))))) xs_nil)
    (xs_cons (xs_if (xt_cmp .eq (xe_var 3) (xe_int) (by first | rfl | with_unfolding_all rfl))
    (xs_one (xs_ret (xe_bin .add (xe_bin .add (xe_sl (xe_var 1) (xo_some (xe_int)) (xo_some (xe_bin .add (xe_var 4) (xe_int)))) (xe_sl (xe_var 1) xo_none (xo_some (xe_int)))) (xe_sl (xe_var 1) (xo_some (xe_bin .add (xe_var 4) (xe_int))) xo_none)))) xs_nil)
    (xs_one (xs_ret (xe_bin .add (xe_bin .add (xe_sl (xe_var 1) xo_none (xo_some (xe_var 4))) (xe_tup (xa_cons (xe_call A.f174 hr (by rfl) (xa_cons (xe_var 0) (xa_nil))) (xa_nil)))) (xe_sl (xe_var 1) (xo_some (xe_var 4)) xo_none)))))))))) xs_nil)
    (xs_cons (xs_if (xt_truth (xe_blt .isi b_isi (by rfl) G.n_isinstance (by decide +kernel) (xa_cons (xe_var 1) (xa_cons (xe_ty (by rfl) G.n_tuple (by decide +kernel)) (xa_nil)))) (fun _ => rfl))
    (xs_cons (xs_set 4 sc_175.nd (xe_call A.f18 hr (by rfl) (xa_cons (xe_var 0) (xa_cons (xe_blt .len b_len (by rfl) G.n_len (by decide +kernel) (xa_cons (xe_var 1) (xa_nil))) (xa_nil)))))
    (xs_one (xs_ret (xe_bin .add (xe_bin .add (xe_sl (xe_var 1) xo_none (xo_some (xe_var 4))) (xe_tup (xa_cons (xe_call A.f175 hr (by rfl) (xa_cons (xe_var 0) (xa_cons (xe_ix (xe_var 1) (xe_var 4) (fun _ _ => rfl)) (xa_cons (xe_bin .sub (xe_var 2) (xe_int)) (xa_nil))))) (xa_nil)))) (xe_sl (xe_var 1) (xo_some (xe_bin .add (xe_var 4) (xe_int))) xo_none))))) xs_nil)
    (xs_cons (xs_if ((xw_and (xt_truth (xe_call A.f24 hr (by rfl) (xa_cons (xe_var 1) (xa_nil))) (fun _ => rfl)) (xw_and1 (xt_cmp .lt (xe_var 3) (xe_int) (by first | rfl | with_unfolding_all rfl))))).pt
    (xs_cons (xs_set 5 sc_175.nd (xe_lst (xa_cons (xe_bin .add (xe_var 1) (xe_int)) (xa_cons (xe_bin .sub (xe_var 1) (xe_int)) (xa_cons (xe_neg (xe_var 1)) (xa_cons (xe_bin .add (xe_var 1) (xe_int)) (xa_cons (xe_bty .str_ b_str (by rfl) G.n_str (by decide +kernel) (xa_cons (xe_var 1) (xa_nil))) (xa_cons (xe_cmp .eq (xe_var 1) (xe_int) (by first | rfl | with_unfolding_all rfl)) (xa_cons (xe_lst (xa_cons (xe_var 1) (xa_nil))) (xa_cons (xe_tup (xa_cons (xe_var 1) (xa_nil))) (xa_nil)))))))))))
    (xs_one (xs_ret (xe_ix (xe_bin .add (xe_var 5) (xe_lst (xa_cons (xe_bin .add (xe_var 1) (xe_int)) (xa_nil)))) (xe_var 3) (fun _ _ => rfl))))) xs_nil)
    (xs_one (xs_ret (xe_call A.f174 hr (by rfl) (xa_cons (xe_var 0) (xa_nil)))))))))
/-! 45: _law_among -/
theorem d_45 (A : Al P w K mg base n) (G : Gs w K mg) (fa : Addr) (cdv : Value) (Ar : Around) (outer : List PySem.Env) (s : Shared) (H : Hp) (E : XK) (hr : RoomG n (Ar.deeper (PyProof.Rows.envOfC "_law_among" (defScope s_45) s.heap.objs.size fa cdv))) :
    PSs (cxOf CX0 P w K mg base N_45 "_law_among" (defScope s_45) fa cdv Ar outer s H E).nox (defBody s_45) (trS K (run T n) b_among) :=
  (xs_one (xs_ret (xe_and (xe_call A.f24 hr (by rfl) (xa_cons (xe_var 0) (xa_nil))) (xe_one (xe_cmp .in_ (xe_var 0) (xe_var 1) (by first | rfl | with_unfolding_all rfl))))))
/-! 46: _law_is_chart -/
theorem d_46 (A : Al P w K mg base n) (G : Gs w K mg) (fa : Addr) (cdv : Value) (Ar : Around) (outer : List PySem.Env) (s : Shared) (H : Hp) (E : XK) (hr : RoomG n (Ar.deeper (PyProof.Rows.envOfC "_law_is_chart" (defScope s_46) s.heap.objs.size fa cdv))) :
    PSs (cxOf CX0 P w K mg base N_46 "_law_is_chart" (defScope s_46) fa cdv Ar outer s H E).nox (defBody s_46) (trS K (run T n) b_is_chart) :=
  (xs_cons (xs_asg (xe_var 0) (xg_tup rfl (xgs_cons (xg_name 2 sc_46.nd) (xgs_cons (xg_name 3 sc_46.nd) xgs_nil))))
    (xs_cons (xs_if ((xw_or (xt_not (xt_truth (xe_blt .isi b_isi (by rfl) G.n_isinstance (by decide +kernel) (xa_cons (xe_var 1) (xa_cons (xe_ty (by rfl) G.n_tuple (by decide +kernel)) (xa_nil)))) (fun _ => rfl))) (xw_or (xt_cmp .ne (xe_blt .len b_len (by rfl) G.n_len (by decide +kernel) (xa_cons (xe_var 1) (xa_nil))) (xe_int) (by first | rfl | with_unfolding_all rfl)) (xw_or1 (xt_not (xt_truth (xe_call A.f45 hr (by rfl) (xa_cons (xe_ix (xe_var 1) (xe_int) (fun _ _ => rfl)) (xa_cons (xe_var 2) (xa_nil)))) (fun _ => rfl))))))).pt
    (xs_one (xs_ret (xe_bl))) xs_nil)
    (xs_cons (xs_if (xt_not (xt_truth (xe_blt .isi b_isi (by rfl) G.n_isinstance (by decide +kernel) (xa_cons (xe_ix (xe_var 1) (xe_int) (fun _ _ => rfl)) (xa_cons (xe_ty (by rfl) G.n_tuple (by decide +kernel)) (xa_nil)))) (fun _ => rfl)))
    (xs_one (xs_ret (xe_bl))) xs_nil)
    (xs_cons (xs_set 4 sc_46.nd (xe_ix (xe_var 1) (xe_int) (fun _ _ => rfl)))
    (xs_cons (xs_set 5 sc_46.nd (xe_lst (xa_nil)))
    (xs_cons (xs_for PassesOwn.never rfl (xi_seq (xe_ix (xe_var 1) (xe_int) (fun _ _ => rfl))) (xg_name 6 sc_46.nd)
    (xs_cons (xs_if ((xw_or (xt_not (xt_truth (xe_blt .isi b_isi (by rfl) G.n_isinstance (by decide +kernel) (xa_cons (xe_var 6) (xa_cons (xe_ty (by rfl) G.n_tuple (by decide +kernel)) (xa_nil)))) (fun _ => rfl))) (xw_or (xt_cmp .ne (xe_blt .len b_len (by rfl) G.n_len (by decide +kernel) (xa_cons (xe_var 6) (xa_nil))) (xe_int) (by first | rfl | with_unfolding_all rfl)) (xw_or1 (xt_not (xt_truth (xe_call A.f24 hr (by rfl) (xa_cons (xe_ix (xe_var 6) (xe_int) (fun _ _ => rfl)) (xa_nil))) (fun _ => rfl))))))).pt
    (xs_one (xs_ret (xe_bl))) xs_nil)
    (xs_cons (xs_if ((xw_or (xt_not (xt_truth (xe_call A.f45 hr (by rfl) (xa_cons (xe_ix (xe_var 6) (xe_int) (fun _ _ => rfl)) (xa_cons (xe_var 2) (xa_nil)))) (fun _ => rfl))) (xw_or1 (xt_cmp .eq (xe_ix (xe_var 6) (xe_int) (fun _ _ => rfl)) (xe_var 4) (by first | rfl | with_unfolding_all rfl))))).pt
    (xs_one (xs_ret (xe_bl))) xs_nil)
    (xs_cons (xs_if ((xw_and (xt_cmp .gt (xe_blt .len b_len (by rfl) G.n_len (by decide +kernel) (xa_cons (xe_var 5) (xa_nil))) (xe_int) (by first | rfl | with_unfolding_all rfl)) (xw_and1 (xt_cmp .lt (xe_ix (xe_var 6) (xe_int) (fun _ _ => rfl)) (xe_bin .add (xe_ix (xe_var 5) (xe_neg (xe_int)) (fun _ _ => rfl)) (xe_var 3)) (by first | rfl | with_unfolding_all rfl))))).pt
    (xs_one (xs_ret (xe_bl))) xs_nil)
    (xs_cons (xs_set 4 sc_46.nd (xe_ix (xe_var 6) (xe_int) (fun _ _ => rfl)))
    (xs_one (xs_drop (xe_append (xe_var 5) (xa_cons (xe_ix (xe_var 6) (xe_int) (fun _ _ => rfl)) (xa_nil))))))))))
    (xs_one (xs_ret (xe_bl)))))))))
/-! 181: _law_tale -/
theorem d_181 (A : Al P w K mg base n) (G : Gs w K mg) (fa : Addr) (cdv : Value) (Ar : Around) (outer : List PySem.Env) (s : Shared) (H : Hp) (E : XK) (hr : RoomG n (Ar.deeper (PyProof.Rows.envOfC "_law_tale" (defScope s_181) s.heap.objs.size fa cdv))) :
    PSs (cxOf CX0 P w K mg base N_181 "_law_tale" (defScope s_181) fa cdv Ar outer s H E).nox (defBody s_181) (trS K (run T n) b_tale) :=
  (xs_cons (xs_set 2 sc_181.nd (xe_call A.f21 hr (by rfl) (xa_cons (xe_var 0) (xa_cons (xe_var 1) (xa_cons (xe_ix (xe_lst (xa_cons (xe_int) (xa_cons (xe_int) (xa_cons (xe_int) (xa_cons (xe_int) (xa_cons (xe_int) (xa_nil))))))) (xe_call A.f18 hr (by rfl) (xa_cons (xe_var 0) (xa_cons (xe_int) (xa_nil)))) (fun _ _ => rfl)) (xa_nil))))))
    (xs_cons (xs_for PassesOwn.never rfl (xi_range1 (by rfl) G.n_range (xa_cons (xe_call A.f18 hr (by rfl) (xa_cons (xe_var 0) (xa_cons (xe_int) (xa_nil)))) (xa_nil))) (xg_name 3 sc_181.nd)
    (xs_one (xs_set 2 sc_181.nd (xe_call A.f175 hr (by rfl) (xa_cons (xe_var 0) (xa_cons (xe_var 2) (xa_cons (xe_int) (xa_nil))))))))
    (xs_one (xs_ret (xe_var 2)))))
/-! 182: law -/
theorem d_182 (A : Al P w K mg base n) (G : Gs w K mg) (fa : Addr) (cdv : Value) (Ar : Around) (outer : List PySem.Env) (s : Shared) (H : Hp) (E : XK) (hr : RoomG n (Ar.deeper (PyProof.Rows.envOfC "law" (defScope s_182) s.heap.objs.size fa cdv))) :
    PSs (cxOf CX0 P w K mg base N_182 "law" (defScope s_182) fa cdv Ar outer s H E).nox (defBody s_182) (trS K (run T n) b_law_k03) :=
  (xs_cons (xs_for PassesOwn.never rfl (xi_seq (xe_bin .add (xe_lst (xa_cons (xe_bin .add (xe_bin .pow (xe_int) (xe_int)) (xe_int)) (xa_nil))) (xe_sl (xe_var 0) xo_none (xo_some (xe_int))))) (xg_name 1 sc_182.nd)
    (xs_cons (xs_set 2 sc_182.nd (xe_call A.f17 hr (by rfl) (xa_cons (xe_var 1) (xa_nil))))
    (xs_cons (xs_set 3 sc_182.nd (xe_call A.f20 hr (by rfl) (xa_cons (xe_var 2) (xa_nil))))
    (xs_cons (xs_set 4 sc_182.nd (xe_tup (xa_cons (xe_ix (xe_var 3) (xe_int) (fun _ _ => rfl)) (xa_cons (xe_bin .add (xe_bin .add (xe_bin .sub (xe_ix (xe_ix (xe_var 3) (xe_int) (fun _ _ => rfl)) (xe_neg (xe_int)) (fun _ _ => rfl)) (xe_ix (xe_ix (xe_var 3) (xe_int) (fun _ _ => rfl)) (xe_int) (fun _ _ => rfl))) (xe_int)) (xe_call A.f18 hr (by rfl) (xa_cons (xe_var 2) (xa_cons (xe_int) (xa_nil))))) (xa_nil)))))
    (xs_cons (xs_if (xt_cmp .eq (xe_call A.f18 hr (by rfl) (xa_cons (xe_var 2) (xa_cons (xe_int) (xa_nil)))) (xe_int) (by first | rfl | with_unfolding_all rfl))
    (xs_one (xs_set 4 sc_182.nd (xe_call A.f20 hr (by rfl) (xa_cons (xe_var 2) (xa_nil))))) xs_nil)
    (xs_cons (xs_set 5 sc_182.nd (xe_lst (xa_cons (xe_ix (xe_var 2) (xe_int) (fun _ _ => rfl)) (xa_nil))))
    (xs_cons (xs_set 6 sc_182.nd (xe_call A.f181 hr (by rfl) (xa_cons (xe_var 2) (xa_cons (xe_var 3) (xa_nil)))))
    (xs_cons (xs_set 7 sc_182.nd (xe_call A.f181 hr (by rfl) (xa_cons (xe_var 5) (xa_cons (xe_var 3) (xa_nil)))))
    (xs_cons (xs_for PassesOwn.never rfl (xi_seq (xe_lst (xa_cons (xe_var 3) (xa_cons (xe_var 4) (xa_cons (xe_var 3) (xa_nil)))))) (xg_name 8 sc_182.nd)
    (xs_one (xs_if (xt_not (xt_truth (xe_call A.f25 hr (by rfl) (xa_cons (xe_call A.f180 hr (by rfl) (xa_cons (xe_var 8) (xa_cons (xe_var 6) (xa_nil)))) (xa_cons (xe_call A.f46 hr (by rfl) (xa_cons (xe_var 8) (xa_cons (xe_var 6) (xa_nil)))) (xa_nil)))) (fun _ => rfl)))
    (xs_one (xs_ret (xe_bl))) xs_nil)))
    (xs_cons (xs_if (xt_not (xt_truth (xe_call A.f25 hr (by rfl) (xa_cons (xe_callK0 A.f180 ["value", "zone"] [1, 0] (fun _ _ _ _ _ _ ws h => match ws, h with | [_, _], _ => rfl) rfl hr (by rfl) (xk_cons (xe_var 6) (xk_cons (xe_var 3) xk_nil))) (xa_cons (xe_call A.f46 hr (by rfl) (xa_cons (xe_var 3) (xa_cons (xe_var 6) (xa_nil)))) (xa_nil)))) (fun _ => rfl)))
    (xs_one (xs_ret (xe_bl))) xs_nil)
    (xs_one (xs_if (xt_not (xt_truth (xe_call A.f25 hr (by rfl) (xa_cons (xe_var 6) (xa_cons (xe_var 7) (xa_nil)))) (fun _ => rfl)))
    (xs_one (xs_ret (xe_bl))) xs_nil))))))))))))
    (xs_one (xs_ret (xe_bl))))
end

end Lw
namespace Lw
open PySem L2 Ix
/-! ### draws -/
theorem draw_ok {n p : Nat} {S : Hd} {u : Int} (hS : Pot p S) (hu : 0 < u) (hb : u < 2 ^ 64) :
    M (run T (n + 1) 18 [.ref p, .int u] S) fun r => ∃ z S', r = (.int z, S') ∧ 0 ≤ z ∧ z < u ∧ Pot p S' ∧ Le p S S' := by
  obtain ⟨q, hq⟩ := hS
  have hp := lt_of_get hq
  refine run_M T_draw rfl ?_
  show M (ex (run T n) b_draw [some (.ref p), some (.int u), none] S) _
  unfold b_draw
  simp? only [q_ixL hq, q_mod hu, q_fdiv hu hb, q_set hq (show ixN (1 : Nat) 0 = some 0 from rfl)]
  exact ⟨_, _, rfl, Int.emod_nonneg _ (by omega), Int.emod_lt_of_pos _ hu, ⟨_, List.getElem?_set_self hp⟩, Le.set _ _ _⟩
theorem digits_ok {n : Nat} {S : Hd} (c : Int) :
    M (run T (n + 1) 17 [.int c] S) fun r => ∃ p S', r = (.ref p, S') ∧ p = S.length ∧ Pot p S' ∧ Lq S S' := by
  refine run_M T_digits rfl ?_
  show M (ex (run T n) b_digits [some (.int c), none, none, none] S) _
  unfold b_digits
  refine seq_Mx ?_
  simp? only []
  by_cases h : 1000000000000000000 ≤ c
  · simp only [if_pos h, show (1 : Nat) ≤ most by decide, ex, ev, M_bind, M_map, M_some, M_ite, t_eq, a_tup, al_eq, List.getElem?_cons_zero, List.getElem?_cons_succ, Option.bind_some, Option.map_some, q_add, q_sub, q_lt, q_le, q_gt, q_ge, q_eqI, q_neI, q_eqB, q_neB, q_isN, q_notN, Ix.isNon, q_ixT, q_ixR, atI_0, atI_1, atI_2, atI_3, atI_4, atI_5, atI_6, atI_7, q_slT, q_slR, q_revT, q_seqT, q_int, q_intB, q_max, q_min, q_abs, q_tupT, n_tup, n_int, n_bl, n_non, n_str, isi_ii, isi_ib, isi_tt, isi_itl, isi_btl, isi_ttl, isi_tl, isi_bb, u_bl, u_int, u_non, u_tup, g_name, g_tup, g_nil, g_cons, o_ret, o_nx, i_seq, List.set_cons_zero, List.set_cons_succ, decide_eq_true_eq, Bool.not_eq_true', decide_eq_false_iff_not, evP, Bool.false_eq_true, if_true, if_false, ite_true, ite_false, reduceIte, Bool.not_true, Bool.not_false, Option.some.injEq, q_pow10, Int.reduceToNat, Int.reducePow, Int.reduceAdd, Int.reduceSub, Int.reduceMul, Int.reduceNeg, Int.reduceLT, Int.reduceLE, Nat.reducePow, Nat.reduceLT, Nat.reduceLeDiff, Nat.reduceAdd, List.length_cons, List.length_nil, Int.neg_neg, Nat.zero_add]
    exact ⟨_, _, rfl, rfl, ⟨_, get_new⟩, Lq.app _ _⟩
  · simp only [if_neg h]
    simp? only [q_mod (show (0 : Int) < 100000000000000000000000000000000000133 by decide), i_rng (i := 19) (by decide) (by decide)]
    refine M_loopS (m := 0) (fun i env S1 => S1 = S ∧ ∃ mx fl v, env = [some (.int c), some (.int mx), some (.int fl), v] ∧ 0 ≤ mx ∧ mx < 10 ^ 41 + 9 ∧ fl.natAbs < 2 ^ (200 * i + 200) ∧ i ≤ 19) ?_ ?_ ?_
    · refine ⟨rfl, _, _, _, rfl, ?_, ?_, by decide, by decide⟩
      · have := Int.emod_nonneg c (b := 100000000000000000000000000000000000133) (by decide)
        omega
      · have := Int.emod_lt_of_pos c (b := 100000000000000000000000000000000000133) (by decide)
        omega
    · rintro i d env S1 hi ⟨rfl, mx, fl, v, rfl, h0, h1, h2, h3⟩
      rw [Nat.zero_add] at h2 h3
      obtain ⟨hm, rfl⟩ := rng_get hi
      clear hi
      have bm : mx.natAbs.log2 < 137 := log2_le 137 (by omega) (by decide)
      have bf : fl.natAbs.log2 < 200 * i + 200 := log2_le _ h2 (by omega)
      have b1 : (31415926535 : Int).natAbs.log2 = 34 := by decide
      have b2 : (271829 : Int).natAbs.log2 = 18 := by decide
      have b3 : ((0 : Int) + (i : Int)).natAbs.log2 < 5 := log2_le 5 (by omega) (by decide)
      have b4 : ((100000000000000000000000000000000000000000 : Int)).natAbs.log2 = 136 := by decide
      simp? only [q_mulW (i := mx) (j := mx) (by omega), q_mulW (i := 31415926535) (j := mx) (by omega), q_mulW (i := 271829) (j := 0 + (i : Int)) (by omega), q_mod (show (0 : Int) < 100000000000000000000000000000000000000009 by decide), q_mulW (i := fl) (j := 100000000000000000000000000000000000000000) (by omega)]
      have e0 := Int.emod_nonneg (mx * mx + 31415926535 * mx + 271829 * (0 + (i : Int)) + 17) (b := 100000000000000000000000000000000000000009) (by decide)
      have e1 := Int.emod_lt_of_pos (mx * mx + 31415926535 * mx + 271829 * (0 + (i : Int)) + 17) (b := 100000000000000000000000000000000000000009) (by decide)
      generalize (mx * mx + 31415926535 * mx + 271829 * (0 + (i : Int)) + 17) % 100000000000000000000000000000000000000009 = my at e0 e1 ⊢
      by_cases hk : 2 < (0 : Int) + (i : Int)
      · simp only [if_pos hk]
        refine ⟨trivial, trivial, my, _, _, rfl, e0, by omega, ?_, by omega⟩
        have hb : (fl * 100000000000000000000000000000000000000000).natAbs < 2 ^ (200 * i + 200 + 137) := by
          rw [Int.natAbs_mul, Nat.pow_add]
          exact Nat.mul_lt_mul'' h2 (by decide)
        have h5 : (2 : Nat) ^ (200 * (0 + i + 1) + 200) = 2 ^ (200 * i + 200 + 137) * 2 ^ 63 := by
          rw [← Nat.pow_add]
          congr 1
          omega
        have h6 : (2 : Nat) ^ 137 ≤ 2 ^ (200 * i + 200 + 137) := Nat.pow_le_pow_right (by decide) (by omega)
        have h7 : my.natAbs < 2 ^ 137 := by omega
        have h8 := Int.natAbs_add_le (fl * 100000000000000000000000000000000000000000) my
        rw [h5]
        generalize (2 : Nat) ^ (200 * i + 200 + 137) = X at hb h6 ⊢
        generalize (fl * 100000000000000000000000000000000000000000).natAbs = Y at hb h8
        omega
      · simp only [if_neg hk]
        refine ⟨trivial, trivial, my, _, _, rfl, e0, by omega, ?_, by omega⟩
        exact Nat.lt_of_lt_of_le h2 (Nat.pow_le_pow_right (by decide) (by omega))
    · rintro env S1 ⟨rfl, mx, fl, v, rfl, _⟩
      simp? only [show (1 : Nat) ≤ most by decide, Nat.zero_add]
      exact ⟨_, _, rfl, rfl, ⟨_, get_new⟩, Lq.app _ _⟩
end Lw

namespace Lw
open PySem L2 Ix
/-! ### zones -/
def zoneD (os : List Int) (sp : Int) : D := .tup [.tup (os.map .int), .int sp]
structure Zone (os : List Int) (sp : Int) : Prop where
  len1 : 1 ≤ os.length
  len3 : os.length ≤ 3
  asc : os.Pairwise (· < ·)
  lo : ∀ x ∈ os, -900 ≤ x
  hi : ∀ x ∈ os, x ≤ 900
  gap : ∀ x ∈ os, ∀ y ∈ os, y - x < sp
  top : sp ≤ 1000000
theorem ends {os : List Int} (h1 : 1 ≤ os.length) (h3 : os.length ≤ 3) (ha : os.Pairwise (· < ·)) :
    ∃ a b, a ∈ os ∧ b ∈ os ∧ atI (os.map D.int) 0 = some (.int a) ∧ atI (os.map D.int) (-1) = some (.int b) ∧ ∀ x ∈ os, a ≤ x ∧ x ≤ b := by
  match os, h1, h3, ha with
  | [x], _, _, _ => exact ⟨x, x, by simp, by simp, rfl, rfl, by simp⟩
  | [x, y], _, _, ha =>
    simp at ha
    exact ⟨x, y, by simp, by simp, rfl, rfl, by simp; omega⟩
  | [x, y, z], _, _, ha =>
    simp at ha
    exact ⟨x, z, by simp, by simp, rfl, rfl, by simp; omega⟩
/-- a tuple of ints, each put in the place of its item -/
theorem neg_map {n : Nat} {S : Hd} {os : List Int} {env : Sl} (hz : os.length ≤ 3) (h7 : env[7]? = some (some (.tup (os.map .int)))) (hl : env.length = 11) {Q : D × Hd → Prop}
    (hq : ∀ S2, Lq S S2 → Q (.tup ((os.reverse.map fun x => -x).map .int), S2)) :
    M (ev (run T n) (.blt .tuple_ (.cons (.lc .seq (.cons (.rev (.var 7)) .nil) (.name 8) (.c (.bl true)) (.neg (.var 8)) [8]) .nil)) env S) Q := by
  refine M_blt1 ?_
  have ms : (3 : Nat) < most := by decide
  refine M_lc (S1 := S) (ds := [.tup (os.map D.int).reverse]) (its := (os.map D.int).reverse) (fun i => .int (-((os.reverse)[i]?.getD 0))) (by decide) (by simp only [ev, h7, Option.bind_some, revD, argsOf, Option.map_some]) rfl (by simp; omega) (fun i d S2 hi l => ?_) (fun _ _ => rfl) fun j S2 hj hg l => ?_
  · rw [← List.map_reverse, List.getElem?_map] at hi
    cases hx : os.reverse[i]? with
    | none => rw [hx] at hi; cases hi
    | some x =>
      rw [hx] at hi
      simp only [Option.map_some, Option.some.injEq] at hi
      subst hi
      refine ⟨_, rfl, ?_⟩
      simp only [ev, wipeD]
      rw [List.getElem?_set_self (by simp [hl])]
      simp only [Option.bind_some, M_some, Option.getD_some]
      exact ⟨trivial, Lq.refl _⟩
  · simp only [q_tupL hg, M_some]
    have e : (List.range (os.map D.int).reverse.length).map (fun i => D.int (-((os.reverse)[i]?.getD 0))) = ((os.reverse.map fun x => -x).map .int) := by
      apply List.ext_getElem?
      intro i
      simp only [List.getElem?_map, List.length_reverse, List.length_map]
      by_cases hi : i < os.length
      · rw [List.getElem?_range hi, List.getElem?_eq_getElem (by simpa using hi)]
        simp
        rw [List.getElem?_reverse hi, List.getElem?_eq_getElem (by omega)]
        rfl
      · rw [List.getElem?_eq_none (by simpa using hi), List.getElem?_eq_none (by simpa using hi)]
        rfl
    rw [e]
    exact hq S2 l
theorem make_region_ok {n p : Nat} {S : Hd} (hS : Pot p S) :
    M (run T (n + 2) 20 [.ref p] S) fun r => ∃ os sp S', r = (zoneD os sp, S') ∧ Zone os sp ∧ Pot p S' ∧ Le p S S' := by
  refine run_M T_make_region rfl ?_
  show M (ex (run T (n + 1)) b_make_region [some (.ref p), none, none, none, none, none, none, none, none, none, none] S) _
  unfold b_make_region
  refine seq_M (fun env S1 => ∃ k : Int, env = [some (.ref p), some (.int k), none, none, none, none, none, none, none, none, none] ∧ 0 ≤ k ∧ k < 6 ∧ Pot p S1 ∧ Le p S S1) ?_ ?_
  · simp? only []
    refine (draw_ok hS (by decide) (by decide)).imp ?_
    rintro _ ⟨z, S1, rfl, h0, h1, p1, l1⟩
    exact ⟨trivial, z, rfl, h0, h1, p1, l1⟩
  rintro _ S1 ⟨k, rfl, k0, k1, p1, l1⟩
  refine seq_M (fun env S2 => S2 = S1 ∧ env = [some (.ref p), some (.int k), some (.int (-900)), none, none, none, none, none, none, none, none]) ?_ ?_
  · simp? only []
    exact ⟨trivial, trivial, trivial⟩
  rintro _ _ ⟨rfl, rfl⟩
  refine seq_M (fun env S2 => ∃ low : Int, env = [some (.ref p), some (.int k), some (.int low), none, none, none, none, none, none, none, none] ∧ Pot p S2 ∧ Le p S S2 ∧
    (k < 2 → -3 ≤ low ∧ low ≤ 3) ∧ (k = 2 → -660 ≤ low ∧ low ≤ 660) ∧ (k = 4 → -900 ≤ low ∧ low ≤ 300) ∧ (k = 3 → low = -900) ∧ (k = 5 → low = -900)) ?_ ?_
  · simp? only []
    by_cases c1 : k < 2
    · simp only [if_pos c1]
      refine (draw_ok p1 (by decide) (by decide)).imp ?_
      rintro _ ⟨z, S2, rfl, h0, h1, p2, l2⟩
      simp? only []
      exact ⟨trivial, z - 3, rfl, p2, l1.trans l2, by omega, by omega, by omega, by omega, by omega⟩
    · simp only [if_neg c1]
      by_cases c2 : k = 2
      · simp only [if_pos c2]
        refine (draw_ok p1 (by decide) (by decide)).imp ?_
        rintro _ ⟨z, S2, rfl, h0, h1, p2, l2⟩
        simp? only [q_mul (i := 30) (j := z - 22) (by decide) (by decide) (by omega) (by omega)]
        exact ⟨trivial, 30 * (z - 22), rfl, p2, l1.trans l2, by omega, by omega, by omega, by omega, by omega⟩
      · simp only [if_neg c2]
        by_cases c3 : k = 4
        · simp only [if_pos c3]
          refine (draw_ok p1 (by decide) (by decide)).imp ?_
          rintro _ ⟨z, S2, rfl, h0, h1, p2, l2⟩
          simp? only []
          exact ⟨trivial, z - 900, rfl, p2, l1.trans l2, by omega, by omega, by omega, by omega, by omega⟩
        · simp only [if_neg c3]
          exact ⟨trivial, -900, rfl, p1, l1, by omega, by omega, by omega, by omega, by omega⟩
  rintro _ S2 ⟨low, rfl, p2, l2, f1, f2, f4, f3, f5⟩
  refine seq_M (fun env S3 => ∃ un wd : Int, env = [some (.ref p), some (.int k), some (.int low), some (.int un), some (.int wd), none, none, none, none, none, none] ∧ Pot p S3 ∧ Le p S S3 ∧
    1 ≤ un ∧ 1 ≤ wd ∧ un ≤ 900 ∧ wd ≤ 900 ∧ -900 ≤ low ∧ low + 2 * (un * wd) ≤ 900) ?_ ?_
  · simp? only [show (2 : Nat) ≤ most by decide, show (6 : Nat) ≤ most by decide, q_ixL get_new]
    have hk : k = 0 ∨ k = 1 ∨ k = 2 ∨ k = 3 ∨ k = 4 ∨ k = 5 := by omega
    have go : ∀ un wd : Int, 1 ≤ un → 1 ≤ wd → un ≤ 900 → wd ≤ 900 → -900 ≤ low → low + 2 * (un * wd) ≤ 900 → ∃ un' wd' : Int, [some (D.ref p), some (D.int k), some (D.int low), some (D.int un), some (D.int wd), none, none, none, none, none, none] = [some (D.ref p), some (D.int k), some (D.int low), some (D.int un'), some (D.int wd'), none, none, none, none, none, none] ∧
        Pot p (S2 ++ [O.lst [D.tup [D.int 1, D.int 4], D.tup [D.int 1, D.int 4], D.tup [D.int 30, D.int 4], D.tup [D.int 1, D.int 900], D.tup [D.int 1, D.int 300], D.tup [D.int 900, D.int 1]]]) ∧
        Le p S (S2 ++ [O.lst [D.tup [D.int 1, D.int 4], D.tup [D.int 1, D.int 4], D.tup [D.int 30, D.int 4], D.tup [D.int 1, D.int 900], D.tup [D.int 1, D.int 300], D.tup [D.int 900, D.int 1]]]) ∧
        1 ≤ un' ∧ 1 ≤ wd' ∧ un' ≤ 900 ∧ wd' ≤ 900 ∧ -900 ≤ low ∧ low + 2 * (un' * wd') ≤ 900 := fun un wd a b c d e f => ⟨un, wd, rfl, p2.app _, l2.trans (Le.app _ _ _), a, b, c, d, e, f⟩
    rcases hk with rfl | rfl | rfl | rfl | rfl | rfl
    all_goals
      simp? only []
      exact ⟨trivial, go _ _ (by decide) (by decide) (by decide) (by decide) (by omega) (by omega)⟩
  rintro _ S3 ⟨un, wd, rfl, p3, l3, u1, w1, u2, w2, lw, hw⟩
  have hm : un ≤ un * wd := by
    have := Int.mul_le_mul_of_nonneg_left (c := un) w1 (by omega)
    omega
  refine seq_M (fun env S4 => ∃ mid : Int, env = [some (.ref p), some (.int k), some (.int low), some (.int un), some (.int wd), some (.int mid), none, none, none, none, none] ∧ Pot p S4 ∧ Le p S S4 ∧ low < mid ∧ mid ≤ low + un * wd) ?_ ?_
  · simp? only []
    refine (draw_ok p3 (by omega) (by omega)).imp ?_
    rintro _ ⟨z, S4, rfl, h0, h1, p4, l4⟩
    simp? only [q_mul (i := un) (j := 1 + z) (by omega) (by omega) (by omega) (by omega)]
    have e1 : un * 1 ≤ un * (1 + z) := Int.mul_le_mul_of_nonneg_left (by omega) (by omega)
    have e2 : un * (1 + z) ≤ un * wd := Int.mul_le_mul_of_nonneg_left (by omega) (by omega)
    exact ⟨trivial, _, rfl, p4, l3.trans l4, by omega, by omega⟩
  rintro _ S4 ⟨mid, rfl, p4, l4, m1, m2⟩
  refine seq_M (fun env S5 => ∃ top : Int, env = [some (.ref p), some (.int k), some (.int low), some (.int un), some (.int wd), some (.int mid), some (.int top), none, none, none, none] ∧ Pot p S5 ∧ Le p S S5 ∧ mid < top ∧ top ≤ 900) ?_ ?_
  · simp? only []
    refine (draw_ok p4 (by omega) (by omega)).imp ?_
    rintro _ ⟨z, S5, rfl, h0, h1, p5, l5⟩
    simp? only [q_mul (i := un) (j := 1 + z) (by omega) (by omega) (by omega) (by omega)]
    have e1 : un * 1 ≤ un * (1 + z) := Int.mul_le_mul_of_nonneg_left (by omega) (by omega)
    have e2 : un * (1 + z) ≤ un * wd := Int.mul_le_mul_of_nonneg_left (by omega) (by omega)
    exact ⟨trivial, _, rfl, p5, l4.trans l5, by omega, by omega⟩
  rintro _ S5 ⟨top, rfl, p5, l5, t1, t2⟩
  refine seq_M (fun env S6 => env = [some (.ref p), some (.int k), some (.int low), some (.int un), some (.int wd), some (.int mid), some (.int top), some (.ref S5.length), none, none, none] ∧
    S6 = S5 ++ [.lst [.tup [.int low, .int mid], .tup [.int low, .int mid, .int top], .tup [.int low, .int top], .tup [.int low, .int mid, .int top], .tup [.int top]]]) ?_ ?_
  · simp? only [show (3 : Nat) ≤ most by decide, show (2 : Nat) ≤ most by decide, show (1 : Nat) ≤ most by decide, show (5 : Nat) ≤ most by decide, Nat.zero_add]
    exact ⟨trivial, trivial, trivial⟩
  rintro _ _ ⟨rfl, rfl⟩
  refine seq_M (fun env S6 => ∃ os : List Int, env = [some (.ref p), some (.int k), some (.int low), some (.int un), some (.int wd), some (.int mid), some (.int top), some (.tup (os.map .int)), none, none, none] ∧ Pot p S6 ∧ Le p S S6 ∧
    1 ≤ os.length ∧ os.length ≤ 3 ∧ os.Pairwise (· < ·) ∧ (∀ x ∈ os, -900 ≤ x ∧ x ≤ 900)) ?_ ?_
  · simp? only []
    refine (draw_ok (p5.app _) (by omega) (by omega)).imp ?_
    rintro _ ⟨z, S6, rfl, h0, h1, p6, l6⟩
    simp? only [q_fdiv (i := z) (j := 2) (by decide) (by decide), q_ixL (l6.at p5.ne get_new)]
    have l7 : Le p S S6 := (l5.trans (Le.app _ _ _)).trans l6
    have hz : z / 2 = 0 ∨ z / 2 = 1 ∨ z / 2 = 2 ∨ z / 2 = 3 ∨ z / 2 = 4 := by omega
    rcases hz with e | e | e | e | e <;> rw [e] <;> simp? only []
    · exact ⟨trivial, [low, mid], rfl, p6, l7, by simp, by simp, by simp; omega, by simp; omega⟩
    · exact ⟨trivial, [low, mid, top], rfl, p6, l7, by simp, by simp, by simp; omega, by simp; omega⟩
    · exact ⟨trivial, [low, top], rfl, p6, l7, by simp, by simp, by simp; omega, by simp; omega⟩
    · exact ⟨trivial, [low, mid, top], rfl, p6, l7, by simp, by simp, by simp; omega, by simp; omega⟩
    · exact ⟨trivial, [top], rfl, p6, l7, by simp, by simp, by simp, by simp; omega⟩
  rintro _ S6 ⟨os, rfl, p6, l6, o1, o3, oa, ob⟩
  refine seq_M (fun env S7 => ∃ os : List Int, env = [some (.ref p), some (.int k), some (.int low), some (.int un), some (.int wd), some (.int mid), some (.int top), some (.tup (os.map .int)), none, none, none] ∧ Pot p S7 ∧ Le p S S7 ∧
    1 ≤ os.length ∧ os.length ≤ 3 ∧ os.Pairwise (· < ·) ∧ (∀ x ∈ os, -900 ≤ x ∧ x ≤ 900)) ?_ ?_
  · simp only [ex, M_bind, t_eq]
    refine M.imp (P := fun r => ∃ z S7, r = (.bl z, S7) ∧ Pot p S7 ∧ Le p S6 S7) ?_ ?_
    · simp? only []
      refine (draw_ok p6 (by omega) (by omega)).imp ?_
      rintro _ ⟨z, S7, rfl, h0, h1, p7, l7⟩
      simp? only []
      exact ⟨_, _, rfl, p7, l7⟩
    rintro _ ⟨z, S7, rfl, p7, l7⟩
    simp only [u_bl, Option.map_some, M_some]
    cases z with
    | false =>
      simp? only []
      exact ⟨trivial, os, rfl, p7, l6.trans l7, o1, o3, oa, ob⟩
    | true =>
      simp only [if_true, M_bind]
      refine neg_map (os := os) o3 rfl rfl fun S8 l8 => ?_
      simp? only []
      refine ⟨trivial, _, rfl, p7.lq l8, (l6.trans l7).trans l8.le, by simpa using o1, by simpa using o3, ?_, ?_⟩
      · rw [List.pairwise_map, List.pairwise_reverse]
        exact oa.imp fun h => by omega
      · intro x hx
        simp only [List.mem_map, List.mem_reverse] at hx
        obtain ⟨y, hy, rfl⟩ := hx
        have := ob y hy
        omega
  rintro _ S7 ⟨os, rfl, p7, l7, o1, o3, oa, ob⟩
  obtain ⟨a, b, ha, hb, e0, e1, hab⟩ := ends o1 o3 oa
  have ba := ob a ha
  have bb := ob b hb
  have hab' := hab a ha
  refine seq_M (fun env S8 => env = [some (.ref p), some (.int k), some (.int low), some (.int un), some (.int wd), some (.int mid), some (.int top), some (.tup (os.map .int)), none, some (.int (b - a)), none] ∧ S8 = S7) ?_ ?_
  · simp? only [e0, e1]
    exact ⟨trivial, trivial, trivial⟩
  rintro _ _ ⟨rfl, rfl⟩
  refine seq_M (fun env S9 => ∃ (c : Nat) (x y : Int), env = [some (.ref p), some (.int k), some (.int low), some (.int un), some (.int wd), some (.int mid), some (.int top), some (.tup (os.map .int)), none, some (.int (b - a)), some (.ref c)] ∧ c ≠ p ∧
    Pot p S9 ∧ Le p S S9 ∧ S9[c]? = some (.lst ([0, 0, 1, x, y, 999999 - (b - a)].map .int)) ∧ 0 ≤ x ∧ x < 1000 ∧ 0 ≤ y ∧ y < 1000000 - (b - a)) ?_ ?_
  · simp? only []
    refine (draw_ok p7 (by omega) (by omega)).imp ?_
    rintro _ ⟨x, S8, rfl, h0, h1, p8, l8⟩
    simp? only []
    refine (draw_ok p8 (by omega) (by omega)).imp ?_
    rintro _ ⟨y, S9, rfl, g0, g1, p9, l9⟩
    simp? only [show (6 : Nat) ≤ most by decide, Nat.zero_add]
    exact ⟨trivial, _, x, y, rfl, p9.ne, p9.app _, ((l7.trans l8).trans l9).trans (Le.app _ _ _), get_new, h0, h1, g0, g1⟩
  rintro _ S9 ⟨c, x, y, rfl, hc, p9, l9, gc, h0, h1, g0, g1⟩
  simp? only []
  refine (draw_ok p9 (by omega) (by omega)).imp ?_
  rintro _ ⟨z, S10, rfl, z0, z1, p10, l10⟩
  obtain ⟨v, _, hv, ev⟩ := atI_ints (ns := [0, 0, 1, x, y, 999999 - (b - a)]) z0 z1
  simp? only [q_ixL (l10.at hc gc), ev, show (2 : Nat) ≤ most by decide, Nat.zero_add]
  simp only [List.mem_cons, List.not_mem_nil, or_false] at hv
  refine ⟨os, b - a + 1 + v, _, rfl, ⟨o1, o3, oa, fun u hu => (ob u hu).1, fun u hu => (ob u hu).2, fun u hu w hw => ?_, by omega⟩, p10, l9.trans l10⟩
  have := hab u hu
  have := hab w hw
  omega
end Lw

namespace Lw
open PySem L2 Ix
/-! ### tables -/
def Adj {β : Type} (R : β → β → Prop) (l : List β) : Prop := ∀ (i : Nat) (x y : β), l[i]? = some x → l[i + 1]? = some y → R x y
theorem Adj.nil {β : Type} {R : β → β → Prop} : Adj R ([] : List β) := fun i x y h => by simp at h
theorem Adj.one {β : Type} {R : β → β → Prop} {a : β} : Adj R [a] := fun i x y _ h => by simp at h
theorem Adj.snoc {β : Type} {R : β → β → Prop} {l : List β} {b : β} (h : Adj R l) (k : ∀ x, l.getLast? = some x → R x b) : Adj R (l ++ [b]) := fun i x y h1 h2 => by
  by_cases hi : i + 1 < l.length
  · rw [List.getElem?_append_left (by omega)] at h1
    rw [List.getElem?_append_left hi] at h2
    exact h i x y h1 h2
  · by_cases hj : i + 1 = l.length
    · rw [List.getElem?_append_left (by omega)] at h1
      rw [List.getElem?_append_right (by omega), hj, Nat.sub_self] at h2
      have e : b = y := by simpa using h2
      subst e
      refine k x ?_
      rw [List.getLast?_eq_getElem?, ← hj]
      exact h1
    · rw [List.getElem?_eq_none (by simp; omega)] at h2
      cases h2
def jumpD (j : Int × Int) : D := .tup [.int j.1, .int j.2]
def chartD (off : Int) (js : List (Int × Int)) : D := .tup [.int off, .tup (js.map jumpD)]
structure Chart (os : List Int) (sp off : Int) (js : List (Int × Int)) : Prop where
  first : off ∈ os
  mem : ∀ j ∈ js, j.2 ∈ os
  far : Adj (fun x y => x + sp ≤ y) (js.map (·.1))
  alt : Adj (fun x y => x ≠ y) (off :: js.map (·.2))
theorem os_ne {os : List Int} (ha : os.Pairwise (· < ·)) {i j : Nat} {x y : Int} (h1 : os[i]? = some x) (h2 : os[j]? = some y) (h : i ≠ j) : x ≠ y := by
  rw [List.pairwise_iff_getElem] at ha
  obtain ⟨a, e1⟩ := List.getElem?_eq_some_iff.mp h1
  obtain ⟨b, e2⟩ := List.getElem?_eq_some_iff.mp h2
  rcases Nat.lt_or_gt_of_ne h with q | q
  · have := ha i j a b q
    omega
  · have := ha j i b a q
    omega
theorem atI_os {os : List Int} {a : Int} (h0 : 0 ≤ a) (h1 : a < os.length) : ∃ x, os[a.toNat]? = some x ∧ x ∈ os ∧ atI (os.map D.int) a = some (.int x) := atI_ints h0 h1
end Lw

namespace Lw
open PySem L2 Ix
/-! ### the program's tests of what is a zone, a table -/
theorem is_number_ok {n : Nat} {S : Hd} {i : Int} : Pu (run T (n + 1) 0 [.int i] S) (.bl true) S := by
  refine Pu.run T_is_number rfl ?_
  show M (ex (run T n) b_is_number [some (.int i)] S) _
  unfold b_is_number
  simp? only []
  exact ⟨trivial, Lq.refl _⟩
theorem whole_ok {n : Nat} {S : Hd} {i : Int} : Pu (run T (n + 1) 24 [.int i] S) (.bl true) S := by
  refine Pu.run T_whole rfl ?_
  show M (ex (run T n) b_whole [some (.int i)] S) _
  unfold b_whole
  simp? only []
  exact ⟨trivial, Lq.refl _⟩
theorem is_pair_ok {n : Nat} {S : Hd} {a b : D} : Pu (run T (n + 1) 1 [.tup [a, b]] S) (.bl true) S := by
  refine Pu.run T_is_pair rfl ?_
  show M (ex (run T n) b_is_pair [some (.tup [a, b])] S) _
  unfold b_is_pair
  simp? only [q_len q_seqT]
  exact ⟨rfl, Lq.refl _⟩
theorem is_near_ok {n : Nat} {S : Hd} {i : Int} (h1 : -900 ≤ i) (h2 : i ≤ 900) : Pu (run T (n + 2) 4 [.int i] S) (.bl true) S := by
  refine Pu.run T_is_near rfl ?_
  show M (ex (run T (n + 1)) b_is_near [some (.int i)] S) _
  unfold b_is_near
  simp? only []
  refine is_number_ok.use fun S1 l1 => ?_
  simp? only [h1, h2, decide_true]
  exact ⟨trivial, l1⟩
theorem is_ascending_ok {n : Nat} {S : Hd} {os : List Int} (ha : os.Pairwise (· < ·)) (hz : os.length ≤ 1000) : Pu (run T (n + 1) 3 [.tup (os.map .int)] S) (.bl true) S := by
  refine Pu.run T_is_ascending rfl ?_
  show M (ex (run T n) b_is_ascending [some (.tup (os.map .int)), none, none] S) _
  unfold b_is_ascending
  simp only [ex, M_map]
  refine M_allT (S1 := S) (ds := [.tup (os.map .int), .tup ((os.map D.int).drop 1)]) (its := List.zipWith (fun a b => D.tup [a, b]) (os.map .int) ((os.map .int).drop 1)) (by decide)
    (by simp? only [cut_1]) (Lq.refl _) rfl (by have h : (1000 : Nat) < most := (by decide); simp; omega) (fun i d S2 hi l => ?_) (fun _ _ => rfl) fun S2 l => ?_
  · obtain ⟨x, y, e1, e2, rfl⟩ := zip_get hi
    refine ⟨_, rfl, ?_⟩
    simp? only [wipeD]
    refine ⟨?_, Lq.refl _⟩
    rw [List.pairwise_iff_getElem] at ha
    obtain ⟨q1, e1⟩ := List.getElem?_eq_some_iff.mp e1
    obtain ⟨q2, e2⟩ := List.getElem?_eq_some_iff.mp e2
    have := ha i (i + 1) q1 q2 (by omega)
    rw [e1, e2] at this
    simp [this]
  · simp? only []
    exact ⟨trivial, l⟩
theorem are_offsets_ok {n : Nat} {S : Hd} {os : List Int} {sp : Int} (hz : Zone os sp) : Pu (run T (n + 3) 5 [.tup (os.map .int)] S) (.bl true) S := by
  have o1 := hz.len1
  have o3 := hz.len3
  refine Pu.run T_are_offsets rfl ?_
  show M (ex (run T (n + 2)) b_are_offsets [some (.tup (os.map .int)), none] S) _
  unfold b_are_offsets
  refine seq_M (fun env S1 => env = [some (.tup (os.map .int)), none] ∧ S = S1) ?_ ?_
  · simp? only [q_len q_seqT, List.length_map, show decide ((1 : Int) ≤ (os.length : Int)) = true by simp; omega, show decide ((os.length : Int) ≤ 3) = true by simp; omega]
    exact ⟨trivial, trivial, trivial⟩
  rintro _ _ ⟨rfl, rfl⟩
  simp only [ex, M_map]
  refine M_and (M_allT (S1 := S) (ds := [.tup (os.map .int)]) (its := os.map .int) (by decide) (by simp? only []) (Lq.refl _) rfl (by have h : (1000 : Nat) < most := (by decide); simp; omega) (fun i d S2 hi l => ?_) (fun _ _ => rfl) fun S2 l => ⟨rfl, ?_⟩)
  · rw [List.getElem?_map] at hi
    cases hx : os[i]? with
    | none => rw [hx] at hi; cases hi
    | some x =>
      rw [hx] at hi
      simp only [Option.map_some, Option.some.injEq] at hi
      subst hi
      refine ⟨_, rfl, ?_⟩
      simp? only [wipeD]
      exact is_near_ok (hz.lo x (List.mem_of_getElem? hx)) (hz.hi x (List.mem_of_getElem? hx))
  · simp? only []
    refine (is_ascending_ok hz.asc (by omega)).use fun S3 l3 => ?_
    simp? only []
    exact ⟨trivial, l.trans l3⟩
theorem is_zone_ok {n : Nat} {S : Hd} {os : List Int} {sp : Int} (hz : Zone os sp) : Pu (run T (n + 4) 6 [zoneD os sp] S) (.bl true) S := by
  have o1 := hz.len1
  have o3 := hz.len3
  refine Pu.run T_is_zone rfl ?_
  show M (ex (run T (n + 3)) b_is_zone [some (zoneD os sp), none, none] S) _
  unfold b_is_zone zoneD
  refine seq_M (fun env S1 => env = [some (.tup [.tup (os.map .int), .int sp]), none, none] ∧ Lq S S1) ?_ ?_
  · refine ite_M ?_
    simp? only []
    refine is_pair_ok.use fun S1 l1 => ?_
    simp? only []
    exact ⟨trivial, trivial, l1⟩
  rintro _ S1 ⟨rfl, l1⟩
  refine seq_M (fun env S2 => env = [some (.tup [.tup (os.map .int), .int sp]), some (.tup (os.map .int)), some (.int sp)] ∧ S1 = S2) ?_ ?_
  · simp? only []
    exact ⟨trivial, trivial, trivial⟩
  rintro _ _ ⟨rfl, rfl⟩
  refine seq_M (fun env S2 => env = [some (.tup [.tup (os.map .int), .int sp]), some (.tup (os.map .int)), some (.int sp)] ∧ Lq S S2) ?_ ?_
  · refine ite_M ?_
    simp? only []
    refine (are_offsets_ok hz).use fun S2 l2 => ?_
    simp? only []
    refine is_number_ok.use fun S3 l3 => ?_
    simp? only []
    exact ⟨trivial, trivial, l1.trans (l2.trans l3)⟩
  rintro _ S2 ⟨rfl, l2⟩
  obtain ⟨a, b, ha, hb, e0, e1, hab⟩ := ends o1 o3 hz.asc
  have g := hz.gap a ha b hb
  have t := hz.top
  simp? only [e0, e1, show decide (b - a < sp) = true by simpa using g, show decide (sp ≤ 1000000) = true by simpa using t]
  exact ⟨trivial, l2⟩
theorem check_zone_ok {n : Nat} {S : Hd} {os : List Int} {sp : Int} (hz : Zone os sp) : Pu (run T (n + 5) 7 [zoneD os sp] S) .non S := by
  refine Pu.run T_check_zone rfl ?_
  show M (ex (run T (n + 4)) b_check_zone [some (zoneD os sp)] S) _
  unfold b_check_zone
  refine ite_M ?_
  simp? only []
  refine (is_zone_ok hz).use fun S1 l1 => ?_
  simp? only []
  exact ⟨trivial, l1⟩
end Lw

namespace Lw
open PySem L2 Ix
theorem most_big : (1000 : Nat) < most := by decide
theorem Chart.ns {os : List Int} {sp off : Int} {js : List (Int × Int)} : True := trivial
/-- one of the two numbers of each jump -/
theorem M_proj {Γ : Fs} {iv ov : Nat} {c : Int} {f : Int × Int → Int} {env : Sl} {S : Hd} {js : List (Int × Int)} {Q : D × Hd → Prop} (hi : env[iv]? = some (some (.tup (js.map jumpD)))) (ho : ov < env.length) (hz : js.length ≤ 900)
    (hf : ∀ j : Int × Int, atI [D.int j.1, D.int j.2] c = some (.int (f j))) (hq : ∀ (j : Nat) (S2 : Hd), S2[j]? = some (.lst ((js.map f).map .int)) → Lq S S2 → Q (.ref j, S2)) :
    M (ev Γ (.lc .seq (.cons (.var iv) .nil) (.name ov) (.c (.bl true)) (.ix (.var ov) (.c (.int c))) [ov]) env S) Q := by
  refine M_lc (S1 := S) (ds := [.tup (js.map jumpD)]) (its := js.map jumpD) (fun i => .int (f (js[i]?.getD (0, 0)))) (by simp [gOk]) (by simp only [ev, hi, Option.bind_some, argsOf, Option.map_some]) rfl (by have := most_big; simp; omega) (fun i d S2 hi l => ?_) (fun _ _ => rfl) fun j S2 hj hg l => ?_
  · rw [List.getElem?_map] at hi
    cases hx : js[i]? with
    | none => rw [hx] at hi; cases hi
    | some x =>
      rw [hx] at hi
      simp only [Option.map_some, Option.some.injEq] at hi
      subst hi
      refine ⟨_, rfl, ?_⟩
      simp only [ev, wipeD]
      rw [List.getElem?_set_self (by simpa using ho)]
      unfold jumpD
      simp? only [hf, Option.getD_some]
      exact ⟨trivial, Lq.refl _⟩
  · refine hq j S2 ?_ l
    rw [hg]
    congr 2
    apply List.ext_getElem?
    intro i
    simp only [List.getElem?_map, List.length_map]
    by_cases h : i < js.length
    · rw [List.getElem?_range h, List.getElem?_eq_getElem h]
      simp only [Option.map_some, List.getElem?_eq_getElem h, Option.getD_some]
    · rw [List.getElem?_eq_none (by simpa using h), List.getElem?_eq_none (by simpa using h)]
      rfl
end Lw

namespace Lw
open PySem L2 Ix
/-! ### which offset holds -/
theorem Zone.pos {os : List Int} {sp : Int} (hz : Zone os sp) : 0 < sp := by
  have h1 := hz.len1
  cases os with
  | nil => simp at h1
  | cons x xs =>
    have := hz.gap x List.mem_cons_self x List.mem_cons_self
    omega
end Lw

namespace Lw
open PySem L2 Ix
/-! ### hours_of, and whether two values are the same -/
/-- two values are the same to a depth -/
def Sa : Nat → Hd → D → D → Prop
  | 0, _, _, _ => False
  | n + 1, S, .tup xs, .tup ys => xs.length = ys.length ∧ xs.length ≤ 1000 ∧ ∀ (i : Nat) (x y : D), xs[i]? = some x → ys[i]? = some y → Sa n S x y
  | n + 1, S, .ref a, .ref b => ∃ xs ys, S[a]? = some (.lst xs) ∧ S[b]? = some (.lst ys) ∧ xs.length = ys.length ∧ xs.length ≤ 1000 ∧ ∀ (i : Nat) (x y : D), xs[i]? = some x → ys[i]? = some y → Sa n S x y
  | _ + 1, _, .int i, .int j => i = j
  | _ + 1, _, .bl i, .bl j => i = j
  | _ + 1, _, .str i, .str j => i = j
  | _ + 1, _, .non, .non => True
  | _ + 1, _, .xcp _ _ _, .xcp _ _ _ => True
  | _ + 1, _, _, _ => False
theorem Sa.mono {S S' : Hd} (l : Lq S S') : ∀ {n : Nat} {x y : D}, Sa n S x y → Sa n S' x y
  | 0, _, _, h => h.elim
  | n + 1, x, y, h => by
    cases x <;> cases y <;> simp only [Sa] at h ⊢ <;> try exact h
    · obtain ⟨xs, ys, a, b, c, d, e⟩ := h
      exact ⟨xs, ys, l _ _ a, l _ _ b, c, d, fun i x y a b => Sa.mono l (e i x y a b)⟩
    · exact ⟨h.1, h.2.1, fun i x y a b => Sa.mono l (h.2.2 i x y a b)⟩
theorem isi_sb {i : Str} {S : Hd} : bltD .isi [.str i, .ty "bool"] S = some (.bl false, S) := by
  rw [q_isi (c := "bool") (n := "str") (by decide) rfl]
  rfl
theorem isi_si {i : Str} {S : Hd} : bltD .isi [.str i, .ty "int"] S = some (.bl false, S) := by
  rw [q_isi (c := "int") (n := "str") (by decide) rfl]
  rfl
theorem isi_ss {i : Str} {S : Hd} : bltD .isi [.str i, .ty "str"] S = some (.bl true, S) := by
  rw [q_isi (c := "str") (n := "str") (by decide) rfl]
  rfl
theorem isi_stl {i : Str} {S : Hd} : bltD .isi [.str i, .tup [.ty "tuple", .ty "list"]] S = some (.bl false, S) := by
  rw [q_isiT (cs := [.ty "tuple", .ty "list"]) (ts := ["tuple", "list"]) (n := "str") (by simp only [tysOf, show plainTy "tuple" = true by decide, show plainTy "list" = true by decide, if_true, Option.map_some]) rfl]
  rfl
theorem isi_ntl {S : Hd} : bltD .isi [.non, .tup [.ty "tuple", .ty "list"]] S = some (.bl false, S) := by
  rw [q_isiT (cs := [.ty "tuple", .ty "list"]) (ts := ["tuple", "list"]) (n := "NoneType") (by simp only [tysOf, show plainTy "tuple" = true by decide, show plainTy "list" = true by decide, if_true, Option.map_some]) rfl]
  rfl
theorem isi_xtl {c : Str} {ns : List Str} {xs : List D} {S : Hd} : bltD .isi [.xcp c ns xs, .tup [.ty "tuple", .ty "list"]] S = some (.bl false, S) := by
  rw [q_isiT (cs := [.ty "tuple", .ty "list"]) (ts := ["tuple", "list"]) (n := "HourError") (by simp only [tysOf, show plainTy "tuple" = true by decide, show plainTy "list" = true by decide, if_true, Option.map_some]) rfl]
  rfl
theorem isi_xtl4 {c : Str} {ns : List Str} {xs : List D} {S : Hd} : bltD .isi [.xcp c ns xs, .tup [.ty "tuple", .ty "list", .ty "int", .ty "str"]] S = some (.bl false, S) := by
  rw [q_isiT (cs := [.ty "tuple", .ty "list", .ty "int", .ty "str"]) (ts := ["tuple", "list", "int", "str"]) (n := "HourError") (by simp only [tysOf, show plainTy "tuple" = true by decide, show plainTy "list" = true by decide, show plainTy "int" = true by decide, show plainTy "str" = true by decide, if_true, Option.map_some]) rfl]
  rfl
theorem isi_x {c : Str} {ns : List Str} {xs : List D} {S : Hd} {t : String} (ht : t ∈ ["int", "bool", "str", "tuple", "list"]) : bltD .isi [.xcp c ns xs, .ty t] S = some (.bl false, S) := by
  rw [q_isi (c := t) (n := "HourError") (by unfold plainTy; simpa using ht) rfl]
  have : (["int", "bool", "str", "tuple", "list"].all fun c => !isaN "HourError" c) = true := by decide
  rw [List.all_eq_true] at this
  have h := this t ht
  rw [Bool.not_eq_true'] at h
  rw [h]
theorem same_ok : ∀ {n m : Nat} {S : Hd} {a b : D}, Sa n S a b → n ≤ m → Pu (run T (m + 1) 25 [a, b] S) (.bl true) S
  | 0, _, _, _, _, h, _ => h.elim
  | n + 1, 0, _, _, _, _, hm => absurd hm (by omega)
  | n + 1, m + 1, S, a, b, h, hm => by
    have hm2 := most_big
    refine Pu.run T_same rfl ?_
    show M (ex (run T (m + 1)) b_same [some a, some b, none] S) _
    unfold b_same
    have elts : ∀ (v w : D) (xs ys : List D), (∀ S2, Lq S S2 → seqOf S2 v = some xs) → (∀ S2, Lq S S2 → seqOf S2 w = some ys) → xs.length = ys.length → xs.length ≤ 1000 → (∀ (i : Nat) (x y : D), xs[i]? = some x → ys[i]? = some y → Sa n S x y) →
        M (ex (run T (m + 1)) (.ret (.and_ (.cmp .eq (.blt .len (.cons (.var 0) (.nil))) (.blt .len (.cons (.var 1) (.nil)))) (.blt .all_ (.cons (.lc .range1 (.cons (.blt .len (.cons (.var 1) (.nil))) (.nil)) (.name 2) (.c (.bl true)) (.call 25 (.cons (.ix (.var 0) (.var 2)) (.cons (.ix (.var 1) (.var 2)) (.nil)))) [2]) (.nil))))) [some v, some w, none] S) fun r => ∃ S', r = (.ret (.bl true), [some v, some w, none], S') ∧ Lq S S' := by
      intro v w xs ys h1 h2 h3 h4 h5
      simp only [ex, M_map]
      have hl : ((xs.length : Int) = (ys.length : Int)) = True := eq_true (by omega)
      refine M_and (M.imp (P := fun x => x = (.bl true, S)) (by simp? only [q_len (h1 S (Lq.refl _)), q_len (h2 S (Lq.refl _)), hl, decide_true]) ?_)
      rintro _ rfl
      refine ⟨rfl, ?_⟩
      refine M_blt1 ?_
      refine M_lcx (List.range ys.length) (fun (i : Nat) => .int (0 + (i : Int))) (fun _ => true) (fun _ => .bl true) (by decide) ?_ (by simp; omega) (fun x S2 hx l => ?_) fun j S2 hj hg l => ?_
      · simp? only [q_len (h2 S (Lq.refl _))]
        exact ⟨_, _, rfl, Lq.refl _, fun S3 _ => i_rng (by omega) (by omega)⟩
      · refine ⟨_, rfl, ?_⟩
        have hx : x < ys.length := by simpa using hx
        have ex : xs[x]? = some xs[x] := List.getElem?_eq_getElem (by omega)
        have ey : ys[x]? = some ys[x] := List.getElem?_eq_getElem hx
        have ixv : ∀ (u : D) (zs : List D), seqOf S2 u = some zs → ixD u (.int (0 + (x : Int))) S2 = (atI zs (0 + (x : Int))).map fun d => (d, S2) := fun u zs e => by
          simp only [ixD, e, Option.bind_some]
        have ax : atI xs (0 + (x : Int)) = some xs[x] := by
          rw [atI_lt (by omega) (by omega), show (0 + (x : Int)).toNat = x by omega, ex]
        have ay : atI ys (0 + (x : Int)) = some ys[x] := by
          rw [atI_lt (by omega) (by omega), show (0 + (x : Int)).toNat = x by omega, ey]
        simp only [wipeD, ex, ev, M_bind, M_map, M_some, M_ite, t_eq, a_tup, al_eq, List.getElem?_cons_zero, List.getElem?_cons_succ, Option.bind_some, Option.map_some, q_add, q_sub, q_lt, q_le, q_gt, q_ge, q_eqI, q_neI, q_eqB, q_neB, q_isN, q_notN, Ix.isNon, q_ixT, q_ixR, atI_0, atI_1, atI_2, atI_3, atI_4, atI_5, atI_6, atI_7, q_slT, q_slR, q_revT, q_seqT, q_int, q_intB, q_max, q_min, q_abs, q_tupT, n_tup, n_int, n_bl, n_non, n_str, isi_ii, isi_ib, isi_tt, isi_itl, isi_btl, isi_ttl, isi_tl, isi_bb, u_bl, u_int, u_non, u_tup, g_name, g_tup, g_nil, g_cons, o_ret, o_nx, i_seq, List.set_cons_zero, List.set_cons_succ, decide_eq_true_eq, Bool.not_eq_true', decide_eq_false_iff_not, evP, Bool.false_eq_true, if_true, if_false, ite_true, ite_false, reduceIte, Bool.not_true, Bool.not_false, Option.some.injEq, q_pow10, Int.reduceToNat, Int.reducePow, Int.reduceAdd, Int.reduceSub, Int.reduceMul, Int.reduceNeg, Int.reduceLT, Int.reduceLE, Nat.reducePow, Nat.reduceLT, Nat.reduceLeDiff, Nat.reduceAdd, List.length_cons, List.length_nil, Int.neg_neg, ixv v xs (h1 S2 l), ixv w ys (h2 S2 l), ax, ay]
        exact ⟨trivial, Lq.refl _, fun _ => same_ok ((h5 x _ _ ex ey).mono l) (by omega)⟩
      · have hg : S2[j]? = some (.lst ((List.replicate ys.length true).map .bl)) := by
          rw [hg, filt_true]
          congr 2
          rw [List.map_replicate]
          apply List.ext_getElem?
          intro i
          simp only [List.getElem?_map, List.getElem?_replicate]
          by_cases h : i < ys.length
          · rw [List.getElem?_range h, if_pos h]
            rfl
          · rw [List.getElem?_eq_none (by simpa using h), if_neg h]
            rfl
        simp? only [q_all hg]
        exact ⟨S2, by simp, l⟩
    cases a <;> cases b <;> simp only [Sa] at h
    case int.int i j =>
      subst h
      simp? only [show (2 : Nat) ≤ most by decide]
      refine whole_ok.use fun S1 l1 => ?_
      simp? only []
      exact ⟨by simp, l1⟩
    case bl.bl i j =>
      subst h
      simp? only [show (2 : Nat) ≤ most by decide]
      exact ⟨by simp, Lq.refl _⟩
    case str.str i j =>
      subst h
      simp? only [isi_stl, isi_sb, isi_si, isi_ss, q_eqS, show (2 : Nat) ≤ most by decide]
      exact ⟨by simp, Lq.refl _⟩
    case non.non =>
      simp? only [isi_ntl, show (2 : Nat) ≤ most by decide]
      exact ⟨by simp, Lq.refl _⟩
    case xcp.xcp =>
      simp? only [isi_xtl, isi_xtl4, isi_x (t := "bool") (by decide), isi_x (t := "int") (by decide), isi_x (t := "str") (by decide), show (2 : Nat) ≤ most by decide, show (4 : Nat) ≤ most by decide]
      exact ⟨by simp [Ix.isNon], Lq.refl _⟩
    case tup.tup xs ys =>
      refine seq_Mx (ite_M ?_)
      simp_all? only [show (2 : Nat) ≤ most by decide]
      refine seq_Mx (ite_M ?_)
      simp_all? only [show (2 : Nat) ≤ most by decide]
      rw [show ∀ env, ex (run T (m + 1)) .skip env S = some (.nx, env, S) from fun _ => rfl]
      simp only [M_some]
      refine (elts (.tup xs) (.tup ys) xs ys (fun _ _ => rfl) (fun _ _ => rfl) h.1 h.2.1 h.2.2).imp ?_
      rintro _ ⟨S', rfl, l⟩
      simp? only []
      exact ⟨trivial, l⟩
    case ref.ref p q =>
      obtain ⟨xs, ys, g1, g2, h1, h2, h3⟩ := h
      refine seq_Mx (ite_M ?_)
      simp_all? only [isi_ltl g1, isi_ltl g2, isi_ll g1, isi_ll g2, show (2 : Nat) ≤ most by decide]
      refine seq_Mx (ite_M ?_)
      simp_all? only [isi_ltl g1, isi_ltl g2, isi_ll g1, isi_ll g2, show (2 : Nat) ≤ most by decide]
      rw [show ∀ env, ex (run T (m + 1)) .skip env S = some (.nx, env, S) from fun _ => rfl]
      simp only [M_some]
      refine (elts (.ref p) (.ref q) xs ys (fun S2 l => q_seqL (l _ _ g1)) (fun S2 l => q_seqL (l _ _ g2)) h1 h2 h3).imp ?_
      rintro _ ⟨S', rfl, l⟩
      simp? only []
      exact ⟨trivial, l⟩
end Lw

namespace Lw
open PySem L2 Ix
/-! ### several pots -/
def PotS (P : Nat → Prop) (S : Hd) : Prop := ∀ k, P k → Pot k S
def LeP (P : Nat → Prop) (S S' : Hd) : Prop := ∀ (k : Nat) (o : O), ¬ P k → S[k]? = some o → S'[k]? = some o
section
variable {P : Nat → Prop} {S S1 S2 : Hd}
theorem LeP.refl : LeP P S S := fun _ _ _ h => h
theorem LeP.trans (a : LeP P S S1) (b : LeP P S1 S2) : LeP P S S2 := fun k o n h => b k o n (a k o n h)
theorem Lq.leP (a : Lq S S1) : LeP P S S1 := fun k o _ h => a k o h
theorem Le.leP {p : Nat} (hp : P p) (a : Le p S S1) : LeP P S S1 := fun k o n h => a k o (fun e => n (e ▸ hp)) h
theorem LeP.app (T : Hd) : LeP P S (S ++ T) := Lq.leP (Lq.app S T)
theorem LeP.at (a : LeP P S S1) {k : Nat} {o : O} (n : ¬ P k) (h : S[k]? = some o) : S1[k]? = some o := a k o n h
theorem PotS.app (h : PotS P S) (T : Hd) : PotS P (S ++ T) := fun k hk => (h k hk).app T
theorem PotS.lq (h : PotS P S) (l : Lq S S1) : PotS P S1 := fun k hk => (h k hk).lq l
theorem PotS.le {p : Nat} (h : PotS P S) (hp : Pot p S1) (l : Le p S S1) : PotS P S1 := fun k hk => by
  by_cases e : k = p
  · rw [e]; exact hp
  · obtain ⟨q, g⟩ := h k hk
    exact ⟨q, l k _ e g⟩
theorem PotS.set (h : PotS P S) {k : Nat} (hk : ¬ P k) (o : O) : PotS P (S.set k o) := fun j hj => by
  obtain ⟨q, g⟩ := h j hj
  exact ⟨q, by rw [List.getElem?_set_ne (fun e => hk (by rw [e]; exact hj))]; exact g⟩
theorem LeP.len (h : PotS P S) (hs : PotS P S1) (a : LeP P S S1) : S.length ≤ S1.length := by
  rcases Nat.lt_or_ge S1.length S.length with l | l
  · by_cases hp : P S1.length
    · have := (hs _ hp).lt
      omega
    · have e := a S1.length _ hp (List.getElem?_eq_getElem l)
      have := lt_of_get e
      omega
  · exact l
end
/-! ### looks -/
structure Looks (os : List Int) (ls : List (Int × Int)) : Prop where
  mem : ∀ l ∈ ls, l.2 ∈ os
  asc : Adj (fun x y => x < y) (ls.map (·.1))
end Lw

namespace Lw
open PySem L2 Ix
/-! ### how crowded looks are -/
def atL (ls : List (Int × Int)) (k : Nat) : Int × Int := ls.getD k (0, 0)
def chg (ls : List (Int × Int)) : Nat → Int
  | 0 => 0
  | k + 1 => chg ls k + (if (atL ls (k + 1)).2 = (atL ls k).2 then 0 else 1)
def loadK (sp : Int) (ls : List (Int × Int)) (k : Nat) : Int := chg ls k * sp - (atL ls k).1
/-- the stretch from the look a to the look b is crowded -/
def Cw (sp : Int) (ls : List (Int × Int)) (a b : Nat) : Prop := sp ≤ loadK sp ls b - loadK sp ls a
end Lw

namespace Lw
open PySem L2 Ix
theorem Looks.all {os : List Int} {ls : List (Int × Int)} (h : Looks os ls) : ∀ j ∈ ls, j.2 ∈ os := h.mem
end Lw

namespace Lw
open PySem L2 Ix
/-! ### the greatest spacing that lets the looks be -/
def Lim (ls : List (Int × Int)) (P : Nat → Nat → Prop) (L : Int) : Prop := ∀ s : Int, 0 < s → s ≤ 1000000 → (s ≤ L ↔ ∀ a b, P a b → a < b → b < ls.length → ¬ Cw s ls a b)
theorem Lim.congr {ls : List (Int × Int)} {P R : Nat → Nat → Prop} {L : Int} (h : Lim ls P L) (e : ∀ a b, a < b → b < ls.length → (P a b ↔ R a b)) : Lim ls R L := fun s h0 h1 => (h s h0 h1).trans ⟨fun q a b r h1 h2 => q a b ((e a b h1 h2).mpr r) h1 h2, fun q a b r h1 h2 => q a b ((e a b h1 h2).mp r) h1 h2⟩
/-! ### a zone with further offsets -/
end Lw

namespace Lw
open PySem L2 Ix
/-! ### turned about: the runs -/
theorem M_blt1 {Γ : Fs} {o : Bl} {a : E} {env : Sl} {S : Hd} {Q : D × Hd → Prop} (h : M (ev Γ a env S) fun x => M (bltD o [x.1] x.2) Q) : M (ev Γ (.blt o (.cons a .nil)) env S) Q := by
  simp only [ev, M_bind, M_some, M_map, argsOf, Option.bind_some]
  exact h
end Lw

namespace Lw
open PySem L2 Ix
/-! ### draws from a bag: [digits, seed, count] -/
def Bag (p n : Nat) (S : Hd) : Prop := ∃ a b c : Int, S[p]? = some (.lst [.int a, .int b, .int c]) ∧ 0 ≤ b ∧ b < 2305843009213693951 ∧ 0 ≤ c ∧ c ≤ (n : Int)
theorem Bag.lt {p n : Nat} {S : Hd} (h : Bag p n S) : p < S.length := by
  obtain ⟨a, b, c, e, _⟩ := h
  exact lt_of_get e
theorem Bag.ne {p n : Nat} {S : Hd} (h : Bag p n S) : S.length ≠ p := by
  have := h.lt
  omega
theorem Bag.lq {p n : Nat} {S S' : Hd} (h : Bag p n S) (l : Lq S S') : Bag p n S' := by
  obtain ⟨a, b, c, e, r⟩ := h
  exact ⟨a, b, c, l _ _ e, r⟩
theorem Bag.app {p n : Nat} {S : Hd} (h : Bag p n S) (T : Hd) : Bag p n (S ++ T) := h.lq (Lq.app S T)
theorem Bag.mono {p n m : Nat} {S : Hd} (h : Bag p n S) (l : n ≤ m) : Bag p m S := by
  obtain ⟨a, b, c, e, r1, r2, r3, r4⟩ := h
  exact ⟨a, b, c, e, r1, r2, r3, by omega⟩
end Lw

namespace Lw
open PySem L2 Ix
inductive Dd where
  | add (v : Nat) (m : Int) | plus (v s : Nat) | less (v s : Nat) | read (v p : Nat) | offset (v p : Nat) | edition (v p : Nat) | find (v p i j : Nat)
def okD (nz : Nat) (ks : List Str) : Dd → Prop
  | .add v m => (∃ k, ks[v]? = some k ∧ k ≠ "span") ∧ -100000 ≤ m ∧ m ≤ 100000
  | .plus v s => ks[v]? = some "moment" ∧ ks[s]? = some "span"
  | .less v s => ks[v]? = some "reading" ∧ ks[s]? = some "span"
  | .read v p => ks[v]? = some "moment" ∧ p < nz
  | .offset v p => ks[v]? = some "moment" ∧ p < nz
  | .edition v p => ks[v]? = some "moment" ∧ p < nz
  | .find v p _ _ => ks[v]? = some "reading" ∧ p < nz
end Lw

namespace Lw
open PySem L2 Ix
def wd : Dd → Str
  | .add _ _ => "add"
  | .plus _ _ => "plus"
  | .less _ _ => "less"
  | .read _ _ => "read"
  | .offset _ _ => "offset"
  | .edition _ _ => "edition"
  | .find _ _ _ _ => "find"
end Lw

namespace Lw
open PySem L2 Ix
/-! ### numbers by their bits -/
def Sz (m : Nat) (i : Int) : Prop := i.natAbs < 2 ^ m
instance (m : Nat) (i : Int) : Decidable (Sz m i) := inferInstanceAs (Decidable (i.natAbs < 2 ^ m))
theorem Sz.mono {m k : Nat} {i : Int} (h : Sz m i) (l : m ≤ k) : Sz k i := Nat.lt_of_lt_of_le h (Nat.pow_le_pow_right (by decide) l)
theorem Sz.mul {m k : Nat} {i j : Int} (h : Sz m i) (g : Sz k j) : Sz (m + k) (i * j) := by
  unfold Sz at *
  rw [Int.natAbs_mul, Nat.pow_add]
  exact Nat.mul_lt_mul'' h g
theorem Sz.add {m k : Nat} {i j : Int} (h : Sz m i) (g : Sz k j) : Sz (max m k + 1) (i + j) := by
  have a : i.natAbs < 2 ^ max m k := Nat.lt_of_lt_of_le h (Nat.pow_le_pow_right (by decide) (Nat.le_max_left _ _))
  have b : j.natAbs < 2 ^ max m k := Nat.lt_of_lt_of_le g (Nat.pow_le_pow_right (by decide) (Nat.le_max_right _ _))
  unfold Sz
  rw [Nat.pow_succ]
  omega
theorem Sz.q {m k : Nat} {i j : Int} {S : Hd} (h : Sz m i) (g : Sz k j) (l : m + k < 999000 := by decide) (m0 : 0 < m := by decide) (k0 : 0 < k := by decide) : binD .mul (.int i) (.int j) S = some (.int (i * j), S) := q_mulW (by
  have a := log2_le m h m0
  have b := log2_le k g k0
  omega)
end Lw

namespace Lw
open PySem L2 Ix
theorem Bag.set {p c k : Nat} {S : Hd} {o : O} (h : Bag p c S) (n : k ≠ p) : Bag p c (S.set k o) := by
  obtain ⟨x, y, z, e, r⟩ := h
  exact ⟨x, y, z, by rw [List.getElem?_set_ne n]; exact e, r⟩
theorem _root_.Ix.Le.len {p : Nat} {S S' : Hd} (l : Le p S S') (hp : p < S'.length) : S.length ≤ S'.length := by
  rcases Nat.lt_or_ge S'.length S.length with h | h
  · have e := l S'.length _ (by omega) (List.getElem?_eq_getElem h)
    have := lt_of_get e
    omega
  · exact h
end Lw

namespace Lw
open PySem L2 Ix
/-! ### values of steps -/
theorem getD_some {vs : List Int} {v : Nat} (h : v < vs.length) : vs[v]? = some (vs.getD v 0) := by
  rw [List.getElem?_eq_getElem h, List.getD_eq_getElem?_getD, List.getElem?_eq_getElem h]
  rfl
end Lw

namespace Lw
open PySem L2 Ix
theorem T_okS : ∀ f F, T f = some F → okS F.body = true := by
  intro f F h
  unfold T at h
  split at h <;> first
    | (cases h; rfl)
    | cases h
end Lw

namespace Lw
open PySem L2 Ix
/-! ### data of any kind -/
/-- p: the pot's cell, n: the depth, j: how often it was bent -/
def Wd (p : Nat) : Nat → Nat → Hd → D → Prop
  | 0, _, _, _ => False
  | n + 1, j, S, .tup xs => xs.length ≤ 700 + j ∧ ∀ x ∈ xs, Wd p n j S x
  | n + 1, j, S, .ref a => p < a ∧ ∃ xs, S[a]? = some (.lst xs) ∧ xs.length ≤ 700 + j ∧ ∀ x ∈ xs, Wd p n j S x
  | _ + 1, j, _, .int i => i.natAbs ≤ 2 ^ 200 * (j + 1)
  | _ + 1, _, _, .bl _ => True
  | _ + 1, _, _, .str _ => True
  | _ + 1, _, _, .non => True
  | _ + 1, _, _, .xcp _ _ _ => True
  | _ + 1, _, _, _ => False
theorem Wd.mono {p : Nat} {S S' : Hd} (l : Le p S S') : ∀ {n m j k : Nat} {d : D}, Wd p n j S d → n ≤ m → j ≤ k → Wd p m k S' d
  | 0, _, _, _, _, h, _, _ => h.elim
  | n + 1, 0, _, _, _, _, h, _ => absurd h (by omega)
  | n + 1, m + 1, j, k, d, h, hn, hj => by
    cases d with
    | tup xs => exact ⟨by have := h.1; omega, fun x hx => (h.2 x hx).mono l (by omega) hj⟩
    | ref a =>
      obtain ⟨ha, xs, g, hl, hx⟩ := h
      exact ⟨ha, xs, l _ _ (by omega) g, by omega, fun x hx' => (hx x hx').mono l (by omega) hj⟩
    | int i =>
      have h : i.natAbs ≤ 2 ^ 200 * (j + 1) := h
      exact Nat.le_trans h (Nat.mul_le_mul_left _ (by omega))
    | bl _ => trivial
    | str _ => trivial
    | non => trivial
    | xcp _ _ _ => trivial
    | _ => exact h
theorem Wd.le {p n j : Nat} {S S' : Hd} {d : D} (h : Wd p n j S d) (l : Le p S S') : Wd p n j S' d := h.mono l (Nat.le_refl _) (Nat.le_refl _)
theorem atI_mem {β : Type} {xs : List β} {i : Int} (h0 : 0 ≤ i) (h1 : i < xs.length) : ∃ d, atI xs i = some d ∧ d ∈ xs := by
  have hi : i.toNat < xs.length := by omega
  exact ⟨xs[i.toNat], by rw [atI_lt h0 h1, List.getElem?_eq_getElem hi], List.getElem_mem hi⟩
def plain15 (b : Int) : List D := [.non, .bl true, .bl false, .str "", .str "early", .str "0", .int 0, .int 1, .int (-1), .int 60, .int 900, .int 901, .int 1000001, .int b, .int (-b)]
structure Sc (d : D) : Prop where
  txt : txtD d = true
  wd : ∀ (p n j : Nat) (S : Hd), Wd p (n + 1) j S d
theorem sc_int {i : Int} (h : i.natAbs ≤ 2 ^ 110) : Sc (.int i) := by
  refine ⟨?_, fun p n j S => ?_⟩
  · simp only [txtD, decide_eq_true_eq]
    have := log2_le 111 (n := i.natAbs) (by omega) (by decide)
    omega
  · show i.natAbs ≤ 2 ^ 200 * (j + 1)
    have : 2 ^ 110 ≤ 2 ^ 200 * (j + 1) := Nat.le_trans (by decide : 2 ^ 110 ≤ 2 ^ 200 * 1) (Nat.mul_le_mul_left _ (by omega))
    omega
theorem sc_str {x : Str} (h : x.length ≤ 100000) : Sc (.str x) := ⟨by simp only [txtD, decide_eq_true_eq]; exact h, fun _ _ _ _ => trivial⟩
theorem sc_15 {b : Int} (h0 : 0 ≤ b) (h1 : b ≤ 2 ^ 110) {d : D} (h : d ∈ plain15 b) : Sc d := by
  simp only [plain15, List.mem_cons, List.mem_nil_iff, or_false] at h
  rcases h with rfl | rfl | rfl | rfl | rfl | rfl | rfl | rfl | rfl | rfl | rfl | rfl | rfl | rfl | rfl
  · exact ⟨rfl, fun _ _ _ _ => trivial⟩
  · exact ⟨rfl, fun _ _ _ _ => trivial⟩
  · exact ⟨rfl, fun _ _ _ _ => trivial⟩
  · exact sc_str (by decide)
  · exact sc_str (by decide)
  · exact sc_str (by decide)
  all_goals exact sc_int (by omega)
theorem q_mulL {S : Hd} {a : Nat} {xs : List D} {k : Int} (h : S[a]? = some (.lst xs)) (h1 : -(2 ^ 63) ≤ k) (h2 : k < 2 ^ 63) (h3 : xs.length * k.toNat ≤ most) : binD .mul (.ref a) (.int k) S = some (alloc S (List.replicate k.toNat xs).flatten) := by
  simp only [binD, h]
  rw [if_pos ⟨h1, h2, h3⟩]
theorem odd_ok {n p : Nat} {S : Hd} (hS : Pot p S) : M (run T (n + 2) 174 [.ref p] S) fun r => ∃ d S', r = (d, S') ∧ Wd p 22 0 S' d ∧ Pot p S' ∧ Le p S S' := by
  have hm := most_big
  refine run_M T_odd_thing rfl ?_
  show M (ex (run T (n + 1)) b_odd_thing [some (.ref p), none, none, none, none, none, none, none] S) _
  unfold b_odd_thing
  refine seq_M (fun env S1 => ∃ b : Int, env = [some (.ref p), some (.int b), none, none, none, none, none, none] ∧ 0 ≤ b ∧ b ≤ 2 ^ 110 ∧ Pot p S1 ∧ Le p S S1) ?_ ?_
  · simp? only []
    refine (draw_ok hS (by decide) (by decide)).imp ?_
    rintro _ ⟨z, S1, rfl, h0, h1, p1, l1⟩
    simp? only []
    exact ⟨trivial, _, rfl, by omega, by omega, p1, l1⟩
  rintro _ S1 ⟨b, rfl, b0, b1, p1, l1⟩
  refine seq_M (fun env S2 => ∃ k : Nat, env = [some (.ref p), some (.int b), some (.ref k), none, none, none, none, none] ∧ S2[k]? = some (.lst (plain15 b)) ∧ k ≠ p ∧ p < S2.length ∧ Pot p S2 ∧ Le p S S2) ?_ ?_
  · simp? only [show (15 : Nat) ≤ most by omega, Nat.zero_add]
    exact ⟨trivial, _, rfl, get_new, p1.ne, (p1.app _).lt, p1.app _, l1.trans (Le.app _ _ _)⟩
  rintro _ S2 ⟨k, rfl, gk, kp, _, p2, l2⟩
  refine seq_M (fun env S3 => ∃ z : Int, env = [some (.ref p), some (.int b), some (.ref k), some (.int z), none, none, none, none] ∧ 0 ≤ z ∧ z < 24 ∧ S3[k]? = some (.lst (plain15 b)) ∧ Pot p S3 ∧ Le p S S3) ?_ ?_
  · simp? only []
    refine (draw_ok p2 (by decide) (by decide)).imp ?_
    rintro _ ⟨z, S3, rfl, h0, h1, p3, l3⟩
    exact ⟨trivial, z, rfl, h0, h1, l3.at kp gk, p3, l2.trans l3⟩
  rintro _ S3 ⟨z, rfl, z0, z1, g3, p3, l3⟩
  refine seq_Mx (ite_M ?_)
  simp_all? only []
  by_cases c15 : z < 15
  · simp? only [if_pos c15]
    obtain ⟨d, hd, hm⟩ := atI_mem (xs := plain15 b) z0 (by show z < ((15 : Nat) : Int); omega)
    simp? only [q_ixL g3, hd]
    exact ⟨_, _, rfl, (sc_15 b0 b1 hm).wd _ _ _ _, p3, l3⟩
  simp only [if_neg c15]
  rw [show ∀ env S, ex (run T (n + 1)) .skip env S = some (.nx, env, S) from fun _ _ => rfl]
  simp only [M_some]
  refine seq_M (fun env S4 => ∃ x : D, env = [some (.ref p), some (.int b), some (.ref k), some (.int z), some x, none, none, none] ∧ Sc x ∧ S4[k]? = some (.lst (plain15 b)) ∧ Pot p S4 ∧ Le p S S4) ?_ ?_
  · simp? only []
    refine (draw_ok p3 (by decide) (by decide)).imp ?_
    rintro _ ⟨y, S4, rfl, h0, h1, p4, l4⟩
    obtain ⟨d, hd, hm⟩ := atI_mem (xs := plain15 b) h0 (by show y < ((15 : Nat) : Int); omega)
    simp? only [q_ixL (l4.at kp g3), hd]
    exact ⟨trivial, d, rfl, sc_15 b0 b1 hm, l4.at kp g3, p4, l3.trans l4⟩
  rintro _ S4 ⟨x, rfl, sx, g4, p4, l4⟩
  refine seq_M (fun env S5 => ∃ y : D, env = [some (.ref p), some (.int b), some (.ref k), some (.int z), some x, some y, none, none] ∧ Sc y ∧ Pot p S5 ∧ Le p S S5) ?_ ?_
  · simp? only []
    refine (draw_ok p4 (by decide) (by decide)).imp ?_
    rintro _ ⟨y, S5, rfl, h0, h1, p5, l5⟩
    obtain ⟨d, hd, hm⟩ := atI_mem (xs := plain15 b) h0 (by show y < ((15 : Nat) : Int); omega)
    simp? only [q_ixL (l5.at kp g4), hd]
    exact ⟨trivial, d, rfl, sc_15 b0 b1 hm, p5, l4.trans l5⟩
  rintro _ S5 ⟨y, rfl, sy, p5, l5⟩
  have pl := p5.lt
  refine seq_Mx (ite_M ?_)
  simp_all? only []
  by_cases c : z = 15
  · simp only [if_pos c, ex, ev, M_bind, M_map, M_some, M_ite, t_eq, a_tup, al_eq, List.getElem?_cons_zero, List.getElem?_cons_succ, Option.bind_some, Option.map_some, q_add, q_sub, q_lt, q_le, q_gt, q_ge, q_eqI, q_neI, q_eqB, q_neB, q_isN, q_notN, Ix.isNon, q_ixT, q_ixR, atI_0, atI_1, atI_2, atI_3, atI_4, atI_5, atI_6, atI_7, q_slT, q_slR, q_revT, q_seqT, q_int, q_intB, q_max, q_min, q_abs, q_tupT, n_tup, n_int, n_bl, n_non, n_str, isi_ii, isi_ib, isi_tt, isi_itl, isi_btl, isi_ttl, isi_tl, isi_bb, u_bl, u_int, u_non, u_tup, g_name, g_tup, g_nil, g_cons, o_ret, o_nx, i_seq, List.set_cons_zero, List.set_cons_succ, decide_eq_true_eq, Bool.not_eq_true', decide_eq_false_iff_not, evP, Bool.false_eq_true, if_true, if_false, ite_true, ite_false, reduceIte, Bool.not_true, Bool.not_false, Option.some.injEq, q_pow10, Int.reduceToNat, Int.reducePow, Int.reduceAdd, Int.reduceSub, Int.reduceMul, Int.reduceNeg, Int.reduceLT, Int.reduceLE, Nat.reducePow, Nat.reduceLT, Nat.reduceLeDiff, Nat.reduceAdd, List.length_cons, List.length_nil, Int.neg_neg, mkxD, show ([D.str "odd"] : List D).length = 1 from rfl]
    exact ⟨_, _, rfl, trivial, p5, l5⟩
  simp only [if_neg c]
  rw [show ∀ env S, ex (run T (n + 1)) .skip env S = some (.nx, env, S) from fun _ _ => rfl]
  simp only [M_some]
  refine seq_Mx (ite_M ?_)
  simp_all? only []
  by_cases c : z = 16
  · simp only [if_pos c, ex, ev, M_bind, M_map, M_some, M_ite, t_eq, a_tup, al_eq, List.getElem?_cons_zero, List.getElem?_cons_succ, Option.bind_some, Option.map_some, q_add, q_sub, q_lt, q_le, q_gt, q_ge, q_eqI, q_neI, q_eqB, q_neB, q_isN, q_notN, Ix.isNon, q_ixT, q_ixR, atI_0, atI_1, atI_2, atI_3, atI_4, atI_5, atI_6, atI_7, q_slT, q_slR, q_revT, q_seqT, q_int, q_intB, q_max, q_min, q_abs, q_tupT, n_tup, n_int, n_bl, n_non, n_str, isi_ii, isi_ib, isi_tt, isi_itl, isi_btl, isi_ttl, isi_tl, isi_bb, u_bl, u_int, u_non, u_tup, g_name, g_tup, g_nil, g_cons, o_ret, o_nx, i_seq, List.set_cons_zero, List.set_cons_succ, decide_eq_true_eq, Bool.not_eq_true', decide_eq_false_iff_not, evP, Bool.false_eq_true, if_true, if_false, ite_true, ite_false, reduceIte, Bool.not_true, Bool.not_false, Option.some.injEq, q_pow10, Int.reduceToNat, Int.reducePow, Int.reduceAdd, Int.reduceSub, Int.reduceMul, Int.reduceNeg, Int.reduceLT, Int.reduceLE, Nat.reducePow, Nat.reduceLT, Nat.reduceLeDiff, Nat.reduceAdd, List.length_cons, List.length_nil, Int.neg_neg, mkxD, show [x, y].length = (["first", "last"] : List Str).length ∧ [x, y].all txtD = true from ⟨rfl, by simp [sx.txt, sy.txt]⟩]
    exact ⟨_, _, rfl, trivial, p5, l5⟩
  simp only [if_neg c]
  rw [show ∀ env S, ex (run T (n + 1)) .skip env S = some (.nx, env, S) from fun _ _ => rfl]
  simp only [M_some]
  refine seq_Mx (ite_M ?_)
  simp_all? only []
  by_cases c : z = 17
  · simp only [if_pos c, ex, ev, M_bind, M_map, M_some, M_ite, t_eq, a_tup, al_eq, List.getElem?_cons_zero, List.getElem?_cons_succ, Option.bind_some, Option.map_some, q_add, q_sub, q_lt, q_le, q_gt, q_ge, q_eqI, q_neI, q_eqB, q_neB, q_isN, q_notN, Ix.isNon, q_ixT, q_ixR, atI_0, atI_1, atI_2, atI_3, atI_4, atI_5, atI_6, atI_7, q_slT, q_slR, q_revT, q_seqT, q_int, q_intB, q_max, q_min, q_abs, q_tupT, n_tup, n_int, n_bl, n_non, n_str, isi_ii, isi_ib, isi_tt, isi_itl, isi_btl, isi_ttl, isi_tl, isi_bb, u_bl, u_int, u_non, u_tup, g_name, g_tup, g_nil, g_cons, o_ret, o_nx, i_seq, List.set_cons_zero, List.set_cons_succ, decide_eq_true_eq, Bool.not_eq_true', decide_eq_false_iff_not, evP, Bool.false_eq_true, if_true, if_false, ite_true, ite_false, reduceIte, Bool.not_true, Bool.not_false, Option.some.injEq, q_pow10, Int.reduceToNat, Int.reducePow, Int.reduceAdd, Int.reduceSub, Int.reduceMul, Int.reduceNeg, Int.reduceLT, Int.reduceLE, Nat.reducePow, Nat.reduceLT, Nat.reduceLeDiff, Nat.reduceAdd, List.length_cons, List.length_nil, Int.neg_neg, show (1 : Nat) ≤ most by omega, Nat.zero_add]
    rw [q_mulL (k := 600) get_new (by decide) (by decide) (by show 1 * 600 ≤ most; omega)]
    simp? only []
    refine ⟨_, _, rfl, ⟨?_, _, get_new, ?_, fun w hw => ?_⟩, (p5.app _).app _, (l5.trans (Le.app _ _ _)).trans (Le.app _ _ _)⟩
    · simp only [List.length_append]; omega
    · simp
    · simp only [List.mem_flatten, List.mem_replicate] at hw
      obtain ⟨l, ⟨_, rfl⟩, hw⟩ := hw
      rw [List.mem_singleton.mp hw]
      exact sx.wd _ _ _ _
  simp only [if_neg c]
  rw [show ∀ env S, ex (run T (n + 1)) .skip env S = some (.nx, env, S) from fun _ _ => rfl]
  simp only [M_some]
  refine seq_Mx (ite_M ?_)
  simp_all? only []
  by_cases c : z = 18
  · simp only [if_pos c]
    refine seq_M (fun env S6 => env = [some (.ref p), some (.int b), some (.ref k), some (.int z), some x, some y, some x, none] ∧ S6 = S5) ?_ ?_
    · simp? only []
      exact ⟨trivial, trivial, trivial⟩
    rintro _ _ ⟨rfl, rfl⟩
    refine seq_M (fun env S6 => ∃ d v7, env = [some (.ref p), some (.int b), some (.ref k), some (.int z), some x, some y, some d, v7] ∧ Wd p 22 0 S6 d ∧ Pot p S6 ∧ Le p S S6) ?_ ?_
    · simp only [ex, ev, M_bind, M_some, argsOf, Option.bind_some, Option.map_some, i_rng (i := 20) (by decide) (by decide)]
      refine M_loopS (m := 0) (fun i env S6 => i ≤ 20 ∧ ∃ d v7, env = [some (.ref p), some (.int b), some (.ref k), some (.int z), some x, some y, some d, v7] ∧ Wd p (i + 1) 0 S6 d ∧ Pot p S6 ∧ Le p S S6) ?_ ?_ ?_
      · exact ⟨by decide, x, none, rfl, sx.wd _ _ _ _, p5, l5⟩
      · rintro i d env S6 hi ⟨hi20, w, v7, rfl, hw, p6, l6⟩
        rw [Nat.zero_add] at hw
        obtain ⟨hi2, rfl⟩ := rng_get hi
        have hi3 : i < 20 := by simpa using hi2
        have hmod : (0 + (i : Int)) % 2 = 0 ∨ (0 + (i : Int)) % 2 = 1 := by omega
        simp? only [show (1 : Nat) ≤ most by omega, show (2 : Nat) ≤ most by omega, Nat.zero_add, q_mod (show (0 : Int) < 2 by decide), q_ixL get_new]
        have lq : Le p S6 ((S6 ++ [.lst [w]]) ++ [.lst [.tup [w], .ref S6.length]]) := (Le.app _ _ _).trans (Le.app _ _ _)
        rcases hmod with e | e
        · rw [Int.zero_add] at e
          simp? only [Int.zero_add, e]
          refine ⟨trivial, by omega, _, _, rfl, ⟨by show 1 ≤ 700 + 0; omega, fun v hv => ?_⟩, (p6.app _).app _, l6.trans lq⟩
          rw [List.mem_singleton.mp hv]
          exact hw.le lq
        · rw [Int.zero_add] at e
          simp? only [Int.zero_add, e]
          refine ⟨trivial, by omega, _, _, rfl, ⟨p6.lt, [w], ?_, by show 1 ≤ 700 + 0; omega, fun v hv => ?_⟩, (p6.app _).app _, l6.trans lq⟩
          · rw [List.getElem?_append_left (by simp), get_new]
          · rw [List.mem_singleton.mp hv]
            exact hw.le lq
      · rintro env S6 ⟨_, w, v7, rfl, hw, p6, l6⟩
        exact ⟨rfl, w, v7, rfl, hw.mono (Le.refl _ _) (by simp) (by omega), p6, l6⟩
    rintro _ S6 ⟨w, v7, rfl, hw, p6, l6⟩
    simp? only []
    exact ⟨_, _, rfl, hw, p6, l6⟩
  simp only [if_neg c]
  rw [show ∀ env S, ex (run T (n + 1)) .skip env S = some (.nx, env, S) from fun _ _ => rfl]
  simp only [M_some]
  simp? only [show (0 : Nat) ≤ most by omega, show (1 : Nat) ≤ most by omega, show (2 : Nat) ≤ most by omega, show (5 : Nat) ≤ most by omega, Nat.zero_add, q_ixL get_new]
  have two : ∀ (S : Hd) (v : D), v ∈ [x, y] → ∀ n, Wd p (n + 1) 0 S v := fun S v hv n => by
    simp only [List.mem_cons, List.mem_nil_iff, or_false] at hv
    rcases hv with rfl | rfl
    · exact sx.wd _ _ _ _
    · exact sy.wd _ _ _ _
  rcases (show z = 19 ∨ z = 20 ∨ z = 21 ∨ z = 22 ∨ z = 23 by omega) with e | e | e | e | e <;> subst e <;> simp? only [Int.reduceSub]
  · refine ⟨_, _, rfl, ⟨pl, [], ?_, by simp, by simp⟩, ((p5.app _).app _).app _, ((l5.trans (Le.app _ _ _)).trans (Le.app _ _ _)).trans (Le.app _ _ _)⟩
    rw [List.getElem?_append_left (by simp), List.getElem?_append_left (by simp), get_new]
  · exact ⟨_, _, rfl, ⟨by simp, by simp⟩, ((p5.app _).app _).app _, ((l5.trans (Le.app _ _ _)).trans (Le.app _ _ _)).trans (Le.app _ _ _)⟩
  · refine ⟨_, _, rfl, ⟨?_, [x, y], ?_, by simp, fun v hv => two _ v hv _⟩, ((p5.app _).app _).app _, ((l5.trans (Le.app _ _ _)).trans (Le.app _ _ _)).trans (Le.app _ _ _)⟩
    · simp only [List.length_append]; omega
    · rw [List.getElem?_append_left (by simp), get_new]
  · exact ⟨_, _, rfl, ⟨by simp, fun v hv => two _ v hv _⟩, ((p5.app _).app _).app _, ((l5.trans (Le.app _ _ _)).trans (Le.app _ _ _)).trans (Le.app _ _ _)⟩
  · refine ⟨_, _, rfl, ⟨by simp, fun v hv => ?_⟩, ((p5.app _).app _).app _, ((l5.trans (Le.app _ _ _)).trans (Le.app _ _ _)).trans (Le.app _ _ _)⟩
    simp only [List.mem_cons, List.mem_nil_iff, or_false] at hv
    rcases hv with rfl | rfl
    · exact ⟨by simp, fun v hv => two _ v hv _⟩
    · exact (sc_int (by decide)).wd _ _ _ _
end Lw

namespace Lw
open PySem L2 Ix
theorem wd_tup {p n j : Nat} {S : Hd} {d : D} {xs : List D} (h : Wd p n j S (.tup xs)) : ∃ m, n = m + 1 ∧ xs.length ≤ 700 + j ∧ ∀ x ∈ xs, Wd p m j S x := by
  cases n with
  | zero => exact h.elim
  | succ m => exact ⟨m, rfl, h.1, h.2⟩
def isT : D → Bool
  | .tup _ => true
  | _ => false
def isI : D → Bool
  | .int _ => true
  | _ => false
theorem isi_tup {S : Hd} {d : D} {p n j : Nat} (h : Wd p n j S d) : bltD .isi [d, .ty "tuple"] S = some (.bl (isT d), S) := by
  cases n with
  | zero => exact h.elim
  | succ m =>
    cases d with
    | ref a =>
      obtain ⟨_, xs, g, _⟩ := h
      exact q_isi (by decide) (n_ref g)
    | ty _ => exact h.elim
    | ro _ => exact h.elim
    | non => exact q_isi (n := "NoneType") (by decide) rfl
    | bl _ => exact q_isi (n := "bool") (by decide) rfl
    | int _ => exact q_isi (n := "int") (by decide) rfl
    | str _ => exact q_isi (n := "str") (by decide) rfl
    | tup _ => exact q_isi (n := "tuple") (by decide) rfl
    | xcp _ _ _ => exact q_isi (n := "HourError") (by decide) rfl
theorem isi_int {S : Hd} {d : D} {p n j : Nat} (h : Wd p n j S d) : ∃ b c : Bool, bltD .isi [d, .ty "int"] S = some (.bl b, S) ∧ bltD .isi [d, .ty "bool"] S = some (.bl c, S) ∧ (b && !c) = isI d := by
  cases n with
  | zero => exact h.elim
  | succ m =>
    cases d with
    | ref a =>
      obtain ⟨_, xs, g, _⟩ := h
      exact ⟨_, _, q_isi (by decide) (n_ref g), q_isi (by decide) (n_ref g), rfl⟩
    | ty _ => exact h.elim
    | ro _ => exact h.elim
    | non => exact ⟨_, _, q_isi (c := "int") (n := "NoneType") (by decide) rfl, q_isi (c := "bool") (n := "NoneType") (by decide) rfl, rfl⟩
    | bl _ => exact ⟨_, _, q_isi (c := "int") (n := "bool") (by decide) rfl, q_isi (c := "bool") (n := "bool") (by decide) rfl, rfl⟩
    | int _ => exact ⟨_, _, q_isi (c := "int") (n := "int") (by decide) rfl, q_isi (c := "bool") (n := "int") (by decide) rfl, rfl⟩
    | str _ => exact ⟨_, _, q_isi (c := "int") (n := "str") (by decide) rfl, q_isi (c := "bool") (n := "str") (by decide) rfl, rfl⟩
    | tup _ => exact ⟨_, _, q_isi (c := "int") (n := "tuple") (by decide) rfl, q_isi (c := "bool") (n := "tuple") (by decide) rfl, rfl⟩
    | xcp _ _ _ => exact ⟨_, _, q_isi (c := "int") (n := "HourError") (by decide) rfl, q_isi (c := "bool") (n := "HourError") (by decide) rfl, rfl⟩
theorem whole_any {p n j k : Nat} {S : Hd} {d : D} (h : Wd p n j S d) : Pu (run T (k + 1) 24 [d] S) (.bl (isI d)) S := by
  obtain ⟨b, c, e1, e2, e3⟩ := isi_int h
  refine Pu.run T_whole rfl ?_
  show M (ex (run T k) b_whole [some d] S) _
  unfold b_whole
  cases b with
  | false =>
    simp? only [e1]
    exact ⟨by rw [← e3]; simp, Lq.refl _⟩
  | true =>
    simp? only [e1, e2]
    exact ⟨by rw [← e3]; simp, Lq.refl _⟩
theorem number_any {p n j k : Nat} {S : Hd} {d : D} (h : Wd p n j S d) : Pu (run T (k + 1) 0 [d] S) (.bl (isI d)) S := by
  obtain ⟨b, c, e1, e2, e3⟩ := isi_int h
  refine Pu.run T_is_number rfl ?_
  show M (ex (run T k) b_is_number [some d] S) _
  unfold b_is_number
  cases b with
  | false =>
    simp? only [e1]
    exact ⟨by rw [← e3]; simp, Lq.refl _⟩
  | true =>
    simp? only [e1, e2]
    exact ⟨by rw [← e3]; simp, Lq.refl _⟩
def isP : D → Bool
  | .tup [_, _] => true
  | _ => false
theorem pair_any {p n j k : Nat} {S : Hd} {d : D} (h : Wd p n j S d) : Pu (run T (k + 1) 1 [d] S) (.bl (isP d)) S := by
  have e := isi_tup h
  refine Pu.run T_is_pair rfl ?_
  show M (ex (run T k) b_is_pair [some d] S) _
  unfold b_is_pair
  cases ht : isT d with
  | false =>
    rw [ht] at e
    simp? only [e]
    refine ⟨?_, Lq.refl _⟩
    cases d <;> first | rfl | cases ht
  | true =>
    rw [ht] at e
    cases d with
    | tup xs =>
      simp? only [e, q_len (q_seqT)]
      refine ⟨?_, Lq.refl _⟩
      match xs with
      | [] => rfl
      | [_] => rfl
      | [_, _] => rfl
      | a :: b :: c :: r =>
        simp only [isP, List.length_cons]
        congr 1 <;> simp
    | _ => cases ht
/-- bending -/
theorem int_B {i : Int} {j : Nat} (h : i.natAbs ≤ 2 ^ 200 * (j + 1)) (hj : j ≤ 100) : i.natAbs.log2 < 1920 := by
  have h2 : i.natAbs < 2 ^ 210 := by
    have : 2 ^ 200 * (j + 1) ≤ 2 ^ 200 * 101 := Nat.mul_le_mul_left _ (by omega)
    have h3 : 2 ^ 200 * 101 < 2 ^ 210 := by decide
    omega
  have := log2_le 210 h2 (by decide)
  omega
theorem sIx_pos {n d : Nat} {v : Int} (h : 0 ≤ v) : HT.sIx n d (some v) = min v.toNat n := by
  show (if v < 0 then (v + (n : Int)).toNat else min v.toNat n) = _
  rw [if_neg (by omega)]
theorem cut_lenFT {xs : List D} {a b : Int} (h : 0 ≤ a) (hb : 0 ≤ b) : (cutD xs (some a) (some b)).length = min (min b.toNat xs.length - min a.toNat xs.length) (xs.length - min a.toNat xs.length) := by
  unfold cutD
  rw [sIx_pos h, sIx_pos hb, List.length_take, List.length_drop]
theorem cut_lenF {xs : List D} {a : Int} (h : 0 ≤ a) : (cutD xs (some a) none).length = xs.length - min a.toNat xs.length := by
  unfold cutD
  rw [sIx_pos h, show HT.sIx xs.length xs.length none = xs.length from rfl, List.length_take, List.length_drop]
  omega
theorem cut_lenT {xs : List D} {b : Int} (h : 0 ≤ b) : (cutD xs none (some b)).length = min b.toNat xs.length := by
  unfold cutD
  rw [sIx_pos h, show HT.sIx xs.length 0 none = 0 from rfl, List.length_take, List.length_drop]
  omega
theorem cut_in {xs : List D} {l h : Option Int} {x : D} (e : x ∈ cutD xs l h) : x ∈ xs := List.mem_of_mem_drop (List.mem_of_mem_take e)
theorem seq_skip {Γ : Fs} {env : Sl} {S : Hd} : ex Γ .skip env S = some (.nx, env, S) := rfl
/-- a tuple's item put otherwise -/
theorem bend_tup {p k n j : Nat} {Γ : Fs} {S : Hd} {xs : List D} {a b c : Int} {v4 v5 : Option D} (hΓ : Γ = run T (k + 2)) (hxs : xs.length ≤ 700 + j) (hw : ∀ x ∈ xs, Wd p n j S x) (hS : Pot p S) (hj : j ≤ 100) (hb0 : 0 ≤ b) :
    M (ex Γ (.seq (.asg (.name 4) (.call 18 (.cons (.var 0) (.cons (.bin .add (.blt .len (.cons (.var 1) (.nil))) (.c (.int 1))) (.nil)))))
    (.seq (.ite (.or_ (.cmp .eq (.var 3) (.c (.int 6))) (.cmp .eq (.var 3) (.c (.int 0))))
    (.ret (.bin .add (.sl false true (.var 1) .nop (.var 4)) (.sl true false (.var 1) (.bin .add (.var 4) (.c (.int 1))) .nop))) .skip)
    (.seq (.ite (.or_ (.cmp .eq (.var 3) (.c (.int 7))) (.cmp .eq (.var 3) (.c (.int 1))))
    (.ret (.bin .add (.bin .add (.sl false true (.var 1) .nop (.var 4)) (.sl true true (.var 1) (.var 4) (.bin .add (.var 4) (.c (.int 1))))) (.sl true false (.var 1) (.var 4) .nop))) .skip)
    (.seq (.ite (.or_ (.cmp .eq (.var 3) (.c (.int 8))) (.cmp .eq (.var 3) (.c (.int 2))))
    (.ret (.blt .list_ (.cons (.var 1) (.nil)))) .skip)
    (.seq (.ite (.or_ (.cmp .eq (.var 3) (.c (.int 9))) (.cmp .eq (.var 3) (.c (.int 3))))
    (.ret (.bin .add (.sl false true (.var 1) .nop (.var 4)) (.rev (.sl true false (.var 1) (.var 4) .nop)))) .skip)
    (.seq (.ite (.cmp .eq (.var 3) (.c (.int 10)))
    (.ret (.bin .add (.bin .add (.sl true true (.var 1) (.c (.int 1)) (.bin .add (.var 4) (.c (.int 1)))) (.sl false true (.var 1) .nop (.c (.int 1)))) (.sl true false (.var 1) (.bin .add (.var 4) (.c (.int 1))) .nop))) .skip)
    (.ret (.bin .add (.bin .add (.sl false true (.var 1) .nop (.var 4)) (.tup (.cons (.call 174 (.cons (.var 0) (.nil))) (.nil)))) (.sl true false (.var 1) (.var 4) .nop)))))))))
      [some (.ref p), some (.tup xs), some (.int a), some (.int b), v4, v5] S) fun r => ∃ d' env S', r = (.ret d', env, S') ∧ Wd p (n + 24) (j + 1) S' d' ∧ Pot p S' ∧ Le p S S' := by
  subst hΓ
  have hm := most_big
  have hp := hS.lt
  refine seq_M (fun env S1 => ∃ z : Int, env = [some (.ref p), some (.tup xs), some (.int a), some (.int b), some (.int z), v5] ∧ 0 ≤ z ∧ z ≤ xs.length ∧ Pot p S1 ∧ Le p S S1) ?_ ?_
  · simp? only [q_len (q_seqT)]
    refine (draw_ok hS (by omega) (by omega)).imp ?_
    rintro _ ⟨z, S1, rfl, h0, h1, p1, l1⟩
    simp? only []
    exact ⟨trivial, z, rfl, h0, by omega, p1, l1⟩
  rintro _ S1 ⟨z, rfl, z0, z1, p1, l1⟩
  have inn : ∀ (N : Nat) (S2 : Hd) (x : D), x ∈ xs → Le p S S2 → n ≤ N → Wd p N (j + 1) S2 x := fun N S2 x hx l hN => (hw x hx).mono l hN (by omega)
  have L1 := cut_lenT (xs := xs) z0
  have L2 := cut_lenF (xs := xs) z0
  have L3 := cut_lenF (xs := xs) (show (0 : Int) ≤ z + 1 by omega)
  have L4 := cut_lenFT (xs := xs) z0 (show (0 : Int) ≤ z + 1 by omega)
  have L5 := cut_lenFT (xs := xs) (show (0 : Int) ≤ 1 by decide) (show (0 : Int) ≤ z + 1 by omega)
  have L6 := cut_lenT (xs := xs) (show (0 : Int) ≤ 1 by decide)
  refine seq_Mx (ite_M ?_)
  by_cases c : b = 6 ∨ b = 0
  · rcases c with rfl | rfl <;>
    · simp? only [decide_true, decide_false, show ((0 : Int) = 6) = False by simp]
      rw [q_addT (by omega)]
      simp? only []
      refine ⟨_, _, _, rfl, ⟨by rw [List.length_append]; omega, fun x hx => ?_⟩, p1, l1⟩
      rcases List.mem_append.mp hx with hx | hx <;> exact inn _ _ _ (cut_in hx) l1 (by omega)
  have c1 : ¬ b = 6 := fun h => c (.inl h)
  have c2 : ¬ b = 0 := fun h => c (.inr h)
  simp_all? only [c1, c2, decide_false, seq_skip]
  refine seq_Mx (ite_M ?_)
  by_cases c : b = 7 ∨ b = 1
  · rcases c with rfl | rfl <;>
    · simp? only [decide_true, decide_false, show ((1 : Int) = 7) = False by simp]
      rw [q_addT (by omega)]
      simp? only []
      rw [q_addT (by rw [List.length_append]; omega)]
      simp? only []
      refine ⟨_, _, _, rfl, ⟨by rw [List.length_append, List.length_append]; omega, fun x hx => ?_⟩, p1, l1⟩
      rcases List.mem_append.mp hx with hx | hx
      · rcases List.mem_append.mp hx with hx | hx <;> exact inn _ _ _ (cut_in hx) l1 (by omega)
      · exact inn _ _ _ (cut_in hx) l1 (by omega)
  have c3 : ¬ b = 7 := fun h => c (.inl h)
  have c4 : ¬ b = 1 := fun h => c (.inr h)
  simp_all? only [c3, c4, decide_false, seq_skip]
  refine seq_Mx (ite_M ?_)
  by_cases c : b = 8 ∨ b = 2
  · rcases c with rfl | rfl <;>
    · simp? only [decide_true, decide_false, show ((2 : Int) = 8) = False by simp, q_list (q_seqT)]
      refine ⟨_, _, _, rfl, ⟨p1.lt, xs, get_new, by omega, fun x hx => inn _ _ _ hx (l1.trans (Le.app _ _ _)) (by omega)⟩, p1.app _, l1.trans (Le.app _ _ _)⟩
  have c5 : ¬ b = 8 := fun h => c (.inl h)
  have c6 : ¬ b = 2 := fun h => c (.inr h)
  simp_all? only [c5, c6, decide_false, seq_skip]
  refine seq_Mx (ite_M ?_)
  by_cases c : b = 9 ∨ b = 3
  · rcases c with rfl | rfl <;>
    · simp? only [decide_true, decide_false, show ((3 : Int) = 9) = False by simp]
      rw [q_addT (by rw [List.length_reverse]; omega)]
      simp? only []
      refine ⟨_, _, _, rfl, ⟨by rw [List.length_append, List.length_reverse]; omega, fun x hx => ?_⟩, p1, l1⟩
      rcases List.mem_append.mp hx with hx | hx
      · exact inn _ _ _ (cut_in hx) l1 (by omega)
      · exact inn _ _ _ (cut_in (List.mem_reverse.mp hx)) l1 (by omega)
  have c7 : ¬ b = 9 := fun h => c (.inl h)
  have c8 : ¬ b = 3 := fun h => c (.inr h)
  simp_all? only [c7, c8, decide_false, seq_skip]
  refine seq_Mx (ite_M ?_)
  by_cases c : b = 10
  · subst c
    simp? only [decide_true]
    rw [q_addT (by omega)]
    simp? only []
    rw [q_addT (by rw [List.length_append]; omega)]
    simp? only []
    refine ⟨_, _, _, rfl, ⟨by rw [List.length_append, List.length_append]; omega, fun x hx => ?_⟩, p1, l1⟩
    rcases List.mem_append.mp hx with hx | hx
    · rcases List.mem_append.mp hx with hx | hx <;> exact inn _ _ _ (cut_in hx) l1 (by omega)
    · exact inn _ _ _ (cut_in hx) l1 (by omega)
  simp_all? only [c, decide_false, seq_skip]
  simp? only []
  refine (odd_ok p1).imp ?_
  rintro _ ⟨d, S2, rfl, hd, p2, l2⟩
  simp? only [show (1 : Nat) ≤ most by omega, Nat.zero_add]
  rw [q_addT (by rw [List.length_cons, List.length_nil]; omega)]
  simp? only []
  rw [q_addT (by rw [List.length_append, List.length_cons, List.length_nil]; omega)]
  simp? only []
  refine ⟨_, _, _, rfl, ⟨by rw [List.length_append, List.length_append, List.length_cons, List.length_nil]; omega, fun x hx => ?_⟩, p2, l1.trans l2⟩
  rcases List.mem_append.mp hx with hx | hx
  · rcases List.mem_append.mp hx with hx | hx
    · exact inn _ _ _ (cut_in hx) (l1.trans l2) (by omega)
    · rw [List.mem_singleton.mp hx]
      exact hd.mono (Le.refl _ _) (by omega) (by omega)
  · exact inn _ _ _ (cut_in hx) (l1.trans l2) (by omega)
/-- a number put otherwise -/
theorem bend_int {p n j : Nat} {Γ : Fs} {S : Hd} {i a b : Int} {v4 v5 : Option D} (hi : i.natAbs ≤ 2 ^ 200 * (j + 1)) (hS : Pot p S) (hj : j ≤ 100) (hb0 : 0 ≤ b) (hb : b < 9) :
    M (ex Γ (.seq (.asg (.name 5) (.lst (.cons (.bin .add (.var 1) (.c (.int 1))) (.cons (.bin .sub (.var 1) (.c (.int 1))) (.cons (.neg (.var 1)) (.cons (.bin .add (.var 1) (.c (.int 60))) (.cons (.blt .str_ (.cons (.var 1) (.nil))) (.cons (.cmp .eq (.var 1) (.c (.int 1))) (.cons (.lst (.cons (.var 1) (.nil))) (.cons (.tup (.cons (.var 1) (.nil))) (.nil)))))))))))
    (.ret (.ix (.bin .add (.var 5) (.lst (.cons (.bin .add (.var 1) (.c (.int 1000000))) (.nil)))) (.var 3))))
      [some (.ref p), some (.int i), some (.int a), some (.int b), v4, v5] S) fun r => ∃ d' env S', r = (.ret d', env, S') ∧ Wd p (n + 2) (j + 1) S' d' ∧ Pot p S' ∧ Le p S S' := by
  have hm := most_big
  have hp := hS.lt
  have hs : bltD .str_ [.int i] S = some (.str (toString i), S) := if_pos (int_B hi hj)
  have big : ∀ x : Int, x.natAbs ≤ i.natAbs + 1000000 → ∀ m S2, Wd p (m + 1) (j + 1) S2 (.int x) := fun x hx m S2 => by
    show x.natAbs ≤ 2 ^ 200 * (j + 1 + 1)
    rw [Nat.mul_succ]
    have : (1000000 : Nat) ≤ 2 ^ 200 := by decide
    omega
  simp? only [hs, show (1 : Nat) ≤ most by omega, show (8 : Nat) ≤ most by omega, Nat.zero_add]
  have hA : Lq S (((S ++ [.lst [.int i]]) ++ [.lst [.int (i + 1), .int (i - 1), .int (-i), .int (i + 60), .str (toString i), .bl (decide (i = 1)), .ref S.length, .tup [.int i]]]) ++ [.lst [.int (i + 1000000)]]) := ((Lq.app _ _).trans (Lq.app _ _)).trans (Lq.app _ _)
  rw [q_addL (xs := [.int (i + 1), .int (i - 1), .int (-i), .int (i + 60), .str (toString i), .bl (decide (i = 1)), .ref S.length, .tup [.int i]]) (ys := [.int (i + 1000000)]) (by rw [List.getElem?_append_left (by simp), get_new]) get_new (by show 8 + 1 ≤ most; omega)]
  simp? only [q_ixL get_new]
  have hL := hA.trans (Lq.app _ [.lst ([.int (i + 1), .int (i - 1), .int (-i), .int (i + 60), .str (toString i), .bl (decide (i = 1)), .ref S.length, .tup [.int i]] ++ [.int (i + 1000000)])])
  have hP := hS.lq hL
  have h9 : ∀ (d : D) (e : atI ([.int (i + 1), .int (i - 1), .int (-i), .int (i + 60), .str (toString i), .bl (decide (i = 1)), .ref S.length, .tup [.int i]] ++ [.int (i + 1000000)]) b = some d), Wd p (n + 2) (j + 1) ((((S ++ [.lst [.int i]]) ++ [.lst [.int (i + 1), .int (i - 1), .int (-i), .int (i + 60), .str (toString i), .bl (decide (i = 1)), .ref S.length, .tup [.int i]]]) ++ [.lst [.int (i + 1000000)]]) ++ [.lst ([.int (i + 1), .int (i - 1), .int (-i), .int (i + 60), .str (toString i), .bl (decide (i = 1)), .ref S.length, .tup [.int i]] ++ [.int (i + 1000000)])]) d := fun d e => by
    rw [atI_lt hb0 (by show b < ((9 : Nat) : Int); omega)] at e
    have hd := List.mem_of_getElem? e
    simp only [List.cons_append, List.nil_append, List.mem_cons, List.mem_nil_iff, or_false] at hd
    rcases hd with rfl | rfl | rfl | rfl | rfl | rfl | rfl | rfl | rfl
    · exact big _ (by omega) _ _
    · exact big _ (by omega) _ _
    · exact big _ (by omega) _ _
    · exact big _ (by omega) _ _
    · trivial
    · trivial
    · refine ⟨hp, [.int i], ?_, by show 1 ≤ 700 + (j + 1); omega, fun x hx => ?_⟩
      · rw [List.getElem?_append_left (by simp), List.getElem?_append_left (by simp), List.getElem?_append_left (by simp), get_new]
      · rw [List.mem_singleton.mp hx]
        exact big _ (by omega) _ _
    · refine ⟨by show 1 ≤ 700 + (j + 1); omega, fun x hx => ?_⟩
      rw [List.mem_singleton.mp hx]
      exact big _ (by omega) _ _
    · exact big _ (by omega) _ _
  obtain ⟨d, hd, _⟩ := atI_mem (xs := [.int (i + 1), .int (i - 1), .int (-i), .int (i + 60), .str (toString i), .bl (decide (i = 1)), .ref S.length, .tup [.int i]] ++ [D.int (i + 1000000)]) hb0 (by show b < ((9 : Nat) : Int); omega)
  simp? only [hd]
  exact ⟨_, _, _, rfl, h9 d hd, hP, hL.le⟩

end Lw

namespace Lw
open PySem L2 Ix
theorem bend_rest {p k n j : Nat} {S : Hd} {d : D} {a b : Int} {v4 v5 : Option D} (hd : Wd p (n + 1) j S d) (hS : Pot p S) (hj : j ≤ 100) (b0 : 0 ≤ b) :
    M (ex (run T (k + 2)) (.seq (.ite (.and_ (.call 24 (.cons (.var 1) (.nil))) (.cmp .lt (.var 3) (.c (.int 9))))
    (.seq (.asg (.name 5) (.lst (.cons (.bin .add (.var 1) (.c (.int 1))) (.cons (.bin .sub (.var 1) (.c (.int 1))) (.cons (.neg (.var 1)) (.cons (.bin .add (.var 1) (.c (.int 60))) (.cons (.blt .str_ (.cons (.var 1) (.nil))) (.cons (.cmp .eq (.var 1) (.c (.int 1))) (.cons (.lst (.cons (.var 1) (.nil))) (.cons (.tup (.cons (.var 1) (.nil))) (.nil)))))))))))
    (.ret (.ix (.bin .add (.var 5) (.lst (.cons (.bin .add (.var 1) (.c (.int 1000000))) (.nil)))) (.var 3)))) .skip)
    (.ret (.call 174 (.cons (.var 0) (.nil)))))
      [some (.ref p), some d, some (.int a), some (.int b), v4, v5] S) fun r => ∃ d' env S', r = (.ret d', env, S') ∧ Wd p (n + 24) (j + 1) S' d' ∧ Pot p S' ∧ Le p S S' := by
  have tail : ∀ S1, Pot p S1 → Le p S S1 → M (ex (run T (k + 2)) (.ret (.call 174 (.cons (.var 0) (.nil)))) [some (.ref p), some d, some (.int a), some (.int b), v4, v5] S1) fun r => ∃ d' env S', r = (.ret d', env, S') ∧ Wd p (n + 24) (j + 1) S' d' ∧ Pot p S' ∧ Le p S S' := fun S1 p1 l1 => by
    simp? only []
    refine (odd_ok p1).imp ?_
    rintro _ ⟨w, S2, rfl, hw, p2, l2⟩
    exact ⟨_, _, _, rfl, hw.mono (Le.refl _ _) (by omega) (by omega), p2, l1.trans l2⟩
  refine seq_Mx (ite_M ?_)
  simp_all? only []
  refine (whole_any hd).use fun S1 l1 => ?_
  have p1 := hS.lq l1
  cases hi : isI d with
  | false =>
    simp_all? only [seq_skip]
    exact tail S1 p1 l1.le
  | true =>
    simp_all? only []
    by_cases c : b < 9
    · simp_all? only [c, decide_true, if_true]
      cases d with
      | int i =>
        refine (bend_int (n := n + 22) (hd : i.natAbs ≤ 2 ^ 200 * (j + 1)) p1 hj b0 c).imp ?_
        rintro _ ⟨d', env, S', rfl, h1, h2, h3⟩
        exact ⟨_, _, _, rfl, h1, h2, l1.le.trans h3⟩
      | _ => cases hi
    · simp only [c, decide_false, if_false, ev, M_bind, M_map, M_some, M_ite, t_eq, a_tup, al_eq, List.getElem?_cons_zero, List.getElem?_cons_succ, Option.bind_some, Option.map_some, q_add, q_sub, q_lt, q_le, q_gt, q_ge, q_eqI, q_neI, q_eqB, q_neB, q_isN, q_notN, Ix.isNon, q_ixT, q_ixR, atI_0, atI_1, atI_2, atI_3, atI_4, atI_5, atI_6, atI_7, q_slT, q_slR, q_revT, q_seqT, q_int, q_intB, q_max, q_min, q_abs, q_tupT, n_tup, n_int, n_bl, n_non, n_str, isi_ii, isi_ib, isi_tt, isi_itl, isi_btl, isi_ttl, isi_tl, isi_bb, u_bl, u_int, u_non, u_tup, g_name, g_tup, g_nil, g_cons, o_ret, o_nx, i_seq, List.set_cons_zero, List.set_cons_succ, decide_eq_true_eq, Bool.not_eq_true', decide_eq_false_iff_not, evP, Bool.false_eq_true, if_true, if_false, ite_true, ite_false, reduceIte, Bool.not_true, Bool.not_false, Option.some.injEq, q_pow10, Int.reduceToNat, Int.reducePow, Int.reduceAdd, Int.reduceSub, Int.reduceMul, Int.reduceNeg, Int.reduceLT, Int.reduceLE, Nat.reducePow, Nat.reduceLT, Nat.reduceLeDiff, Nat.reduceAdd, List.length_cons, List.length_nil, Int.neg_neg, seq_skip]
      exact tail S1 p1 l1.le
theorem bend_ok {p k : Nat} : ∀ {deep n j : Nat} {S : Hd} {d : D}, Wd p n j S d → Pot p S → j ≤ 100 →
    M (run T (deep + k + 3) 175 [.ref p, d, .int deep] S) fun r => ∃ d' S', r = (d', S') ∧ Wd p (n + 23) (j + 1) S' d' ∧ Pot p S' ∧ Le p S S' := by
  intro deep
  induction deep with
  | zero =>
    intro n j S d hd hS hj
    have hm := most_big
    cases n with
    | zero => exact hd.elim
    | succ m =>
    rw [show 0 + k + 3 = k + 2 + 1 by omega]
    refine run_M T_bend rfl ?_
    show M (ex (run T (k + 2)) b_bend [some (.ref p), some d, some (.int (0 : Nat)), none, none, none] S) _
    unfold b_bend
    refine seq_M (fun env S1 => ∃ b : Int, env = [some (.ref p), some d, some (.int (0 : Nat)), some (.int b), none, none] ∧ 0 ≤ b ∧ b < 12 ∧ Pot p S1 ∧ Le p S S1) ?_ ?_
    · simp? only []
      refine (draw_ok hS (by decide) (by decide)).imp ?_
      rintro _ ⟨z, S1, rfl, h0, h1, p1, l1⟩
      exact ⟨trivial, z, rfl, h0, h1, p1, l1⟩
    rintro _ S1 ⟨b, rfl, b0, b1, p1, l1⟩
    have hd1 := hd.le l1
    have e := isi_tup hd1
    refine seq_Mx (ite_M ?_)
    cases ht : isT d with
    | false =>
      rw [ht] at e
      simp_all? only [e, seq_skip]
      refine seq_Mx (ite_M ?_)
      simp_all? only [e, seq_skip]
      refine (bend_rest (k := k) (n := m) hd1 p1 hj b0).imp ?_
      rintro _ ⟨d', env, S', rfl, h1, h2, h3⟩
      simp? only []
      exact ⟨_, _, rfl, h1, h2, l1.trans h3⟩
    | true =>
      cases d with
      | tup xs =>
        simp_all? only [Int.natCast_zero, decide_true]
        refine (bend_tup (k := k) (n := m) (c := 0) rfl hd1.1 hd1.2 p1 hj b0).imp ?_
        rintro _ ⟨d', env, S', rfl, h1, h2, h3⟩
        simp? only []
        exact ⟨_, _, rfl, h1, h2, l1.trans h3⟩
      | _ => cases ht
  | succ deep ih =>
    intro n j S d hd hS hj
    have hm := most_big
    cases n with
    | zero => exact hd.elim
    | succ m =>
    rw [show deep + 1 + k + 3 = (deep + k + 3) + 1 by omega]
    refine run_M T_bend rfl ?_
    show M (ex (run T (deep + k + 1 + 2)) b_bend [some (.ref p), some d, some (.int ((deep + 1 : Nat) : Int)), none, none, none] S) _
    unfold b_bend
    refine seq_M (fun env S1 => ∃ b : Int, env = [some (.ref p), some d, some (.int ((deep + 1 : Nat) : Int)), some (.int b), none, none] ∧ 0 ≤ b ∧ b < 12 ∧ Pot p S1 ∧ Le p S S1) ?_ ?_
    · simp? only []
      refine (draw_ok hS (by decide) (by decide)).imp ?_
      rintro _ ⟨z, S1, rfl, h0, h1, p1, l1⟩
      exact ⟨trivial, z, rfl, h0, h1, p1, l1⟩
    rintro _ S1 ⟨b, rfl, b0, b1, p1, l1⟩
    have hd1 := hd.le l1
    have e := isi_tup hd1
    have n0 : (((deep + 1 : Nat) : Int) = 0) = False := eq_false (by omega)
    refine seq_Mx (ite_M ?_)
    cases ht : isT d with
    | false =>
      rw [ht] at e
      simp_all? only [e, seq_skip]
      refine seq_Mx (ite_M ?_)
      simp_all? only [e, seq_skip]
      refine (bend_rest (k := deep + k + 1) (n := m) hd1 p1 hj b0).imp ?_
      rintro _ ⟨d', env, S', rfl, h1, h2, h3⟩
      simp? only []
      exact ⟨_, _, rfl, h1, h2, l1.trans h3⟩
    | true =>
      cases d with
      | tup xs =>
        by_cases c : (xs.length : Int) = 0 ∨ 5 < b
        · have go : ∀ Q : Prop, Q → Q := fun _ h => h
          have fin : M (ex (run T (deep + k + 1 + 2)) (.seq (.asg (.name 4) (.call 18 (.cons (.var 0) (.cons (.bin .add (.blt .len (.cons (.var 1) (.nil))) (.c (.int 1))) (.nil)))))
    (.seq (.ite (.or_ (.cmp .eq (.var 3) (.c (.int 6))) (.cmp .eq (.var 3) (.c (.int 0))))
    (.ret (.bin .add (.sl false true (.var 1) .nop (.var 4)) (.sl true false (.var 1) (.bin .add (.var 4) (.c (.int 1))) .nop))) .skip)
    (.seq (.ite (.or_ (.cmp .eq (.var 3) (.c (.int 7))) (.cmp .eq (.var 3) (.c (.int 1))))
    (.ret (.bin .add (.bin .add (.sl false true (.var 1) .nop (.var 4)) (.sl true true (.var 1) (.var 4) (.bin .add (.var 4) (.c (.int 1))))) (.sl true false (.var 1) (.var 4) .nop))) .skip)
    (.seq (.ite (.or_ (.cmp .eq (.var 3) (.c (.int 8))) (.cmp .eq (.var 3) (.c (.int 2))))
    (.ret (.blt .list_ (.cons (.var 1) (.nil)))) .skip)
    (.seq (.ite (.or_ (.cmp .eq (.var 3) (.c (.int 9))) (.cmp .eq (.var 3) (.c (.int 3))))
    (.ret (.bin .add (.sl false true (.var 1) .nop (.var 4)) (.rev (.sl true false (.var 1) (.var 4) .nop)))) .skip)
    (.seq (.ite (.cmp .eq (.var 3) (.c (.int 10)))
    (.ret (.bin .add (.bin .add (.sl true true (.var 1) (.c (.int 1)) (.bin .add (.var 4) (.c (.int 1)))) (.sl false true (.var 1) .nop (.c (.int 1)))) (.sl true false (.var 1) (.bin .add (.var 4) (.c (.int 1))) .nop))) .skip)
    (.ret (.bin .add (.bin .add (.sl false true (.var 1) .nop (.var 4)) (.tup (.cons (.call 174 (.cons (.var 0) (.nil))) (.nil)))) (.sl true false (.var 1) (.var 4) .nop)))))))))
      [some (.ref p), some (.tup xs), some (.int ((deep + 1 : Nat) : Int)), some (.int b), none, none] S1) fun r => ∃ d' env S', r = (.ret d', env, S') ∧ Wd p (m + 24) (j + 1) S' d' ∧ Pot p S' ∧ Le p S1 S' := bend_tup (k := deep + k + 1) (n := m) (c := 0) rfl hd1.1 hd1.2 p1 hj b0
          have done : ∀ c' : Bool, c' = true → (M (if c' = true then (some (true, S1) : Option (Bool × Hd)) else none) fun r => r = (true, S1)) := fun c' h => by rw [h]; exact ⟨_, rfl, rfl⟩
          simp_all? only [n0, decide_false, q_len (q_seqT)]
          by_cases c1 : (xs.length : Int) = 0
          · simp_all? only [c1, decide_true]
            refine fin.imp ?_
            rintro _ ⟨d', env, S', rfl, h1, h2, h3⟩
            simp? only []
            exact ⟨_, _, rfl, h1, h2, l1.trans h3⟩
          · have c2 : 5 < b := c.resolve_left c1
            simp_all? only [c1, decide_false, c2, decide_true]
            refine fin.imp ?_
            rintro _ ⟨d', env, S', rfl, h1, h2, h3⟩
            simp? only []
            exact ⟨_, _, rfl, h1, h2, l1.trans h3⟩
        · have c1 : ¬ (xs.length : Int) = 0 := fun h => c (.inl h)
          have c2 : ¬ 5 < b := fun h => c (.inr h)
          simp_all? only [n0, decide_false, q_len (q_seqT), c1, c2, seq_skip]
          refine seq_Mx (ite_M ?_)
          simp_all? only []
          have hl : xs.length ≤ 700 + j := hd1.1
          refine seq_M (fun env S2 => ∃ z : Int, env = [some (.ref p), some (.tup xs), some (.int ((deep + 1 : Nat) : Int)), some (.int b), some (.int z), none] ∧ 0 ≤ z ∧ z < xs.length ∧ Pot p S2 ∧ Le p S S2) ?_ ?_
          · simp? only [q_len (q_seqT)]
            refine (draw_ok p1 (by omega) (by omega)).imp ?_
            rintro _ ⟨z, S2, rfl, h0, h1, p2, l2⟩
            exact ⟨trivial, z, rfl, h0, h1, p2, l1.trans l2⟩
          rintro _ S2 ⟨z, rfl, z0, z1, p2, l2⟩
          obtain ⟨w, hw, hwm⟩ := atI_mem (xs := xs) z0 z1
          have L1 := cut_lenT (xs := xs) z0
          have L3 := cut_lenF (xs := xs) (show (0 : Int) ≤ z + 1 by omega)
          have e1 : ((deep + 1 : Nat) : Int) - 1 = (deep : Int) := by omega
          simp? only [hw, e1]
          refine (ih ((hd.2 w hwm).le l2) p2 hj).imp ?_
          rintro _ ⟨d', S3, rfl, hd', p3, l3⟩
          simp? only [show (1 : Nat) ≤ most by omega, Nat.zero_add]
          rw [q_addT (by rw [List.length_cons, List.length_nil]; omega)]
          simp? only []
          rw [q_addT (by rw [List.length_append, List.length_cons, List.length_nil]; omega)]
          simp? only []
          refine ⟨_, _, rfl, ⟨by rw [List.length_append, List.length_append, List.length_cons, List.length_nil]; omega, fun x hx => ?_⟩, p3, l2.trans l3⟩
          have inn : ∀ x ∈ xs, Wd p (m + 23) (j + 1) S3 x := fun x hx => (hd.2 x hx).mono (l2.trans l3) (by omega) (by omega)
          rcases List.mem_append.mp hx with hx | hx
          · rcases List.mem_append.mp hx with hx | hx
            · exact inn x (cut_in hx)
            · rw [List.mem_singleton.mp hx]
              exact hd'
          · exact inn x (cut_in hx)
      | _ => cases ht
end Lw

namespace Lw
open PySem L2 Ix
/-! ### whether a value is a zone -/
theorem M_andF {Γ : Fs} {a b : E} {env : Sl} {S : Hd} {Q : D × Hd → Prop} (h : M (ev Γ a env S) fun x => x.1 = .bl false ∧ Q x) : M (ev Γ (.and_ a b) env S) Q := by
  simp only [ev, M_bind]
  refine h.imp fun x ⟨e, q⟩ => ?_
  obtain ⟨d, S1⟩ := x
  cases e
  exact ⟨_, rfl, q⟩
theorem rng_all {β : Type} (xs : List β) (f : β → Bool) (g : Nat → Bool) (h : ∀ i x, xs[i]? = some x → g i = f x) : (List.range xs.length).all g = xs.all f := by
  rw [Bool.eq_iff_iff, List.all_eq_true, List.all_eq_true]
  constructor
  · intro a x hx
    obtain ⟨i, hi⟩ := List.getElem?_of_mem hx
    rw [← h i x hi]
    exact a i (List.mem_range.mpr (List.getElem?_eq_some_iff.mp hi).1)
  · intro a i hi
    have hi := List.mem_range.mp hi
    rw [h i xs[i] (List.getElem?_eq_getElem hi)]
    exact a _ (List.getElem_mem hi)
theorem ends2 {os : List Int} (h1 : 1 ≤ os.length) (h3 : os.length ≤ 3) : atI (os.map D.int) 0 = some (.int (os.head?.getD 0)) ∧ atI (os.map D.int) (-1) = some (.int (os.getLast?.getD 0)) := by
  match os, h1, h3 with
  | [x], _, _ => exact ⟨rfl, rfl⟩
  | [x, y], _, _ => exact ⟨rfl, rfl⟩
  | [x, y, z], _, _ => exact ⟨rfl, rfl⟩
end Lw

namespace Lw
open PySem L2 Ix
theorem M_tnot {Γ : Fs} {a : E} {env : Sl} {S : Hd} {Q : Bool × Hd → Prop} (b : Bool) (h : M (ev Γ a env S) fun x => x.1 = .bl b ∧ Q (!b, x.2)) : M (tst (ev Γ (.not_ a) env S)) Q := by
  obtain ⟨⟨d, S1⟩, e, rfl, q⟩ := h
  exact ⟨(!b, S1), by simp [ev, tst, e, tru], q⟩
end Lw

namespace Lw
open PySem L2 Ix
theorem any_hour_b12 {n p : Nat} {S : Hd} (hS : Pot p S) :
    M (run T (n + 2) 19 [.ref p] S) fun r => ∃ z S', r = (.int z, S') ∧ z.natAbs ≤ 1000000000000 ∧ Pot p S' ∧ Le p S S' := by
  refine run_M T_any_hour rfl ?_
  show M (ex (run T (n + 1)) b_any_hour [some (.ref p), none] S) _
  unfold b_any_hour
  simp? only []
  refine (draw_ok hS (by decide) (by decide)).imp ?_
  rintro _ ⟨z, S1, rfl, h0, h1, p1, l1⟩
  simp? only []
  by_cases c1 : z < 2
  · simp only [if_pos c1]
    refine (draw_ok p1 (by decide) (by decide)).imp ?_
    rintro _ ⟨y, S2, rfl, g0, g1, p2, l2⟩
    simp? only []
    exact ⟨_, _, rfl, by omega, p2, l1.trans l2⟩
  · simp only [if_neg c1]
    by_cases c2 : z = 2
    · simp only [if_pos c2, ex, ev, M_bind, M_map, M_some, M_ite, t_eq, a_tup, al_eq, List.getElem?_cons_zero, List.getElem?_cons_succ, Option.bind_some, Option.map_some, q_add, q_sub, q_lt, q_le, q_gt, q_ge, q_eqI, q_neI, q_eqB, q_neB, q_isN, q_notN, Ix.isNon, q_ixT, q_ixR, atI_0, atI_1, atI_2, atI_3, atI_4, atI_5, atI_6, atI_7, q_slT, q_slR, q_revT, q_seqT, q_int, q_intB, q_max, q_min, q_abs, q_tupT, n_tup, n_int, n_bl, n_non, n_str, isi_ii, isi_ib, isi_tt, isi_itl, isi_btl, isi_ttl, isi_tl, isi_bb, u_bl, u_int, u_non, u_tup, g_name, g_tup, g_nil, g_cons, o_ret, o_nx, i_seq, List.set_cons_zero, List.set_cons_succ, decide_eq_true_eq, Bool.not_eq_true', decide_eq_false_iff_not, evP, Bool.false_eq_true, if_true, if_false, ite_true, ite_false, reduceIte, Bool.not_true, Bool.not_false, Option.some.injEq, q_pow10, Int.reduceToNat, Int.reducePow, Int.reduceAdd, Int.reduceSub, Int.reduceMul, Int.reduceNeg, Int.reduceLT, Int.reduceLE, Nat.reducePow, Nat.reduceLT, Nat.reduceLeDiff, Nat.reduceAdd, List.length_cons, List.length_nil, Int.neg_neg, q_mul (i := 18) (j := 100000000000) (by decide) (by decide) (by decide) (by decide)]
      refine (draw_ok p1 (by decide) (by decide)).imp ?_
      rintro _ ⟨y, S2, rfl, g0, g1, p2, l2⟩
      simp? only [q_mul (i := 9) (j := 100000000000) (by decide) (by decide) (by decide) (by decide)]
      exact ⟨_, _, rfl, by omega, p2, l1.trans l2⟩
    · simp only [if_neg c2, ex, ev, M_bind, M_map, M_some, M_ite, t_eq, a_tup, al_eq, List.getElem?_cons_zero, List.getElem?_cons_succ, Option.bind_some, Option.map_some, q_add, q_sub, q_lt, q_le, q_gt, q_ge, q_eqI, q_neI, q_eqB, q_neB, q_isN, q_notN, Ix.isNon, q_ixT, q_ixR, atI_0, atI_1, atI_2, atI_3, atI_4, atI_5, atI_6, atI_7, q_slT, q_slR, q_revT, q_seqT, q_int, q_intB, q_max, q_min, q_abs, q_tupT, n_tup, n_int, n_bl, n_non, n_str, isi_ii, isi_ib, isi_tt, isi_itl, isi_btl, isi_ttl, isi_tl, isi_bb, u_bl, u_int, u_non, u_tup, g_name, g_tup, g_nil, g_cons, o_ret, o_nx, i_seq, List.set_cons_zero, List.set_cons_succ, decide_eq_true_eq, Bool.not_eq_true', decide_eq_false_iff_not, evP, Bool.false_eq_true, if_true, if_false, ite_true, ite_false, reduceIte, Bool.not_true, Bool.not_false, Option.some.injEq, q_pow10, Int.reduceToNat, Int.reducePow, Int.reduceAdd, Int.reduceSub, Int.reduceMul, Int.reduceNeg, Int.reduceLT, Int.reduceLE, Nat.reducePow, Nat.reduceLT, Nat.reduceLeDiff, Nat.reduceAdd, List.length_cons, List.length_nil, Int.neg_neg, q_mul (i := 2) (j := 100000000) (by decide) (by decide) (by decide) (by decide), show (7 : Nat) ≤ most by decide, Nat.zero_add]
      refine (draw_ok (p1.app _) (by decide) (by decide)).imp ?_
      rintro _ ⟨y, S2, rfl, g0, g1, p2, l2⟩
      obtain ⟨v, _, hvm, hv⟩ := atI_ints (ns := [0, 1, -1, 1440, -525600, 999799999999, -999999999999]) g0 g1
      have hg := l2.at p1.ne get_new
      simp? only [q_ixL hg]
      simp only [List.map] at hv
      simp? only [hv]
      have hvb : v.natAbs ≤ 1000000000000 := by
        simp only [List.mem_cons, List.mem_nil_iff, or_false] at hvm
        rcases hvm with rfl | rfl | rfl | rfl | rfl | rfl | rfl <;> decide
      exact ⟨_, _, rfl, hvb, p2, (l1.trans (Le.app _ _ _)).trans l2⟩
theorem make_chart_bd {n p : Nat} {S : Hd} {os : List Int} {sp u : Int} (hS : Pot p S) (hz : Zone os sp) (u0 : 0 ≤ u) (u1 : u ≤ 1000) :
    M (run T (n + 3) 21 [.ref p, zoneD os sp, .int u] S) fun r => ∃ off js S', r = (chartD off js, S') ∧ Chart os sp off js ∧ (∀ j ∈ js, j.1.natAbs ≤ 2000000000000) ∧ (js.length : Int) ≤ u ∧ Pot p S' ∧ Le p S S' := by
  have o1 := hz.len1
  have o3 := hz.len3
  refine run_M T_make_chart rfl ?_
  show M (ex (run T (n + 2)) b_make_chart [some (.ref p), some (zoneD os sp), some (.int u), none, none, none, none, none, none, none, none] S) _
  unfold b_make_chart
  refine seq_M (fun env S1 => S = S1 ∧ env = [some (.ref p), some (zoneD os sp), some (.int u), some (.tup (os.map .int)), some (.int sp), none, none, none, none, none, none]) ?_ ?_
  · simp? only []
    unfold zoneD
    simp? only []
    exact ⟨trivial, trivial, trivial⟩
  rintro _ _ ⟨rfl, rfl⟩
  refine seq_M (fun env S1 => ∃ a : Int, env = [some (.ref p), some (zoneD os sp), some (.int u), some (.tup (os.map .int)), some (.int sp), some (.int a), none, none, none, none, none] ∧ 0 ≤ a ∧ a < os.length ∧ Pot p S1 ∧ Le p S S1) ?_ ?_
  · simp? only [q_len (q_seqT), List.length_map]
    refine (draw_ok hS (by omega) (by omega)).imp ?_
    rintro _ ⟨z, S1, rfl, h0, h1, p1, l1⟩
    exact ⟨trivial, z, rfl, h0, h1, p1, l1⟩
  rintro _ S1 ⟨a, rfl, a0, a1, p1, l1⟩
  obtain ⟨off, ho, hom, hoi⟩ := atI_os a0 a1
  refine seq_M (fun env S2 => S1 = S2 ∧ env = [some (.ref p), some (zoneD os sp), some (.int u), some (.tup (os.map .int)), some (.int sp), some (.int a), some (.int off), none, none, none, none]) ?_ ?_
  · simp? only [hoi]
    exact ⟨trivial, trivial, trivial⟩
  rintro _ _ ⟨rfl, rfl⟩
  refine seq_M (fun env S2 => ∃ h : Int, h.natAbs ≤ 1000000000000 ∧ env = [some (.ref p), some (zoneD os sp), some (.int u), some (.tup (os.map .int)), some (.int sp), some (.int a), some (.int off), some (.int h), none, none, none] ∧ Pot p S2 ∧ Le p S S2) ?_ ?_
  · simp? only []
    refine (any_hour_b12 p1).imp ?_
    rintro _ ⟨z, S2, rfl, zb, p2, l2⟩
    exact ⟨trivial, z, zb, rfl, p2, l1.trans l2⟩
  rintro _ S2 ⟨h, hbd, rfl, p2, l2⟩
  refine seq_M (fun env S3 => env = [some (.ref p), some (zoneD os sp), some (.int u), some (.tup (os.map .int)), some (.int sp), some (.int a), some (.int off), some (.int h), some (.ref S2.length), none, none] ∧ S3 = S2 ++ [.lst []]) ?_ ?_
  · simp? only [show (0 : Nat) ≤ most by decide]
    exact ⟨trivial, trivial, trivial⟩
  rintro _ _ ⟨rfl, rfl⟩
  have hc : S2.length ≠ p := p2.ne
  generalize hcc : S2.length = c at hc ⊢
  have hgc : (S2 ++ [O.lst []])[c]? = some (.lst []) := by rw [← hcc]; exact get_new
  have p3 := p2.app [O.lst []]
  have l3 : Le p S (S2 ++ [O.lst []]) := l2.trans (Le.app _ _ _)
  have hfree : ∀ k o, S[k]? = some o → k ≠ p → k ≠ c := fun k o hk n e => by
    have := l2 k o n hk
    have := lt_of_get this
    omega
  generalize hS3 : S2 ++ [O.lst []] = S3 at hgc p3 l3 ⊢
  refine seq_M (fun env S4 => ∃ (a' h' : Int) (v9 v10 : Option D) (js : List (Int × Int)), env = [some (.ref p), some (zoneD os sp), some (.int u), some (.tup (os.map .int)), some (.int sp), some (.int a'), some (.int off), some (.int h'), some (.ref c), v9, v10] ∧
    S4[c]? = some (.lst (js.map jumpD)) ∧ Pot p S4 ∧ Le p S S4 ∧ (js.length : Int) ≤ u ∧ (∀ j ∈ js, j.1.natAbs ≤ 2000000000000) ∧ Chart os sp off js) ?_ ?_
  · refine for_M (M.imp (P := fun r => ∃ m S4, r = (.tup [.int m], S4) ∧ 0 ≤ m ∧ m ≤ u ∧ (os.length = 1 → m = 0) ∧ Pot p S4 ∧ Le p S3 S4) ?_ ?_)
    · simp? only []
      refine (draw_ok p3 (by omega) (by omega)).imp ?_
      rintro _ ⟨z, S4, rfl, h0, h1, p4, l4⟩
      simp? only [q_len q_seqT, List.length_map]
      by_cases hl : (1 : Int) < os.length
      · simp only [hl, decide_true, if_true, q_mul (i := z) (j := 1) (by omega) (by omega) (by decide) (by decide), M_some]
        exact ⟨z * 1, S4, rfl, by omega, by omega, by omega, p4, l4⟩
      · simp only [hl, decide_false, Bool.false_eq_true, if_false, q_mul (i := z) (j := 0) (by omega) (by omega) (by decide) (by decide), M_some]
        exact ⟨z * 0, S4, rfl, by omega, by omega, by omega, p4, l4⟩
    rintro _ ⟨m, S4, rfl, m0, m1, m2, p4, l4⟩
    refine ⟨_, _, rfl, i_rng (i := m) (by omega) (by omega), ?_⟩
    have hg4 := l4.at hc hgc
    refine M_loopS (m := 0) (fun i env S5 => ∃ (a' h' : Int) (v9 v10 : Option D) (js : List (Int × Int)) (last : Int), env = [some (.ref p), some (zoneD os sp), some (.int u), some (.tup (os.map .int)), some (.int sp), some (.int a'), some (.int off), some (.int h'), some (.ref c), v9, v10] ∧
      S5[c]? = some (.lst (js.map jumpD)) ∧ Pot p S5 ∧ Le p S S5 ∧ js.length = i ∧ Chart os sp off js ∧ 0 ≤ a' ∧ a' < os.length ∧ os[a'.toNat]? = some last ∧ (off :: js.map (·.2)).getLast? = some last ∧ (∀ x, (js.map (·.1)).getLast? = some x → x + sp ≤ h') ∧ h'.natAbs ≤ 1000000000000 + 3000010 * i ∧ (∀ j ∈ js, j.1.natAbs ≤ 2000000000000)) ?_ ?_ ?_
    · exact ⟨a, h, none, none, [], off, rfl, hg4, p4, l3.trans l4, rfl, ⟨hom, by simp, Adj.nil, Adj.one⟩, a0, a1, ho, rfl, by simp, by omega, by simp⟩
    · rintro i d env S5 hi ⟨a', h', v9, v10, js, last, rfl, gc, p5, l5, jl, hch, b0, b1, hl, hlast, hfar, hbd', hjb⟩
      obtain ⟨im, rfl⟩ := rng_get hi
      have him : (i : Int) < m := by omega
      have o2 : os.length = 2 ∨ os.length = 3 := by
        have : os.length ≠ 1 := fun e => by have := m2 e; omega
        omega
      simp only [asgG, Option.bind_some, List.set_cons_succ, List.set_cons_zero]
      refine seq_M (fun env S6 => ∃ a2 : Int, env = [some (.ref p), some (zoneD os sp), some (.int u), some (.tup (os.map .int)), some (.int sp), some (.int a2), some (.int off), some (.int h'), some (.ref c), some (.int (0 + (i : Int))), v10] ∧ 0 ≤ a2 ∧ a2 < os.length ∧ a2 ≠ a' ∧ Pot p S6 ∧ Le p S5 S6) ?_ ?_
      · simp? only [q_len q_seqT, List.length_map]
        refine (draw_ok p5 (by omega) (by omega)).imp ?_
        rintro _ ⟨z, S6, rfl, h0, h1, p6, l6⟩
        simp? only [q_len q_seqT, List.length_map, q_mod (show (0 : Int) < (os.length : Int) by omega)]
        refine ⟨trivial, _, rfl, Int.emod_nonneg _ (by omega), Int.emod_lt_of_pos _ (by omega), ?_, p6, l6⟩
        rcases o2 with e | e <;> rw [e] at h1 b1 ⊢ <;> omega
      rintro _ S6 ⟨a2, rfl, c0, c1, c2, p6, l6⟩
      obtain ⟨nx, hn, hnm, hni⟩ := atI_os c0 c1
      have g6 := l6.at hc gc
      have js_lt : js.length < most := by
        have : (1000 : Nat) < most := by decide
        omega
      refine seq_M (fun env S7 => env = [some (.ref p), some (zoneD os sp), some (.int u), some (.tup (os.map .int)), some (.int sp), some (.int a2), some (.int off), some (.int h'), some (.ref c), some (.int (0 + (i : Int))), v10] ∧ S7 = S6.set c (.lst ((js ++ [(h', nx)]).map jumpD))) ?_ ?_
      · simp? only [q_isL g6, hni, show (2 : Nat) ≤ most by decide]
        rw [q_app g6 (by simpa using js_lt)]
        simp only [M_some, List.map_append, List.map_cons, List.map_nil]
        exact ⟨trivial, trivial, rfl⟩
      rintro _ _ ⟨rfl, rfl⟩
      have p7 : Pot p (S6.set c (.lst ((js ++ [(h', nx)]).map jumpD))) := by
        obtain ⟨q, e⟩ := p6
        exact ⟨q, by rw [List.getElem?_set_ne hc]; exact e⟩
      have g7 : (S6.set c (.lst ((js ++ [(h', nx)]).map jumpD)))[c]? = some (.lst ((js ++ [(h', nx)]).map jumpD)) := List.getElem?_set_self (lt_of_get g6)
      have l7 : Le p S (S6.set c (.lst ((js ++ [(h', nx)]).map jumpD))) := fun k o hk e => by
        rw [List.getElem?_set_ne (fun z => hfree k o e hk z.symm)]
        exact (l5.trans l6) k o hk e
      generalize hS7 : S6.set c (.lst ((js ++ [(h', nx)]).map jumpD)) = S7 at p7 g7 l7 ⊢
      refine seq_M (fun env S8 => env = [some (.ref p), some (zoneD os sp), some (.int u), some (.tup (os.map .int)), some (.int sp), some (.int a2), some (.int off), some (.int (h' + sp)), some (.ref c), some (.int (0 + (i : Int))), v10] ∧ S7 = S8) ?_ ?_
      · simp? only []
        exact ⟨trivial, trivial, trivial⟩
      rintro _ _ ⟨rfl, rfl⟩
      refine seq_M (fun env S8 => ∃ z : Int, env = [some (.ref p), some (zoneD os sp), some (.int u), some (.tup (os.map .int)), some (.int sp), some (.int a2), some (.int off), some (.int (h' + sp)), some (.ref c), some (.int (0 + (i : Int))), some (.int z)] ∧ 0 ≤ z ∧ z < 5 ∧ Pot p S8 ∧ Le p S7 S8) ?_ ?_
      · simp? only []
        refine (draw_ok p7 (by omega) (by omega)).imp ?_
        rintro _ ⟨z, S8, rfl, h0, h1, p8, l8⟩
        exact ⟨trivial, z, rfl, h0, h1, p8, l8⟩
      rintro _ S8 ⟨z, rfl, z0, z1, p8, l8⟩
      have fin : ∀ (h2 : Int) (S9 : Hd), h' + sp ≤ h2 → h2 ≤ h' + 3 * sp + 5 → Pot p S9 → Le p S7 S9 → ∃ (a' h' : Int) (v9 v10 : Option D) (js : List (Int × Int)) (last : Int), [some (D.ref p), some (zoneD os sp), some (.int u), some (.tup (os.map .int)), some (.int sp), some (.int a2), some (.int off), some (.int h2), some (.ref c), some (.int (0 + (i : Int))), some (.int z)] = [some (D.ref p), some (zoneD os sp), some (.int u), some (.tup (os.map .int)), some (.int sp), some (.int a'), some (.int off), some (.int h'), some (.ref c), v9, v10] ∧
          S9[c]? = some (.lst (js.map jumpD)) ∧ Pot p S9 ∧ Le p S S9 ∧ js.length = i + 1 ∧ Chart os sp off js ∧ 0 ≤ a' ∧ a' < os.length ∧ os[a'.toNat]? = some last ∧ (off :: js.map (·.2)).getLast? = some last ∧ (∀ x, (js.map (·.1)).getLast? = some x → x + sp ≤ h') ∧ h'.natAbs ≤ 1000000000000 + 3000010 * (i + 1) ∧ (∀ j ∈ js, j.1.natAbs ≤ 2000000000000) := fun h2 S9 hh hh2 p9 l9 => by
        refine ⟨a2, h2, _, _, js ++ [(h', nx)], nx, rfl, l9.at hc g7, p9, l7.trans l9, by simp [jl], ⟨hom, ?_, ?_, ?_⟩, c0, c1, hn, ?_, ?_, ?_, ?_⟩
        · intro j hj
          rcases List.mem_append.mp hj with q | q
          · exact hch.mem j q
          · rw [List.mem_singleton.mp q]
            exact hnm
        · rw [List.map_append]
          exact hch.far.snoc hfar
        · rw [List.map_append, ← List.cons_append]
          refine hch.alt.snoc fun x hx => ?_
          rw [hlast] at hx
          cases hx
          exact os_ne hz.asc hl hn (fun e => c2 (by omega))
        · rw [List.map_append, ← List.cons_append]
          exact List.getLast?_concat
        · intro x hx
          rw [List.map_append] at hx
          simp at hx
          omega
        · have := hz.top
          have := hz.pos
          omega
        · intro j hj
          rcases List.mem_append.mp hj with q | q
          · exact hjb j q
          · rw [List.mem_singleton.mp q]
            show h'.natAbs ≤ _
            omega
      have sp0 : 0 < sp := by
        obtain ⟨x, hx⟩ : ∃ x, x ∈ os := ⟨off, hom⟩
        have := hz.gap x hx x hx
        omega
      have still : items .range1 [.int m] S8 = some ((List.range m.toNat).map fun (q : Nat) => .int (0 + (q : Int))) := i_rng (by omega) (by omega)
      simp? only []
      by_cases hz2 : 2 < z
      · simp only [if_pos hz2, ex, ev, M_bind, M_map, M_some, M_ite, t_eq, a_tup, al_eq, List.getElem?_cons_zero, List.getElem?_cons_succ, Option.bind_some, Option.map_some, q_add, q_sub, q_lt, q_le, q_gt, q_ge, q_eqI, q_neI, q_eqB, q_neB, q_isN, q_notN, Ix.isNon, q_ixT, q_ixR, atI_0, atI_1, atI_2, atI_3, atI_4, atI_5, atI_6, atI_7, q_slT, q_slR, q_revT, q_seqT, q_int, q_intB, q_max, q_min, q_abs, q_tupT, n_tup, n_int, n_bl, n_non, n_str, isi_ii, isi_ib, isi_tt, isi_itl, isi_btl, isi_ttl, isi_tl, isi_bb, u_bl, u_int, u_non, u_tup, g_name, g_tup, g_nil, g_cons, o_ret, o_nx, i_seq, List.set_cons_zero, List.set_cons_succ, decide_eq_true_eq, Bool.not_eq_true', decide_eq_false_iff_not, evP, Bool.false_eq_true, if_true, if_false, ite_true, ite_false, reduceIte, Bool.not_true, Bool.not_false, Option.some.injEq, q_pow10, Int.reduceToNat, Int.reducePow, Int.reduceAdd, Int.reduceSub, Int.reduceMul, Int.reduceNeg, Int.reduceLT, Int.reduceLE, Nat.reducePow, Nat.reduceLT, Nat.reduceLeDiff, Nat.reduceAdd, List.length_cons, List.length_nil, Int.neg_neg, q_mul (i := 2) (j := sp) (by decide) (by decide) (by omega) (by have := hz.top; omega), show (5 : Nat) ≤ most by decide, Nat.zero_add]
        have hz3 : z = 3 ∨ z = 4 := by omega
        have top := hz.top
        rcases hz3 with rfl | rfl
        · simp? only [q_ixL get_new]
          refine (draw_ok (p8.app _) (by omega) (by omega)).imp ?_
          rintro _ ⟨y, S9, rfl, y0, y1, p9, l9⟩
          simp? only []
          exact ⟨i_rng (by omega) (by omega), fin (h' + sp + y) _ (by omega) (by omega) p9 ((l8.trans (Le.app _ _ _)).trans l9)⟩
        · simp? only [q_ixL get_new]
          refine (draw_ok (p8.app _) (by omega) (by omega)).imp ?_
          rintro _ ⟨y, S9, rfl, y0, y1, p9, l9⟩
          simp? only []
          exact ⟨i_rng (by omega) (by omega), fin (h' + sp + y) _ (by omega) (by omega) p9 ((l8.trans (Le.app _ _ _)).trans l9)⟩
      · simp only [if_neg hz2, Nat.zero_add]
        exact ⟨still, fin (h' + sp) _ (by omega) (by omega) p8 l8⟩
    · rintro env S5 ⟨a', h', v9, v10, js, last, rfl, gc, p5, l5, jl, hch, _, _, _, _, _, _, hjb⟩
      refine ⟨rfl, a', h', v9, v10, js, rfl, gc, p5, l5, ?_, hjb, hch⟩
      simp at jl
      omega
  rintro _ S4 ⟨a', h', v9, v10, js, rfl, gc, p4, l4, jl, hjb, hch⟩
  simp? only [q_tupL gc, show (2 : Nat) ≤ most by decide]
  exact ⟨off, js, _, rfl, hch, hjb, jl, p4, l4⟩
end Lw

namespace Lw
open PySem L2 Ix
/-! ### a table drawn and bent -/
theorem small_int {i : Int} (h : i.natAbs ≤ 2 ^ 200) {p n j : Nat} {S : Hd} : Wd p (n + 1) j S (.int i) := by
  show i.natAbs ≤ 2 ^ 200 * (j + 1)
  exact Nat.le_trans h (Nat.le_trans (by omega) (Nat.mul_le_mul_left _ (show 1 ≤ j + 1 by omega)))
theorem wd_pair {p n j : Nat} {S : Hd} {a b : Int} (h1 : a.natAbs ≤ 2 ^ 200) (h2 : b.natAbs ≤ 2 ^ 200) : Wd p (n + 2) j S (.tup [.int a, .int b]) := by
  refine ⟨by show 2 ≤ 700 + j; omega, fun x hx => ?_⟩
  simp only [List.mem_cons, List.mem_nil_iff, or_false] at hx
  rcases hx with rfl | rfl
  · exact small_int h1
  · exact small_int h2
theorem wd_chart {p j : Nat} {S : Hd} {os : List Int} {sp off : Int} {js : List (Int × Int)} (hz : Zone os sp) (hc : Chart os sp off js) (hl : js.length ≤ 700) (hb : ∀ j ∈ js, j.1.natAbs ≤ 2000000000000) : Wd p 4 j S (chartD off js) := by
  have lit : ∀ x ∈ os, x.natAbs ≤ 2 ^ 200 := fun x hx => by
    have := hz.lo x hx
    have := hz.hi x hx
    have : (900 : Nat) ≤ 2 ^ 200 := by decide
    omega
  refine ⟨by show 2 ≤ 700 + j; omega, fun x hx => ?_⟩
  simp only [List.mem_cons, List.mem_nil_iff, or_false] at hx
  rcases hx with rfl | rfl
  · exact small_int (lit _ hc.first)
  · refine ⟨by rw [List.length_map]; omega, fun x hx => ?_⟩
    obtain ⟨y, hy, rfl⟩ := List.mem_map.mp hx
    exact wd_pair (Nat.le_trans (hb y hy) (by decide)) (lit _ (hc.mem y hy))
/-- none to two times one thing put otherwise -/
theorem bends_ok {k p : Nat} {S : Hd} {x d : D} (hd : Wd p 4 0 S d) (hS : Pot p S) :
    M (ex (run T (k + 6)) (.for_ .range1 (.cons (.call 18 (.cons (.var 0) (.cons (.c (.int 3)) (.nil)))) (.nil)) (.name 3) (.asg (.name 2) (.call 175 (.cons (.var 0) (.cons (.var 2) (.cons (.c (.int 3)) (.nil))))))) [some (.ref p), some x, some d, none] S) fun r => ∃ d' v S', r = (.nx, [some (.ref p), some x, some d', v], S') ∧ Wd p 50 2 S' d' ∧ Pot p S' ∧ Le p S S' := by
  have hm := most_big
  refine for_M (M.imp (P := fun r => ∃ (z : Int) (S2 : Hd), r = (.tup [.int z], S2) ∧ 0 ≤ z ∧ z < 3 ∧ Pot p S2 ∧ Le p S S2) ?_ ?_)
  · simp? only []
    refine (draw_ok hS (by decide) (by decide)).imp ?_
    rintro _ ⟨z, S2, rfl, h0, h1, p2, l2⟩
    simp? only []
    exact ⟨z, S2, rfl, h0, h1, p2, l2⟩
  rintro _ ⟨z, S2, rfl, z0, z1, p2, l2⟩
  refine ⟨_, _, rfl, i_rng (by omega) (by omega), ?_⟩
  refine M_loopS (m := 0) (fun i env S3 => i ≤ z.toNat ∧ ∃ d v2, env = [some (.ref p), some x, some d, v2] ∧ Wd p (4 + 23 * i) i S3 d ∧ Pot p S3 ∧ Le p S S3) ?_ ?_ ?_
  · exact ⟨by omega, d, none, rfl, hd.le l2, p2, l2⟩
  · rintro i y env S3 hi ⟨hi3, d, v2, rfl, hd, p3, l3⟩
    rw [Nat.zero_add] at hd hi3
    obtain ⟨hi2, rfl⟩ := rng_get hi
    simp? only []
    have hb := bend_ok (deep := 3) (k := k) hd p3 (by omega)
    rw [show 3 + k + 3 = k + 6 by omega] at hb
    refine (show M (run T (k + 6) 175 [.ref p, d, .int 3] S3) _ from hb).imp ?_
    rintro _ ⟨d', S4, rfl, hd', p4, l4⟩
    refine ⟨i_rng (by omega) (by omega), by omega, d', _, rfl, hd'.mono (Le.refl _ _) (by omega) (by omega), p4, l3.trans l4⟩
  · rintro env S3 ⟨h3, d, v2, rfl, hd, p3, l3⟩
    have : (0 + ((List.range z.toNat).map fun (m : Nat) => D.int (0 + (m : Int))).length) ≤ 2 := by
      rw [List.length_map, List.length_range]
      omega
    exact ⟨d, v2, S3, rfl, hd.mono (Le.refl _ _) (by omega) (by omega), p3, l3⟩
theorem tale_ok {k p : Nat} {S : Hd} {os : List Int} {sp : Int} (hS : Pot p S) (hz : Zone os sp) : M (run T (k + 7) 181 [.ref p, zoneD os sp] S) fun r => ∃ d S', r = (d, S') ∧ Wd p 50 2 S' d ∧ Pot p S' ∧ Le p S S' := by
  have hm := most_big
  refine run_M T_tale rfl ?_
  show M (ex (run T (k + 6)) b_tale [some (.ref p), some (zoneD os sp), none, none] S) _
  unfold b_tale
  refine seq_M (fun env S1 => ∃ d, env = [some (.ref p), some (zoneD os sp), some d, none] ∧ Wd p 4 0 S1 d ∧ Pot p S1 ∧ Le p S S1) ?_ ?_
  · simp? only [show (5 : Nat) ≤ most by omega, Nat.zero_add]
    refine (draw_ok (hS.app _) (by decide) (by decide)).imp ?_
    rintro _ ⟨z, S1, rfl, z0, z1, p1, l1⟩
    have gl := l1.at hS.ne (get_new (S := S) (o := .lst [.int 9, .int 9, .int 3, .int 60, .int 200]))
    have five : ∃ u : Int, 0 ≤ u ∧ u ≤ 200 ∧ atI ([.int 9, .int 9, .int 3, .int 60, .int 200] : List D) z = some (.int u) := by
      rcases (show z = 0 ∨ z = 1 ∨ z = 2 ∨ z = 3 ∨ z = 4 by omega) with e | e | e | e | e <;> subst e
      · exact ⟨9, by decide, by decide, rfl⟩
      · exact ⟨9, by decide, by decide, rfl⟩
      · exact ⟨3, by decide, by decide, rfl⟩
      · exact ⟨60, by decide, by decide, rfl⟩
      · exact ⟨200, by decide, by decide, rfl⟩
    obtain ⟨u, u0, u1, eu⟩ := five
    simp? only [q_ixL gl, eu]
    refine (make_chart_bd (n := k + 3) p1 hz u0 (by omega)).imp ?_
    rintro _ ⟨off, js, S2, rfl, hc, hb, hl, p2, l2⟩
    exact ⟨trivial, _, rfl, wd_chart hz hc (by omega) hb, p2, ((Le.app _ _ _).trans l1).trans l2⟩
  rintro _ S1 ⟨d, rfl, hd, p1, l1⟩
  refine seq_M (fun env S2 => ∃ d v, env = [some (.ref p), some (zoneD os sp), some d, v] ∧ Wd p 50 2 S2 d ∧ Pot p S2 ∧ Le p S S2) ?_ ?_
  · refine (bends_ok hd p1).imp ?_
    rintro _ ⟨d', v, S2, rfl, hw, p2, l2⟩
    exact ⟨rfl, _, _, rfl, hw, p2, l1.trans l2⟩
  rintro _ S2 ⟨d, v, rfl, hd, p2, l2⟩
  simp? only []
  exact ⟨_, _, rfl, hd, p2, l2⟩
end Lw

namespace Lw
open PySem L2 Ix
/-! ### whether a value is a table -/
def offB (os : List Int) : D → Bool
  | .int i => decide (i ∈ os)
  | _ => false
def markB (os : List Int) : D → Bool
  | .tup [.int _, v] => offB os v
  | _ => false
def marksB (os : List Int) : D → Bool
  | .tup js => js.all (markB os)
  | _ => false
theorem in_ints {S : Hd} {x : Int} {os : List Int} : cmpD .in_ (.int x) (.tup (os.map .int)) S = some (.bl (decide (x ∈ os)), S) := by
  rw [q_in rfl q_seqT (by rw [List.all_map, List.all_eq_true]; intro _ _; rfl)]
  congr 3
  rw [List.any_map, Bool.eq_iff_iff]
  simp [eqF]
theorem offset_any {p n j k : Nat} {S : Hd} {os : List Int} {sp : Int} {d : D} (h : Wd p n j S d) : Pu (run T (k + 2) 9 [zoneD os sp, d] S) (.bl (offB os d)) S := by
  refine Pu.run T_is_offset rfl ?_
  show M (ex (run T (k + 1)) b_is_offset [some (zoneD os sp), some d] S) _
  unfold b_is_offset zoneD
  simp? only []
  refine (number_any h).use fun S1 l1 => ?_
  cases hi : isI d with
  | false =>
    simp? only []
    refine ⟨?_, l1⟩
    cases d <;> first | rfl | cases hi
  | true =>
    cases d with
    | int i =>
      simp? only [in_ints]
      exact ⟨rfl, l1⟩
    | _ => cases hi
theorem mark_any {p n j k : Nat} {S : Hd} {os : List Int} {sp : Int} {d : D} (h : Wd p n j S d) : Pu (run T (k + 3) 10 [zoneD os sp, d] S) (.bl (markB os d)) S := by
  refine Pu.run T_is_mark rfl ?_
  show M (ex (run T (k + 2)) b_is_mark [some (zoneD os sp), some d] S) _
  unfold b_is_mark
  simp? only []
  refine (pair_any h).use fun S1 l1 => ?_
  cases hp : isP d with
  | false =>
    simp? only []
    refine ⟨?_, l1⟩
    unfold markB
    split
    · cases hp
    · rfl
  | true =>
    cases d with
    | tup xs =>
      match xs, hp with
      | [o, s], _ =>
        obtain ⟨m, rfl, hl, hw⟩ := wd_tup (d := .non) h
        have ho := (hw o (by simp)).le l1.le
        have hs := (hw s (by simp)).le l1.le
        simp? only []
        refine (number_any ho).use fun S2 l2 => ?_
        cases hi : isI o with
        | false =>
          simp? only []
          refine ⟨?_, l1.trans l2⟩
          cases o <;> first | rfl | cases hi
        | true =>
          cases o with
          | int i =>
            simp? only []
            refine (offset_any (hs.le l2.le)).use fun S3 l3 => ?_
            simp? only []
            exact ⟨rfl, (l1.trans l2).trans l3⟩
          | _ => cases hi
      | [], hp => cases hp
      | [_], hp => cases hp
      | _ :: _ :: _ :: _, hp => cases hp
    | _ => cases hp
theorem marks_any {p n j k : Nat} {S : Hd} {os : List Int} {sp : Int} {d : D} (h : Wd p n j S d) (hj : j ≤ 100) : Pu (run T (k + 4) 11 [zoneD os sp, d] S) (.bl (marksB os d)) S := by
  have hm := most_big
  have e := isi_tup h
  refine Pu.run T_are_marks rfl ?_
  show M (ex (run T (k + 3)) b_are_marks [some (zoneD os sp), some d, none] S) _
  unfold b_are_marks
  simp only [ex, M_map]
  cases ht : isT d with
  | false =>
    rw [ht] at e
    refine M_andF ?_
    simp? only [e]
    refine ⟨trivial, ?_, Lq.refl _⟩
    cases d <;> first | rfl | cases ht
  | true =>
    cases d with
    | tup js =>
      rw [ht] at e
      obtain ⟨m, rfl, hl, hw⟩ := wd_tup (d := .non) h
      refine M_and (M.imp (P := fun x => x = (.bl true, S)) (by simp? only [e]) ?_)
      rintro _ rfl
      refine ⟨rfl, ?_⟩
      refine M_all (S1 := S) (ds := [.tup js]) (its := js) (fun i => (js[i]?.map (markB os)).getD false) (by decide) (by simp only [ev, Option.bind_some, List.getElem?_cons_zero, List.getElem?_cons_succ, argsOf, Option.map_some]) (Lq.refl _) rfl (by omega) (fun i d S2 hi l => ?_) (fun _ _ => rfl) fun S2 l => ?_
      · refine ⟨_, rfl, ?_⟩
        simp? only [wipeD, hi]
        refine (mark_any ((hw d (List.mem_of_getElem? hi)).le l.le)).imp ?_
        rintro ⟨_, S3⟩ ⟨rfl, l3⟩
        exact ⟨rfl, l3⟩
      · simp? only []
        exact ⟨by rw [rng_all js (markB os) _ fun i x hx => by rw [hx]; rfl]; rfl, l⟩
    | _ => cases ht
def adjB (f : Int → Int → Bool) : List Int → Bool
  | a :: b :: r => f a b && adjB f (b :: r)
  | _ => true
theorem adj_rng {f : Int → Int → Bool} : ∀ {ns : List Int}, ((List.range (ns.length - 1)).all fun i => f (ns[i]?.getD 0) (ns[i + 1]?.getD 0)) = adjB f ns
  | [] => rfl
  | [a] => rfl
  | a :: b :: r => by
    have ih := adj_rng (f := f) (ns := b :: r)
    rw [adjB, ← ih]
    show ((List.range (r.length + 1)).all _) = (_ && (List.range r.length).all _)
    rw [List.range_succ_eq_map, List.all_cons, List.all_map]
    rfl
theorem M_adjB {Γ : Fs} {iv a b : Nat} {ce : E} {f : Int → Int → Bool} {env : Sl} {S : Hd} {L : List Int} {k : Nat} {Q : D × Hd → Prop} (hi : env[iv]? = some (some (.ref k))) (hk : S[k]? = some (.lst (L.map .int))) (hz : L.length ≤ 990)
    (he : ∀ (x y : Int) (S2 : Hd), Lq S S2 → M (ev Γ ce (((wipeD env [a, b]).set a (some (.int x))).set b (some (.int y))) S2) fun r => r.1 = .bl (f x y) ∧ Lq S2 r.2)
    (hq : ∀ S2, Lq S S2 → Q (.bl (adjB f L), S2)) : M (ev Γ (.blt .all_ (.cons (.lc .zip (.cons (.var iv) (.cons (.sl true false (.var iv) (.c (.int 1)) .nop) .nil)) (.tup (.cons (.name a) (.cons (.name b) .nil))) (.c (.bl true)) ce [a, b]) .nil)) env S) Q := by
  have hlt := lt_of_get hk
  have hl : (List.zipWith (fun a b => D.tup [a, b]) (L.map .int) ((L.map .int).drop 1)).length = L.length - 1 := by simp
  refine M_all (S1 := S ++ [.lst ((L.map .int).drop 1)]) (ds := [.ref k, .ref S.length]) (its := List.zipWith (fun a b => D.tup [a, b]) (L.map .int) ((L.map .int).drop 1)) (fun i => f (L[i]?.getD 0) (L[i + 1]?.getD 0)) (by simp [gOk])
    (by simp only [ev, hi, Option.bind_some, evP, if_true, q_slL hk, cut_1, al_eq, argsOf, Option.map_some, Bool.false_eq_true, if_false]) (Lq.app _ _) ?_ (by have := most_big; rw [hl]; omega) (fun i d S2 hi l => ?_) (fun S2 l => ?_) fun S2 l => ?_
  · simp only [items, isTup, true_or, if_true, q_seqL (Lq.app S [.lst ((L.map .int).drop 1)] _ _ hk), q_seqL get_new, Option.bind_some, Option.map_some]
  · obtain ⟨x, y, e1, e2, rfl⟩ := zip_get hi
    refine ⟨_, rfl, ?_⟩
    have := he x y S2 ((Lq.app _ _).trans l)
    rw [e1, e2]
    exact this
  · simp only [items, isTup, true_or, if_true, q_seqL (l _ _ (Lq.app S [.lst ((L.map .int).drop 1)] _ _ hk)), q_seqL (l _ _ get_new), Option.bind_some, Option.map_some]
  · rw [hl, adj_rng]
    exact hq S2 l
theorem marks_js {os : List Int} : ∀ {js : List D}, js.all (markB os) = true → ∃ ps : List (Int × Int), js = ps.map jumpD ∧ ∀ q ∈ ps, q.2 ∈ os
  | [], _ => ⟨[], rfl, by simp⟩
  | d :: js, h => by
    rw [List.all_cons, Bool.and_eq_true] at h
    obtain ⟨ps, rfl, hn⟩ := marks_js h.2
    have hd := h.1
    unfold markB at hd
    split at hd
    · next i v =>
      cases v with
      | int o =>
        simp only [offB, decide_eq_true_eq] at hd
        exact ⟨(i, o) :: ps, rfl, fun x hx => by
          rcases List.mem_cons.mp hx with rfl | hx
          · exact hd
          · exact hn x hx⟩
      | _ => simp [offB] at hd
    · cases hd
theorem pairs_D : ∀ ps : List (Int × Int), pairsD (ps.map jumpD) = some ps
  | [] => rfl
  | a :: ps => by
    rw [List.map_cons]
    show (pairsD (ps.map jumpD)).map _ = _
    rw [pairs_D ps]
    rfl
def jumpsB (sp off : Int) (ps : List (Int × Int)) : Bool := adjB (fun x y => decide (sp ≤ y - x)) (ps.map (·.1)) && adjB (fun x y => !decide (x = y)) (off :: ps.map (·.2))
theorem jumps_any {k : Nat} {S : Hd} {os : List Int} {sp off : Int} {js : List (Int × Int)} (hz : js.length ≤ 900) : Pu (run T (k + 1) 8 [zoneD os sp, .int off, .tup (js.map jumpD)] S) (.bl (jumpsB sp off js)) S := by
  refine Pu.run T_are_jumps rfl ?_
  show M (ex (run T k) b_are_jumps [some (zoneD os sp), some (.int off), some (.tup (js.map jumpD)), none, none, none, none, none, none, none, none] S) _
  unfold b_are_jumps
  refine seq_M (fun env S1 => ∃ k1 : Nat, env = [some (zoneD os sp), some (.int off), some (.tup (js.map jumpD)), some (.ref k1), none, none, none, none, none, none, none] ∧ S1[k1]? = some (.lst ((js.map (·.1)).map .int)) ∧ Lq S S1) ?_ ?_
  · simp only [ex, M_bind, M_map]
    refine M_proj (js := js) (f := (·.1)) rfl (by simp) hz (fun j => atI_0) fun k S1 hk l => ?_
    simp only [asgG, M_some, List.set_cons_succ, List.set_cons_zero]
    exact ⟨trivial, k, rfl, hk, l⟩
  rintro _ S1 ⟨k1, rfl, g1, l1⟩
  refine seq_M (fun env S2 => ∃ k2 : Nat, env = [some (zoneD os sp), some (.int off), some (.tup (js.map jumpD)), some (.ref k1), none, some (.ref k2), none, none, none, none, none] ∧ S2[k2]? = some (.lst ((off :: js.map (·.2)).map .int)) ∧ Lq S1 S2) ?_ ?_
  · simp only [ex, M_bind, M_map]
    rw [show ∀ (e1 e2 : E) (env : Sl) (S : Hd), ev (run T k) (.bin .add e1 e2) env S = (ev (run T k) e1 env S).bind fun x => (ev (run T k) e2 env x.2).bind fun y => binD .add x.1 y.1 y.2 from fun _ _ _ _ => rfl]
    simp only [M_bind]
    rw [show ev (run T k) (.lst (.cons (.var 1) .nil)) [some (zoneD os sp), some (.int off), some (.tup (js.map jumpD)), some (.ref k1), none, none, none, none, none, none, none] S1 = some (.ref S1.length, S1 ++ [.lst [.int off]]) from by simp only [ev, List.getElem?_cons_succ, List.getElem?_cons_zero, Option.bind_some, argsOf, Option.map_some, List.length_cons, List.length_nil, show (0 + 1 : Nat) ≤ most by decide, if_true, al_eq]]
    simp only [M_some]
    refine M_proj (js := js) (f := (·.2)) rfl (by simp) hz (fun j => atI_1) fun k S2 hk l => ?_
    have hm := most_big
    simp only [q_addL (l _ _ get_new) hk (by simp; omega), al_eq, M_some, asgG, List.set_cons_succ, List.set_cons_zero]
    exact ⟨trivial, _, rfl, by rw [get_new]; rfl, ((Lq.app _ _).trans l).trans (Lq.app _ _)⟩
  rintro _ S2 ⟨k2, rfl, g2, l2⟩
  refine seq_M (fun env S3 => env = [some (zoneD os sp), some (.int off), some (.tup (js.map jumpD)), some (.ref k1), none, some (.ref k2), some (.bl (adjB (fun x y => decide (sp ≤ y - x)) (js.map (·.1)))), none, none, none, none] ∧ Lq S2 S3) ?_ ?_
  · simp only [ex, M_bind, M_map]
    refine M_adjB (f := fun x y => decide (sp ≤ y - x)) (L := js.map (·.1)) rfl (l2 _ _ g1) (by simp; omega) (fun x y S3 l => ?_) fun S3 l => ?_
    · unfold zoneD
      simp? only [wipeD]
      exact ⟨trivial, Lq.refl _⟩
    · simp only [asgG, M_some, List.set_cons_succ, List.set_cons_zero]
      exact ⟨trivial, trivial, l⟩
  rintro _ S3 ⟨rfl, l3⟩
  simp only [ex, M_map]
  unfold jumpsB
  cases ha : adjB (fun x y => decide (sp ≤ y - x)) (js.map (·.1)) with
  | false =>
    refine M_andF ?_
    simp? only []
    exact ⟨trivial, by simp, l1.trans (l2.trans l3)⟩
  | true =>
    refine M_and (M.imp (P := fun x => x = (.bl true, S3)) (by simp? only []) ?_)
    rintro _ rfl
    refine ⟨rfl, ?_⟩
    refine M_adjB (f := fun x y => !decide (x = y)) (L := off :: js.map (·.2)) rfl (l3 _ _ g2) (by simp; omega) (fun x y S4 l => ?_) fun S4 l => ?_
    · simp? only [wipeD]
      exact ⟨trivial, Lq.refl _⟩
    · simp? only []
      exact ⟨by simp, l1.trans (l2.trans (l3.trans l))⟩
def chartB (os : List Int) (sp : Int) : D → Bool
  | .tup [.int o, .tup js] => decide (o ∈ os) && js.all (markB os) && ((pairsD js).map (jumpsB sp o)).getD false
  | _ => false
theorem fits_any {p n j k : Nat} {S : Hd} {os : List Int} {sp : Int} {d : D} (h : Wd p n j S d) (hj : j ≤ 100) : Pu (run T (k + 5) 12 [zoneD os sp, d] S) (.bl (chartB os sp d)) S := by
  have hm := most_big
  refine Pu.run T_fits_as_table rfl ?_
  show M (ex (run T (k + 4)) b_fits_as_table [some (zoneD os sp), some d, none, none] S) _
  unfold b_fits_as_table
  refine seq_Mx (ite_M ?_)
  simp_all? only []
  refine (pair_any h).use fun S1 l1 => ?_
  cases hp : isP d with
  | false =>
    simp_all? only []
    simp? only []
    refine ⟨?_, l1⟩
    unfold chartB
    split
    · cases hp
    · rfl
  | true =>
    cases d with
    | tup xs =>
      match xs, hp with
      | [o, s], _ =>
        obtain ⟨m, rfl, hl, hw⟩ := wd_tup (d := .non) h
        have ho := (hw o (by simp)).le l1.le
        have hs := (hw s (by simp)).le l1.le
        simp_all? only [seq_skip]
        refine seq_M (fun env S2 => S1 = S2 ∧ env = [some (zoneD os sp), some (.tup [o, s]), some o, some s]) ?_ ?_
        · simp? only []
          exact ⟨trivial, trivial, trivial⟩
        rintro _ _ ⟨rfl, rfl⟩
        refine seq_Mx (ite_M ?_)
        simp_all? only []
        refine (offset_any ho).use fun S2 l2 => ?_
        cases hof : offB os o with
        | false =>
          simp_all? only []
          simp? only []
          refine ⟨?_, l1.trans l2⟩
          cases o with
          | int i =>
            simp only [offB] at hof
            cases s <;> simp [chartB, hof]
          | _ => rfl
        | true =>
          simp_all? only []
          refine (marks_any (hs.le l2.le) hj).use fun S3 l3 => ?_
          cases hmk : marksB os s with
          | false =>
            simp_all? only []
            simp? only []
            refine ⟨?_, (l1.trans l2).trans l3⟩
            cases s with
            | tup js =>
              simp only [marksB] at hmk
              cases o <;> simp [chartB, hmk]
            | _ => cases o <;> rfl
          | true =>
            cases s with
            | tup js =>
              cases o with
              | int i =>
                simp only [marksB] at hmk
                obtain ⟨ps, rfl, hps⟩ := marks_js hmk
                obtain ⟨m2, rfl, hl2, _⟩ := wd_tup (d := .non) hs
                simp_all? only [seq_skip]
                simp? only []
                refine (jumps_any (by rw [List.length_map] at hl2; omega)).use fun S4 l4 => ?_
                simp? only []
                refine ⟨?_, (l1.trans l2).trans (l3.trans l4)⟩
                simp only [offB] at hof
                simp only [chartB, hof, hmk, pairs_D, Bool.true_and, Option.map_some, Option.getD_some]
              | _ => simp [offB] at hof
            | _ => simp [marksB] at hmk
      | [], hp => cases hp
      | [_], hp => cases hp
      | _ :: _ :: _ :: _, hp => cases hp
    | _ => cases hp
end Lw

namespace Lw
open PySem L2 Ix
/-! ### whether a value is a table, looked at jump by jump -/
theorem among_any {p n j k : Nat} {S : Hd} {os : List Int} {d : D} (h : Wd p n j S d) : Pu (run T (k + 2) 45 [d, .tup (os.map .int)] S) (.bl (offB os d)) S := by
  refine Pu.run T_among rfl ?_
  show M (ex (run T (k + 1)) b_among [some d, some (.tup (os.map .int))] S) _
  unfold b_among
  simp? only []
  refine (whole_any h).use fun S1 l1 => ?_
  cases hi : isI d with
  | false =>
    simp? only []
    refine ⟨?_, l1⟩
    cases d <;> first | rfl | cases hi
  | true =>
    cases d with
    | int i =>
      simp? only [in_ints]
      exact ⟨rfl, l1⟩
    | _ => cases hi
def lateB (sp : Int) : Option Int → Int → Bool
  | none, _ => true
  | some x, m => decide (sp ≤ m - x)
def stepB (os : List Int) (sp h : Int) (l : Option Int) : D → Option (Int × Int)
  | .tup [.int m, .int o] => if (decide (o ∈ os) && !decide (o = h) && lateB sp l m) = true then some (m, o) else none
  | _ => none
def goB (os : List Int) (sp : Int) : Int → Option Int → List D → Bool
  | _, _, [] => true
  | h, l, d :: ds => match stepB os sp h l d with
    | none => false
    | some q => goB os sp q.2 (some q.1) ds
def headL (l : Option Int) (ns : List Int) : List Int := match l with
  | none => ns
  | some x => x :: ns
theorem go_eq {os : List Int} {sp : Int} : ∀ (js : List D) (h : Int) (l : Option Int), goB os sp h l js = (js.all (markB os) && ((pairsD js).map fun ps => adjB (fun x y => decide (sp ≤ y - x)) (headL l (ps.map (·.1))) && adjB (fun x y => !decide (x = y)) (h :: ps.map (·.2))).getD false)
  | [], h, l => by cases l <;> simp [goB, pairsD, headL, adjB]
  | d :: js, h, l => by
    have ih := go_eq (os := os) (sp := sp) js
    cases hm : markB os d with
    | false =>
      rw [List.all_cons, hm, Bool.false_and, Bool.false_and]
      unfold goB
      have : stepB os sp h l d = none := by
        unfold stepB
        split
        · next m o =>
          simp only [markB, offB, decide_eq_false_iff_not] at hm
          simp [hm]
        · rfl
      rw [this]
    | true =>
      obtain ⟨ps, e, hps⟩ := marks_js (os := os) (js := [d]) (by simp [hm])
      match ps, e with
      | [q], e =>
        have e : d = jumpD q := by simpa using e
        subst e
        rw [List.all_cons, hm, Bool.true_and]
        have ho : q.2 ∈ os := hps q (by simp)
        have ep : pairsD (jumpD q :: js) = (pairsD js).map (q :: ·) := rfl
        rw [ep, Option.map_map]
        have es : stepB os sp h l (jumpD q) = if ((!decide (q.2 = h)) && lateB sp l q.1) = true then some q else none := by
          show (if (decide (q.2 ∈ os) && !decide (q.2 = h) && lateB sp l q.1) = true then some (q.1, q.2) else none) = _
          simp [ho]
        have e2 : ∀ ps : List (Int × Int), (adjB (fun x y => decide (sp ≤ y - x)) (headL l ((q :: ps).map (·.1))) && adjB (fun x y => !decide (x = y)) (h :: (q :: ps).map (·.2))) = (((!decide (q.2 = h)) && lateB sp l q.1) && (adjB (fun x y => decide (sp ≤ y - x)) (headL (some q.1) (ps.map (·.1))) && adjB (fun x y => !decide (x = y)) (q.2 :: ps.map (·.2)))) := fun ps => by
          have hc : decide (h = q.2) = decide (q.2 = h) := by
            rw [Bool.eq_iff_iff, decide_eq_true_eq, decide_eq_true_eq]
            exact eq_comm
          rw [List.map_cons, List.map_cons, adjB, hc]
          cases l with
          | none =>
            simp only [headL, lateB, Bool.and_true]
            cases decide (q.2 = h) <;> simp
          | some x =>
            simp only [headL, lateB]
            rw [adjB]
            cases decide (q.2 = h) <;> cases decide (sp ≤ q.1 - x) <;> simp
        unfold goB
        rw [es]
        cases hc : ((!decide (q.2 = h)) && lateB sp l q.1) with
        | true =>
          rw [if_pos rfl]
          show goB os sp q.2 (some q.1) js = _
          rw [ih]
          congr 2
          congr 1
          funext ps
          rw [Function.comp_apply, e2 ps, hc, Bool.true_and]
        | false =>
          rw [if_neg (by simp)]
          cases hj : js.all (markB os) with
          | false => rw [Bool.false_and]
          | true =>
            obtain ⟨ps, rfl, _⟩ := marks_js hj
            rw [pairs_D, Option.map_some, Function.comp_apply, e2 ps, hc]
            rfl
      | [], e => cases e
      | _ :: _ :: _, e => simp at e
theorem chart_go {os : List Int} {sp : Int} {o : Int} {js : List D} : chartB os sp (.tup [.int o, .tup js]) = (decide (o ∈ os) && goB os sp o none js) := by
  rw [go_eq]
  simp only [chartB, headL, jumpsB, Bool.and_assoc]
  rfl
theorem go_turn {p n j k c : Nat} {S S2 : Hd} {os hs : List Int} {sp h : Int} {l : Option Int} {zd dd d : D} (hd : Wd p n j S d) (g : S[c]? = some (.lst (hs.map .int))) (hl : hs.getLast? = l) (hn : hs.length ≤ 900) (hc : S2.length ≤ c) (l2 : Lq S2 S) :
    M (ex (run T (k + 2)) (.seq (.ite (.or_ (.not_ (.blt .isi (.cons (.var 6) (.cons (.c (.ty "tuple")) (.nil))))) (.or_ (.cmp .ne (.blt .len (.cons (.var 6) (.nil))) (.c (.int 2))) (.not_ (.call 24 (.cons (.ix (.var 6) (.c (.int 0))) (.nil))))))
    (.ret (.c (.bl false))) .skip)
    (.seq (.ite (.or_ (.not_ (.call 45 (.cons (.ix (.var 6) (.c (.int 1))) (.cons (.var 2) (.nil))))) (.cmp .eq (.ix (.var 6) (.c (.int 1))) (.var 4)))
    (.ret (.c (.bl false))) .skip)
    (.seq (.ite (.and_ (.cmp .gt (.blt .len (.cons (.var 5) (.nil))) (.c (.int 0))) (.cmp .lt (.ix (.var 6) (.c (.int 0))) (.bin .add (.ix (.var 5) (.neg (.c (.int 1)))) (.var 3))))
    (.ret (.c (.bl false))) .skip)
    (.seq (.asg (.name 4) (.ix (.var 6) (.c (.int 1))))
    (.drop (.meth .append (.var 5) (.cons (.ix (.var 6) (.c (.int 0))) (.nil))))))))
      [some zd, some dd, some (.tup (os.map .int)), some (.int sp), some (.int h), some (.ref c), some d] S) fun r => match stepB os sp h l d with
        | none => r.1 = .ret (.bl false) ∧ Lq S r.2.2
        | some q => r.1 = .nx ∧ r.2.1 = [some zd, some dd, some (.tup (os.map .int)), some (.int sp), some (.int q.2), some (.ref c), some d] ∧ Lq S2 r.2.2 ∧ r.2.2[c]? = some (.lst ((hs ++ [q.1]).map .int)) := by
  have hm := most_big
  have e := isi_tup hd
  have lc := lt_of_get g
  refine seq_Mx (ite_M ?_)
  cases ht : isT d with
  | false =>
    rw [ht] at e
    simp_all? only [e]
    simp? only []
    have : stepB os sp h l d = none := by cases d <;> first | rfl | cases ht
    rw [this]
    exact ⟨trivial, Lq.refl _⟩
  | true =>
  cases d with
  | tup xs =>
    rw [ht] at e
    obtain ⟨m, rfl, hxl, hw⟩ := wd_tup (d := .non) hd
    by_cases c2 : (xs.length : Int) = 2
    · match xs, c2 with
      | [a, b], _ =>
        have ha := hw a (by simp)
        have hb := hw b (by simp)
        simp_all? only [e, q_len (q_seqT), show (((0 + 1 + 1 : Nat) : Int) = 2) = True by simp, decide_true]
        refine (whole_any ha).use fun S3 l3 => ?_
        cases hi : isI a with
        | false =>
          simp_all? only []
          simp? only []
          have : stepB os sp h l (.tup [a, b]) = none := by cases a <;> first | rfl | cases hi
          rw [this]
          exact ⟨trivial, l3⟩
        | true =>
        cases a with
        | int mm =>
          simp_all? only [seq_skip]
          refine seq_Mx (ite_M ?_)
          simp_all? only []
          refine (among_any (hb.le l3.le)).use fun S4 l4 => ?_
          cases hof : offB os b with
          | false =>
            simp_all? only []
            simp? only []
            have : stepB os sp h l (.tup [.int mm, b]) = none := by
              cases b with
              | int o =>
                simp only [offB, decide_eq_false_iff_not] at hof
                simp [stepB, hof]
              | _ => rfl
            rw [this]
            exact ⟨trivial, l3.trans l4⟩
          | true =>
          cases b with
          | int o =>
            simp only [offB, decide_eq_true_eq] at hof
            have l34 := l3.trans l4
            have g4 := l34 _ _ g
            simp_all? only []
            by_cases ch : o = h
            · simp only [ch, decide_true]
              simp? only []
              have : stepB os sp h l (.tup [.int mm, .int h]) = none := by simp [stepB]
              rw [this]
              exact ⟨trivial, l34⟩
            · simp only [ch, decide_false, seq_skip, if_false, M_some]
              have es : stepB os sp h l (.tup [.int mm, .int o]) = if lateB sp l mm = true then some (mm, o) else none := by simp [stepB, hof, ch]
              rw [es]
              have fin : M (ex (run T (k + 2)) (.seq (.asg (.name 4) (.ix (.var 6) (.c (.int 1))))
    (.drop (.meth .append (.var 5) (.cons (.ix (.var 6) (.c (.int 0))) (.nil))))) [some zd, some dd, some (.tup (os.map .int)), some (.int sp), some (.int h), some (.ref c), some (.tup [.int mm, .int o])] S4) fun r => r.1 = .nx ∧ r.2.1 = [some zd, some dd, some (.tup (os.map .int)), some (.int sp), some (.int o), some (.ref c), some (.tup [.int mm, .int o])] ∧ Lq S2 r.2.2 ∧ r.2.2[c]? = some (.lst ((hs ++ [mm]).map .int)) := by
                refine seq_M (fun env S6 => S4 = S6 ∧ env = [some zd, some dd, some (.tup (os.map .int)), some (.int sp), some (.int o), some (.ref c), some (.tup [.int mm, .int o])]) ?_ ?_
                · simp? only []
                  exact ⟨trivial, trivial, trivial⟩
                rintro _ _ ⟨rfl, rfl⟩
                simp? only [q_isL g4]
                rw [q_app g4 (by rw [List.length_map]; omega)]
                simp only [M_some]
                refine ⟨trivial, trivial, Lq.set (l2.trans l34) hc, ?_⟩
                rw [List.getElem?_set_self (lt_of_get g4), List.map_append]
                rfl
              refine seq_Mx (ite_M ?_)
              simp_all? only [q_len (q_seqL g4), List.length_map]
              by_cases c0 : (0 : Int) < (hs.length : Int)
              · obtain ⟨x, hx⟩ : ∃ x, hs.getLast? = some x := by
                  cases hh : hs.getLast? with
                  | none => rw [List.getLast?_eq_none_iff] at hh; rw [hh] at c0; simp at c0
                  | some x => exact ⟨x, rfl⟩
                rw [hx] at hl
                subst hl
                have hat : atI (hs.map D.int) (-1) = some (.int x) := by
                  have e : (hs.map D.int).getLast? = some (.int x) := by rw [List.getLast?_map, hx]; rfl
                  have ne : hs.map D.int ≠ [] := fun z => by rw [z] at e; cases e
                  rw [atI_last ne]
                  rw [List.getLast?_eq_some_getLast ne] at e
                  exact e
                by_cases cf : mm < x + sp
                · simp only [c0, decide_true, ev, M_bind, M_map, M_some, M_ite, t_eq, a_tup, al_eq, List.getElem?_cons_zero, List.getElem?_cons_succ, Option.bind_some, Option.map_some, q_add, q_sub, q_lt, q_le, q_gt, q_ge, q_eqI, q_neI, q_eqB, q_neB, q_isN, q_notN, Ix.isNon, q_ixT, q_ixR, atI_0, atI_1, atI_2, atI_3, atI_4, atI_5, atI_6, atI_7, q_slT, q_slR, q_revT, q_seqT, q_int, q_intB, q_max, q_min, q_abs, q_tupT, n_tup, n_int, n_bl, n_non, n_str, isi_ii, isi_ib, isi_tt, isi_itl, isi_btl, isi_ttl, isi_tl, isi_bb, u_bl, u_int, u_non, u_tup, g_name, g_tup, g_nil, g_cons, o_ret, o_nx, i_seq, List.set_cons_zero, List.set_cons_succ, decide_eq_true_eq, Bool.not_eq_true', decide_eq_false_iff_not, evP, Bool.false_eq_true, if_true, if_false, ite_true, ite_false, reduceIte, Bool.not_true, Bool.not_false, Option.some.injEq, q_pow10, Int.reduceToNat, Int.reducePow, Int.reduceAdd, Int.reduceSub, Int.reduceMul, Int.reduceNeg, Int.reduceLT, Int.reduceLE, Nat.reducePow, Nat.reduceLT, Nat.reduceLeDiff, Nat.reduceAdd, List.length_cons, List.length_nil, Int.neg_neg, q_ixL g4, hat, cf]
                  simp? only []
                  have : lateB sp (some x) mm = false := by simp only [lateB, decide_eq_false_iff_not]; omega
                  rw [this]
                  exact ⟨trivial, l34⟩
                · simp only [c0, decide_true, ev, M_bind, M_map, M_some, M_ite, t_eq, a_tup, al_eq, List.getElem?_cons_zero, List.getElem?_cons_succ, Option.bind_some, Option.map_some, q_add, q_sub, q_lt, q_le, q_gt, q_ge, q_eqI, q_neI, q_eqB, q_neB, q_isN, q_notN, Ix.isNon, q_ixT, q_ixR, atI_0, atI_1, atI_2, atI_3, atI_4, atI_5, atI_6, atI_7, q_slT, q_slR, q_revT, q_seqT, q_int, q_intB, q_max, q_min, q_abs, q_tupT, n_tup, n_int, n_bl, n_non, n_str, isi_ii, isi_ib, isi_tt, isi_itl, isi_btl, isi_ttl, isi_tl, isi_bb, u_bl, u_int, u_non, u_tup, g_name, g_tup, g_nil, g_cons, o_ret, o_nx, i_seq, List.set_cons_zero, List.set_cons_succ, decide_eq_true_eq, Bool.not_eq_true', decide_eq_false_iff_not, evP, Bool.false_eq_true, if_true, if_false, ite_true, ite_false, reduceIte, Bool.not_true, Bool.not_false, Option.some.injEq, q_pow10, Int.reduceToNat, Int.reducePow, Int.reduceAdd, Int.reduceSub, Int.reduceMul, Int.reduceNeg, Int.reduceLT, Int.reduceLE, Nat.reducePow, Nat.reduceLT, Nat.reduceLeDiff, Nat.reduceAdd, List.length_cons, List.length_nil, Int.neg_neg, q_ixL g4, hat, cf, decide_false, seq_skip]
                  have : lateB sp (some x) mm = true := by simp only [lateB, decide_eq_true_eq]; omega
                  rw [this]
                  exact fin
              · have : hs = [] := List.eq_nil_of_length_eq_zero (by omega)
                simp only [c0, decide_false, ev, M_bind, M_map, M_some, M_ite, t_eq, a_tup, al_eq, List.getElem?_cons_zero, List.getElem?_cons_succ, Option.bind_some, Option.map_some, q_add, q_sub, q_lt, q_le, q_gt, q_ge, q_eqI, q_neI, q_eqB, q_neB, q_isN, q_notN, Ix.isNon, q_ixT, q_ixR, atI_0, atI_1, atI_2, atI_3, atI_4, atI_5, atI_6, atI_7, q_slT, q_slR, q_revT, q_seqT, q_int, q_intB, q_max, q_min, q_abs, q_tupT, n_tup, n_int, n_bl, n_non, n_str, isi_ii, isi_ib, isi_tt, isi_itl, isi_btl, isi_ttl, isi_tl, isi_bb, u_bl, u_int, u_non, u_tup, g_name, g_tup, g_nil, g_cons, o_ret, o_nx, i_seq, List.set_cons_zero, List.set_cons_succ, decide_eq_true_eq, Bool.not_eq_true', decide_eq_false_iff_not, evP, Bool.false_eq_true, if_true, if_false, ite_true, ite_false, reduceIte, Bool.not_true, Bool.not_false, Option.some.injEq, q_pow10, Int.reduceToNat, Int.reducePow, Int.reduceAdd, Int.reduceSub, Int.reduceMul, Int.reduceNeg, Int.reduceLT, Int.reduceLE, Nat.reducePow, Nat.reduceLT, Nat.reduceLeDiff, Nat.reduceAdd, List.length_cons, List.length_nil, Int.neg_neg, seq_skip]
                subst this
                subst hl
                exact fin
          | _ => simp [offB] at hof
        | _ => cases hi
    · simp_all? only [e, q_len (q_seqT), c2, decide_false]
      simp? only []
      have : stepB os sp h l (.tup xs) = none := by
        match xs, c2 with
        | [], _ => rfl
        | [a], _ => cases a <;> rfl
        | [_, _], c2 => exact absurd rfl c2
        | _ :: _ :: _ :: _, _ => simp [stepB]
      rw [this]
      exact ⟨trivial, Lq.refl _⟩
  | _ => cases ht
theorem is_chart_any {p n j k : Nat} {S : Hd} {os : List Int} {sp : Int} {d : D} (h : Wd p n j S d) (hj : j ≤ 100) : Pu (run T (k + 3) 46 [zoneD os sp, d] S) (.bl (chartB os sp d)) S := by
  have hm := most_big
  have e := isi_tup h
  refine Pu.run T_is_chart rfl ?_
  show M (ex (run T (k + 2)) b_is_chart [some (zoneD os sp), some d, none, none, none, none, none] S) _
  unfold b_is_chart
  refine seq_M (fun env S1 => S = S1 ∧ env = [some (zoneD os sp), some d, some (.tup (os.map .int)), some (.int sp), none, none, none]) ?_ ?_
  · unfold zoneD
    simp? only []
    exact ⟨trivial, trivial, trivial⟩
  rintro _ _ ⟨rfl, rfl⟩
  refine seq_Mx (ite_M ?_)
  cases ht : isT d with
  | false =>
    rw [ht] at e
    simp_all? only [e]
    simp? only []
    refine ⟨?_, Lq.refl _⟩
    cases d <;> first | rfl | cases ht
  | true =>
  cases d with
  | tup xs =>
    rw [ht] at e
    obtain ⟨m, rfl, hxl, hw⟩ := wd_tup (d := .non) h
    by_cases c2 : (xs.length : Int) = 2
    · match xs, c2 with
      | [o, s], _ =>
        have ho := hw o (by simp)
        have hs := hw s (by simp)
        simp_all? only [e, q_len (q_seqT), show (((0 + 1 + 1 : Nat) : Int) = 2) = True by simp, decide_true]
        refine (among_any ho).use fun S1 l1 => ?_
        cases hof : offB os o with
        | false =>
          simp_all? only []
          simp? only []
          refine ⟨?_, l1⟩
          cases o with
          | int i =>
            simp only [offB] at hof
            cases s <;> simp [chartB, hof]
          | _ => rfl
        | true =>
        cases o with
        | int i =>
          simp_all? only [seq_skip]
          have es := isi_tup (hs.le l1.le)
          refine seq_Mx (ite_M ?_)
          cases hts : isT s with
          | false =>
            rw [hts] at es
            simp_all? only [es]
            simp? only []
            refine ⟨?_, l1⟩
            cases s <;> first | rfl | cases hts
          | true =>
          cases s with
          | tup js =>
            rw [hts] at es
            obtain ⟨m2, rfl, hl2, hw2⟩ := wd_tup (d := .non) hs
            rw [chart_go, show decide (i ∈ os) = true from hof, Bool.true_and]
            simp_all? only [es, seq_skip]
            refine seq_M (fun env S3 => S1 = S3 ∧ env = [some (zoneD os sp), some (.tup [.int i, .tup js]), some (.tup (os.map .int)), some (.int sp), some (.int i), none, none]) ?_ ?_
            · simp? only []
              exact ⟨trivial, trivial, trivial⟩
            rintro _ _ ⟨rfl, rfl⟩
            refine seq_M (fun env S3 => S3 = S1 ++ [.lst []] ∧ env = [some (zoneD os sp), some (.tup [.int i, .tup js]), some (.tup (os.map .int)), some (.int sp), some (.int i), some (.ref S1.length), none]) ?_ ?_
            · simp? only [show (0 : Nat) ≤ most by decide]
              exact ⟨trivial, trivial, trivial⟩
            rintro _ _ ⟨rfl, rfl⟩
            refine seq_Mx (for_M ?_)
            simp_all? only []
            refine ⟨_, _, rfl, rfl, ?_⟩
            refine M_loopS (m := 0) (fun q env S3 => Lq S1 S3 ∧ ∃ (h : Int) (hs : List Int) (v6 : Option D), S3[S1.length]? = some (.lst (hs.map .int)) ∧ hs.length = q ∧ goB os sp i none js = goB os sp h hs.getLast? (js.drop q) ∧ env = [some (zoneD os sp), some (.tup [.int i, .tup js]), some (.tup (os.map .int)), some (.int sp), some (.int h), some (.ref S1.length), v6]) ⟨Lq.app _ _, i, [], none, get_new, rfl, rfl, rfl⟩ ?_ ?_
            · rintro q d env S3 hi ⟨l3, h, hrs, v6, g, hq, eg, rfl⟩
              rw [Nat.zero_add] at hq eg ⊢
              have hdl : js.drop q = d :: js.drop (q + 1) := by
                obtain ⟨hlt, rfl⟩ := List.getElem?_eq_some_iff.mp hi
                exact List.drop_eq_getElem_cons hlt
              have hqj := (List.getElem?_eq_some_iff.mp hi).1
              rw [hdl, goB] at eg
              simp only [asgG, Option.bind_some, List.set_cons_succ, List.set_cons_zero]
              refine (go_turn (k := k) (S2 := S1) (l := hrs.getLast?) ((hw2 d (List.mem_of_getElem? hi)).le (l1.trans l3).le) g rfl (by omega) (Nat.le_refl _) l3).imp ?_
              rintro ⟨o, env4, S4⟩ hr
              cases est : stepB os sp h hrs.getLast? d with
              | none =>
                rw [est] at hr eg
                obtain ⟨ho, l4⟩ := hr
                have ho : o = .ret (.bl false) := ho
                subst ho
                simp? only []
                exact ⟨by rw [eg], l1.trans (l3.trans l4)⟩
              | some u =>
                rw [est] at hr eg
                obtain ⟨ho, he, l4, g4⟩ := hr
                have ho : o = .nx := ho
                have he : env4 = _ := he
                subst ho
                subst he
                refine ⟨rfl, l4, u.2, hrs ++ [u.1], _, g4, by rw [List.length_append]; simp [hq], ?_, rfl⟩
                rw [List.getLast?_concat]
                exact eg
            · rintro env S3 ⟨l3, h, hrs, v6, g, hq, eg, rfl⟩
              rw [Nat.zero_add, List.drop_length] at eg
              simp? only []
              exact ⟨by rw [eg]; rfl, l1.trans l3⟩
          | _ => cases hts
        | _ => simp [offB] at hof
    · simp_all? only [e, q_len (q_seqT), c2, decide_false]
      simp? only []
      refine ⟨?_, Lq.refl _⟩
      match xs, c2 with
      | [], _ => rfl
      | [a], _ => cases a <;> rfl
      | [_, _], c2 => exact absurd rfl c2
      | a :: b :: c :: r, _ => cases a <;> simp [chartB]
  | _ => cases ht
end Lw

namespace Lw
open PySem L2 Ix
/-! ### a value drawn twice from pots that hold the same number -/
theorem wd_rn {p q : Nat} {X S : Hd} {ρ : Nat → Nat} (hρ : ∀ k, p < k → q < ρ k) (ha : ∀ k o, p < k → X[k]? = some o → S[ρ k]? = some (rnO ρ o)) : ∀ {n j : Nat} {d : D}, Wd p n j X d → Wd q n j S (rn ρ d)
  | 0, _, _, h => h.elim
  | n + 1, j, d, h => by
    cases d with
    | tup xs =>
      simp only [rn, rns_map]
      refine ⟨by rw [List.length_map]; exact h.1, fun x hx => ?_⟩
      obtain ⟨y, hy, rfl⟩ := List.mem_map.mp hx
      exact wd_rn hρ ha (h.2 y hy)
    | ref a =>
      obtain ⟨hp, xs, g, hl, hw⟩ := h
      simp only [rn]
      refine ⟨hρ a hp, xs.map (rn ρ), by rw [ha a _ hp g]; rfl, by rw [List.length_map]; exact hl, fun x hx => ?_⟩
      obtain ⟨y, hy, rfl⟩ := List.mem_map.mp hx
      exact wd_rn hρ ha (hw y hy)
    | int i => simp only [rn]; exact h
    | bl _ => simp only [rn]; trivial
    | str _ => simp only [rn]; trivial
    | non => simp only [rn]; trivial
    | xcp _ _ _ => simp only [rn]; trivial
    | ty _ => exact h.elim
    | ro _ => exact h.elim
theorem twinR {p j : Nat} {X S : Hd} {a b : Nat → Nat} (hj : j ≤ 100) (ha : ∀ k o, p < k → X[k]? = some o → S[a k]? = some (rnO a o)) (hb : ∀ k o, p < k → X[k]? = some o → S[b k]? = some (rnO b o)) :
    ∀ {n : Nat} {d : D}, Wd p n j X d → Sa n S (rn a d) (rn b d)
  | 0, _, h => h.elim
  | n + 1, d, h => by
    have el : ∀ (xs : List D), (∀ x ∈ xs, Wd p n j X x) → ∀ (i : Nat) (x y : D), (xs.map (rn a))[i]? = some x → (xs.map (rn b))[i]? = some y → Sa n S x y := fun xs hw i x y e1 e2 => by
      rw [List.getElem?_map] at e1 e2
      cases e : xs[i]? with
      | none => rw [e] at e1; cases e1
      | some z =>
        rw [e] at e1 e2
        cases e1
        cases e2
        exact twinR hj ha hb (hw z (List.mem_of_getElem? e))
    cases d with
    | tup xs =>
      simp only [rn, rns_map]
      exact ⟨by simp, by rw [List.length_map]; have := h.1; omega, el xs h.2⟩
    | ref k =>
      obtain ⟨hk, xs, g, hl, hw⟩ := h
      simp only [rn]
      exact ⟨xs.map (rn a), xs.map (rn b), ha k _ hk g, hb k _ hk g, by simp, by rw [List.length_map]; omega, el xs hw⟩
    | int i => simp only [rn]; rfl
    | bl _ => simp only [rn]; rfl
    | str _ => simp only [rn]; rfl
    | non => simp only [rn]; trivial
    | xcp _ _ _ => simp only [rn]; trivial
    | ty _ => exact h.elim
    | ro _ => exact h.elim
/-- the place of a canonical heap's cells behind S, the pot's at p -/
def pR (p l k : Nat) : Nat := if k = 0 then p else k - 1 + l
theorem run_pot {n f : Nat} {v : Int} {d : D} {X S : Hd} {p : Nat} {ds : List D} (hds : okDs ds = true) (h : run T n f (.ref 0 :: ds) [.lst [.int v]] = some (d, X)) (g : S[p]? = some (.lst [.int v])) :
    ∃ S', run T n f (.ref p :: ds) S = some (rn (pR p S.length) d, S') ∧ (∀ k o, 0 < k → X[k]? = some o → S'[pR p S.length k]? = some (rnO (pR p S.length) o)) ∧ Le p S S' ∧ S.length ≤ S'.length ∧ (Pot 0 X → Pot p S') := by
  have hp := lt_of_get g
  have hr := run_rn T_okS (potR S p hp) n f (.ref 0 :: ds) [.lst [.int v]] (by intro z; cases z)
  rw [h] at hr
  obtain ⟨e, hok⟩ := hr
  have hok : X ≠ [] := hok _ rfl
  have e1 : (D.ref 0 :: ds).map (rn (potR S p hp).ρ) = .ref p :: ds := by
    have := rns_ok (ρ := (potR S p hp).ρ) ds hds
    rw [rns_map] at this
    rw [List.map_cons, this]
    simp [rn, potR]
  have e2 : (potR S p hp).uh [.lst [.int v]] = S := by
    show S.set p (.lst [.int v]) ++ [] = S
    rw [List.append_nil]
    apply List.ext_getElem?
    intro i
    by_cases hi : p = i
    · subst hi
      rw [List.getElem?_set_self hp, g]
    · rw [List.getElem?_set_ne hi]
  rw [e1, e2] at e
  refine ⟨(potR S p hp).uh X, e, fun k o hk ek => ?_, fun k o hk ek => ?_, ?_, fun hP => ?_⟩
  · have := (potR S p hp).get X k hok
    rw [ek] at this
    exact this
  · obtain ⟨x, Y, rfl⟩ := List.exists_cons_of_ne_nil hok
    show (S.set p _ ++ _)[k]? = some o
    rw [List.getElem?_append_left (by rw [List.length_set]; exact lt_of_get ek), List.getElem?_set_ne (fun z => hk z.symm)]
    exact ek
  · obtain ⟨x, Y, rfl⟩ := List.exists_cons_of_ne_nil hok
    show S.length ≤ (S.set p _ ++ _).length
    simp
  · obtain ⟨q, hq⟩ := hP
    refine ⟨q, ?_⟩
    have := (potR S p hp).get X 0 hok
    rw [hq] at this
    exact this
theorem twins {n f m j : Nat} {v : Int} {S : Hd} {p q : Nat} {ds : List D} (hj : j ≤ 100) (hds : okDs ds = true) (spec : M (run T n f (.ref 0 :: ds) [.lst [.int v]]) fun r => ∃ d S', r = (d, S') ∧ Wd 0 m j S' d ∧ Pot 0 S' ∧ Le 0 [.lst [.int v]] S')
    (hpq : p ≠ q) (gp : S[p]? = some (.lst [.int v])) (gq : S[q]? = some (.lst [.int v])) :
    ∃ x y S1 S2, run T n f (.ref p :: ds) S = some (x, S1) ∧ run T n f (.ref q :: ds) S1 = some (y, S2) ∧ Le p S S1 ∧ Le q S1 S2 ∧ Pot p S1 ∧ Pot q S2 ∧ Wd 0 m j S2 x ∧ ∀ S3, Lq S2 S3 → Sa m S3 x y := by
  obtain ⟨⟨d, X⟩, e, d', X', e2, hw, hX, _⟩ := spec
  cases e2
  obtain ⟨S1, r1, c1, l1, n1, P1⟩ := run_pot hds e gp
  have gq1 := l1.at (fun z => hpq z.symm) gq
  obtain ⟨S2, r2, c2, l2, n2, P2⟩ := run_pot hds e gq1
  have hp := lt_of_get gp
  have hq := lt_of_get gq
  have c12 : ∀ k o, 0 < k → X[k]? = some o → S2[pR p S.length k]? = some (rnO (pR p S.length) o) := fun k o hk ek => by
    refine l2 _ _ ?_ (c1 k o hk ek)
    unfold pR
    rw [if_neg (by omega)]
    omega
  refine ⟨_, _, S1, S2, r1, r2, l1, l2, P1 hX, P2 hX, wd_rn (fun k hk => ?_) c12 hw, fun S3 l3 => ?_⟩
  · unfold pR
    rw [if_neg (by omega)]
    omega
  · exact twinR hj (fun k o hk ek => l3 _ _ (c12 k o hk ek)) (fun k o hk ek => l3 _ _ (c2 k o hk ek)) hw
theorem is_table_any {p n j k : Nat} {S : Hd} {os : List Int} {sp : Int} {d : D} (hz : Zone os sp) (h : Wd p n j S d) (hj : j ≤ 100) : Pu (run T (k + 6) 180 [zoneD os sp, d] S) (.bl (chartB os sp d)) S := by
  refine Pu.run T_is_table rfl ?_
  show M (ex (run T (k + 5)) b_is_table [some (zoneD os sp), some d] S) _
  unfold b_is_table
  refine seq_M (fun env S1 => env = [some (zoneD os sp), some d] ∧ Lq S S1) ?_ ?_
  · simp? only []
    refine (check_zone_ok hz).use fun S1 l1 => ?_
    simp? only []
    exact ⟨trivial, trivial, l1⟩
  rintro _ S1 ⟨rfl, l1⟩
  simp? only []
  refine (fits_any (h.le l1.le) hj).use fun S2 l2 => ?_
  simp? only []
  exact ⟨trivial, l1.trans l2⟩
end Lw

namespace Lw
open PySem L2 Ix
/-! ### two ways of asking alike -/
theorem chk2 {m f g : Nat} {env : Sl} {S : Hd} {r x : D} {i j : Nat} {b : Bool} (hi : env[i]? = some (some r)) (hj : env[j]? = some (some x)) (hf : Pu (run T (m + 2) f [r, x] S) (.bl b) S) (hg : ∀ S1, Lq S S1 → Pu (run T (m + 2) g [r, x] S1) (.bl b) S1) :
    M (ex (run T (m + 2)) (.ite (.not_ (.call 25 (.cons (.call f (.cons (.var i) (.cons (.var j) .nil))) (.cons (.call g (.cons (.var i) (.cons (.var j) .nil))) .nil)))) (.ret (.c (.bl false))) .skip) env S) fun r => ∃ S', r = (.nx, env, S') ∧ Lq S S' := by
  refine ite_M (M_tnot true ?_)
  simp only [ev, M_bind, M_map, M_some, argsOf, hi, hj, Option.bind_some, Option.map_some]
  refine hf.use fun S1 l1 => ?_
  simp only [M_bind, M_map, M_some, argsOf, Option.bind_some, Option.map_some]
  refine (hg S1 l1).use fun S2 l2 => ?_
  simp only [M_bind, M_map, M_some, argsOf, Option.bind_some, Option.map_some]
  refine (same_ok (n := 1) (m := m + 1) (show Sa 1 S2 (.bl b) (.bl b) from rfl) (by omega)).use fun S3 l3 => ?_
  exact ⟨rfl, by simp only [Bool.not_true, Bool.false_eq_true, if_false, seq_skip, M_some]; exact ⟨S3, rfl, (l1.trans l2).trans l3⟩⟩
theorem chk2K {m f g : Nat} {env : Sl} {S : Hd} {r x : D} {i j : Nat} {b : Bool} (hi : env[i]? = some (some r)) (hj : env[j]? = some (some x)) (hf : Pu (run T (m + 2) f [r, x] S) (.bl b) S) (hg : ∀ S1, Lq S S1 → Pu (run T (m + 2) g [r, x] S1) (.bl b) S1) :
    M (ex (run T (m + 2)) (.ite (.not_ (.call 25 (.cons (.callK f .nil (.cons (.var j) (.cons (.var i) .nil)) [1, 0]) (.cons (.call g (.cons (.var i) (.cons (.var j) .nil))) .nil)))) (.ret (.c (.bl false))) .skip) env S) fun r => ∃ S', r = (.nx, env, S') ∧ Lq S S' := by
  refine ite_M (M_tnot true ?_)
  simp only [ev, M_bind, M_map, M_some, argsOf, hi, hj, Option.bind_some, Option.map_some, List.nil_append]
  rw [show permV [1, 0] [x, r] = [r, x] from rfl]
  refine hf.use fun S1 l1 => ?_
  simp only [M_bind, M_map, M_some, argsOf, Option.bind_some, Option.map_some]
  refine (hg S1 l1).use fun S2 l2 => ?_
  simp only [M_bind, M_map, M_some, argsOf, Option.bind_some, Option.map_some]
  refine (same_ok (n := 1) (m := m + 1) (show Sa 1 S2 (.bl b) (.bl b) from rfl) (by omega)).use fun S3 l3 => ?_
  exact ⟨rfl, by simp only [Bool.not_true, Bool.false_eq_true, if_false, seq_skip, M_some]; exact ⟨S3, rfl, (l1.trans l2).trans l3⟩⟩
theorem okD_zone {os : List Int} {sp : Int} : okDs [zoneD os sp] = true := by
  have : ∀ ns : List Int, okDs (ns.map D.int) = true := fun ns => by
    induction ns with
    | nil => rfl
    | cons a ns ih => rw [List.map_cons, okDs, ih]; rfl
  simp [zoneD, okDs, Ix.okD, this]
end Lw

namespace Lw
open PySem L2 Ix
theorem zone_ok2 {os : List Int} {sp z : Int} (hz : Zone os sp) (z0 : 0 ≤ z) (z1 : z < 4) : Zone os (os.getLast?.getD 0 - os.head?.getD 0 + 1 + z) := by
  have top := hz.top
  have hh : ∀ x ∈ os, os.head?.getD 0 ≤ x ∧ x ≤ os.getLast?.getD 0 := by
    obtain ⟨a, b, ha, hb, e0, e1, h⟩ := ends hz.len1 hz.len3 hz.asc
    obtain ⟨f0, f1⟩ := ends2 hz.len1 hz.len3
    rw [e0] at f0
    rw [e1] at f1
    cases f0
    cases f1
    exact h
  have hl : os.getLast?.getD 0 - os.head?.getD 0 ≤ 1800 := by
    obtain ⟨a, b, ha, hb, e0, e1, h⟩ := ends hz.len1 hz.len3 hz.asc
    obtain ⟨f0, f1⟩ := ends2 hz.len1 hz.len3
    rw [e0] at f0
    rw [e1] at f1
    cases f0
    cases f1
    have := hz.lo _ ha
    have := hz.hi _ hb
    omega
  refine ⟨hz.len1, hz.len3, hz.asc, hz.lo, hz.hi, fun x hx y hy => ?_, by omega⟩
  have := hh x hx
  have := hh y hy
  omega
theorem law_cell {S0 : Hd} {ns : List Int} {z : Int} {v2 v3 v4 v5 v6 v7 v8 : Option D} :
    M (ex (run T 59) (match b_law_k03 with | .seq (.for_ _ _ _ b) _ => b | _ => .skip) [some (.ro ns), some (.int z), v2, v3, v4, v5, v6, v7, v8] S0) fun r => r.1 = .nx ∧ (∃ v2 v3 v4 v5 v6 v7 v8 : Option D, r.2.1 = [some (.ro ns), some (.int z), v2, v3, v4, v5, v6, v7, v8]) ∧ Lq S0 r.2.2 := by
  have hm := most_big
  unfold b_law_k03
  refine seq_M (fun env S1 => ∃ p, env = [some (.ro ns), some (.int z), some (.ref p), v3, v4, v5, v6, v7, v8] ∧ S0.length ≤ p ∧ Pot p S1 ∧ Lq S0 S1) ?_ ?_
  · simp? only []
    refine (digits_ok (n := 58) z).imp ?_
    rintro _ ⟨p, S1, rfl, hp, p1, l1⟩
    exact ⟨trivial, p, rfl, by omega, p1, l1⟩
  rintro _ S1 ⟨p, rfl, hp0, p1, l1⟩
  refine seq_M (fun env S2 => ∃ os sp, env = [some (.ro ns), some (.int z), some (.ref p), some (zoneD os sp), v4, v5, v6, v7, v8] ∧ Zone os sp ∧ Pot p S2 ∧ Lq S0 S2) ?_ ?_
  · simp? only []
    refine (make_region_ok p1).imp ?_
    rintro _ ⟨os, sp, S2, rfl, hz, p2, l2⟩
    exact ⟨trivial, os, sp, rfl, hz, p2, l1.ple l2 hp0⟩
  rintro _ S2 ⟨os, sp, rfl, hz, p2, l2⟩
  refine seq_M (fun env S3 => ∃ oz sz, env = [some (.ro ns), some (.int z), some (.ref p), some (zoneD os sp), some (zoneD oz sz), v5, v6, v7, v8] ∧ Zone oz sz ∧ Pot p S3 ∧ Lq S0 S3) ?_ ?_
  · obtain ⟨e0, e1⟩ := ends2 hz.len1 hz.len3
    unfold zoneD
    simp? only [e0, e1]
    refine (draw_ok p2 (by decide) (by decide)).imp ?_
    rintro _ ⟨y, S3, rfl, y0, y1, p3, l3⟩
    simp? only [show (2 : Nat) ≤ most by omega]
    exact ⟨trivial, os, _, rfl, zone_ok2 hz y0 y1, p3, l2.ple l3 hp0⟩
  rintro _ S3 ⟨oz, sz, rfl, hz2, p3, l3⟩
  refine seq_M (fun env S4 => ∃ oz sz, env = [some (.ro ns), some (.int z), some (.ref p), some (zoneD os sp), some (zoneD oz sz), v5, v6, v7, v8] ∧ Zone oz sz ∧ Pot p S4 ∧ Lq S0 S4) ?_ ?_
  · refine ite_M ?_
    simp_all? only []
    refine (draw_ok p3 (by decide) (by decide)).imp ?_
    rintro _ ⟨y, S4, rfl, y0, y1, p4, l4⟩
    simp_all? only []
    by_cases c : y = 1
    · simp only [c, decide_true]
      simp? only []
      refine (make_region_ok p4).imp ?_
      rintro _ ⟨oz, sz, S5, rfl, hz3, p5, l5⟩
      exact ⟨trivial, oz, sz, rfl, hz3, p5, (l3.ple l4 hp0).ple l5 hp0⟩
    · simp only [c, decide_false, seq_skip, if_false, M_some]
      exact ⟨trivial, oz, sz, rfl, hz2, p4, l3.ple l4 hp0⟩
  rintro _ S4 ⟨oz', sz', rfl, hz4, p4, l4⟩
  obtain ⟨v, gp⟩ := p4
  have hq := lt_of_get gp
  refine seq_M (fun env S5 => env = [some (.ro ns), some (.int z), some (.ref p), some (zoneD os sp), some (zoneD oz' sz'), some (.ref S4.length), v6, v7, v8] ∧ S5 = S4 ++ [.lst [.int v]]) ?_ ?_
  · simp? only [q_ixL gp, show atI [D.int v] 0 = some (.int v) from rfl, show (1 : Nat) ≤ most by omega, Nat.zero_add]
    exact ⟨trivial, trivial, trivial⟩
  rintro _ S5 ⟨rfl, hS5⟩
  have gp5 : S5[p]? = some (.lst [.int v]) := by rw [hS5]; exact Lq.app _ _ _ _ gp
  have gq5 : S5[S4.length]? = some (.lst [.int v]) := by rw [hS5]; exact get_new
  have l5 : Lq S0 S5 := by rw [hS5]; exact l4.trans (Lq.app _ _)
  have hS4 : S0.length ≤ S4.length := l4.len
  obtain ⟨x, y, S6, S7, r1, r2, a1, a2, _, _, hw, tw⟩ := twins (n := 59) (f := 181) (m := 50) (j := 2) (ds := [zoneD os sp]) (by decide) okD_zone (tale_ok (k := 52) ⟨v, rfl⟩ hz) (show p ≠ S4.length by omega) gp5 gq5
  have l6 := l5.ple a1 hp0
  have l7 := l6.ple a2 hS4
  refine seq_M (fun env S => env = [some (.ro ns), some (.int z), some (.ref p), some (zoneD os sp), some (zoneD oz' sz'), some (.ref S4.length), some x, v7, v8] ∧ S6 = S) ?_ ?_
  · simp? only [r1]
    exact ⟨trivial, trivial, trivial⟩
  rintro _ _ ⟨rfl, rfl⟩
  refine seq_M (fun env S => env = [some (.ro ns), some (.int z), some (.ref p), some (zoneD os sp), some (zoneD oz' sz'), some (.ref S4.length), some x, some y, v8] ∧ S7 = S) ?_ ?_
  · simp? only [r2]
    exact ⟨trivial, trivial, trivial⟩
  rintro _ _ ⟨rfl, rfl⟩
  have hw5 : ∀ S, Lq S7 S → Wd 0 50 2 S x := fun S l => hw.le l.le
  clear r1 r2 a1 a2
  refine seq_M (fun env S8 => (∃ v8, env = [some (.ro ns), some (.int z), some (.ref p), some (zoneD os sp), some (zoneD oz' sz'), some (.ref S4.length), some x, some y, v8]) ∧ Lq S7 S8) ?_ ?_
  · refine for_M (M.imp (P := fun r => r = (.tup [.ref S7.length], S7 ++ [.lst [zoneD os sp, zoneD oz' sz', zoneD os sp]])) (by simp? only [show (3 : Nat) ≤ most by omega, Nat.zero_add]) ?_)
    rintro _ rfl
    refine ⟨_, _, rfl, q_seqL get_new, ?_⟩
    refine M_loopS (m := 0) (fun i env S9 => (∃ v8, env = [some (.ro ns), some (.int z), some (.ref p), some (zoneD os sp), some (zoneD oz' sz'), some (.ref S4.length), some x, some y, v8]) ∧ Lq (S7 ++ [.lst [zoneD os sp, zoneD oz' sz', zoneD os sp]]) S9) ⟨⟨_, rfl⟩, Lq.refl _⟩ ?_ ?_
    · rintro i w env S9 hi ⟨⟨v8, rfl⟩, l9⟩
      have hwz : ∃ o s, Zone o s ∧ w = zoneD o s := by
        have hw := List.mem_of_getElem? hi
        simp only [List.mem_cons, List.mem_nil_iff, or_false] at hw
        rcases hw with rfl | rfl | rfl
        · exact ⟨_, _, hz, rfl⟩
        · exact ⟨_, _, hz4, rfl⟩
        · exact ⟨_, _, hz, rfl⟩
      obtain ⟨o, s, hzw, rfl⟩ := hwz
      have l79 := (Lq.app S7 [.lst [zoneD os sp, zoneD oz' sz', zoneD os sp]]).trans l9
      simp only [asgG, Option.bind_some, List.set_cons_succ, List.set_cons_zero]
      refine (chk2 (m := 57) (i := 8) (j := 6) (b := chartB o s x) rfl rfl (is_table_any (k := 53) hzw (hw5 _ l79) (by decide)) fun S1 l1 => is_chart_any (k := 56) (hw5 _ (l79.trans l1)) (by decide)).imp ?_
      rintro _ ⟨S10, rfl, l10⟩
      exact ⟨q_seqL ((l9.trans l10) _ _ get_new), ⟨_, rfl⟩, l9.trans l10⟩
    · rintro env S9 ⟨⟨v8, rfl⟩, l9⟩
      exact ⟨rfl, ⟨_, rfl⟩, (Lq.app _ _).trans l9⟩
  rintro _ S8 ⟨⟨v8, rfl⟩, l8⟩
  refine seq_M (fun env S9 => env = [some (.ro ns), some (.int z), some (.ref p), some (zoneD os sp), some (zoneD oz' sz'), some (.ref S4.length), some x, some y, v8] ∧ Lq S7 S9) ?_ ?_
  · refine (chk2K (m := 57) (i := 3) (j := 6) (b := chartB os sp x) rfl rfl (is_table_any (k := 53) hz (hw5 _ l8) (by decide)) fun S1 l1 => is_chart_any (k := 56) (hw5 _ (l8.trans l1)) (by decide)).imp ?_
    rintro _ ⟨S9, rfl, l9⟩
    exact ⟨rfl, rfl, l8.trans l9⟩
  rintro _ S9 ⟨rfl, l9⟩
  refine ite_M (M_tnot true ?_)
  simp only [ev, M_bind, M_map, M_some, argsOf, Option.bind_some, Option.map_some, List.getElem?_cons_succ, List.getElem?_cons_zero]
  refine (same_ok (n := 50) (m := 58) (tw S9 l9) (by omega)).use fun S10 l10 => ?_
  refine ⟨rfl, ?_⟩
  simp only [Bool.not_true, Bool.false_eq_true, if_false, seq_skip, M_some]
  exact ⟨trivial, ⟨_, _, _, _, _, _, _, rfl⟩, l7.trans (l9.trans l10)⟩
def lev : Nat := 60
theorem law_true (ns : List Int) (hl : ns.length ≤ 63) (hb : ∀ z ∈ ns, Builtin.Int.intBits z ≤ 1048576) : ∃ S', run T lev 182 [.ro ns] [] = some (.bl true, S') := by
  suffices h : M (run T lev 182 [.ro ns] []) fun r => r.1 = .bl true by
    obtain ⟨⟨d, S'⟩, e, q⟩ := h
    have q : d = .bl true := q
    subst q
    exact ⟨S', e⟩
  refine run_M T_law_k03 rfl ?_
  show M (ex (run T 59) b_law_k03 [some (.ro ns), none, none, none, none, none, none, none, none] []) _
  unfold b_law_k03
  have hm := most_big
  refine seq_M (fun env S => True) ?_ ?_
  · have hcl : (cutD (ns.map D.int) none (some 12)).length ≤ 63 := Nat.le_trans cut_len (by simpa using hl)
    refine for_M (M.imp (P := fun x => ∃ A B, x = (.tup [.ref 2], [A, B, O.lst ([D.int 1000000000000000000000000000000000000580114927736029481650337] ++ cutD (ns.map .int) none (some 12))])) ?_ ?_)
    · simp? only [show (1 : Nat) ≤ most by decide, List.nil_append]
      rw [q_addL (xs := [.int 1000000000000000000000000000000000000580114927736029481650337]) (ys := cutD (ns.map .int) none (some 12)) rfl rfl (by simp; omega)]
      simp only [al_eq, M_some]
      exact ⟨_, _, rfl⟩
    rintro _ ⟨A, B, rfl⟩
    refine ⟨_, _, rfl, rfl, ?_⟩
    refine M_loopS (m := 0) (fun i env S => (∃ v1 v2 v3 v4 v5 v6 v7 v8 : Option D, env = [some (.ro ns), v1, v2, v3, v4, v5, v6, v7, v8]) ∧ S[2]? = some (O.lst ([D.int 1000000000000000000000000000000000000580114927736029481650337] ++ cutD (ns.map .int) none (some 12)))) ⟨⟨_, _, _, _, _, _, _, _, rfl⟩, rfl⟩ ?_ ?_
    · rintro i d env S hi ⟨⟨v1, v2, v3, v4, v5, v6, v7, v8, rfl⟩, g⟩
      obtain ⟨z, rfl⟩ := cell_get hi
      simp only [asgG, Option.bind_some, List.set_cons_succ, List.set_cons_zero]
      refine (law_cell (S0 := S) (ns := ns) (z := z)).imp ?_
      rintro ⟨o, env', S'⟩ ⟨e1, ⟨v2, v3, v4, v5, v6, v7, v8, e2⟩, l⟩
      have e1 : o = .nx := e1
      subst e1
      have e2 : env' = _ := e2
      subst e2
      exact ⟨q_seqL (l _ _ g), ⟨_, _, _, _, _, _, _, _, rfl⟩, l _ _ g⟩
    · rintro env S _
      exact ⟨rfl, trivial⟩
  · rintro env S _
    simp? only []
end Lw

namespace Lw
open PySem L2 Ix
section
variable {P : Program} {w : World} {K : PySem.W.Frag} {mg : Str → Option Value} {base : Heap}
structure Fs0 (K : PySem.W.Frag) (mg : Str → Option Value) : Prop where
  f0 : ∃ fa fd, mg "is_number" = some (.ref fa) ∧ Fun K "is_number" "is_number" s_0 fa fd
  f1 : ∃ fa fd, mg "is_pair" = some (.ref fa) ∧ Fun K "is_pair" "is_pair" s_1 fa fd
  f6 : ∃ fa fd, mg "is_zone" = some (.ref fa) ∧ Fun K "is_zone" "is_zone" s_6 fa fd
  f180 : ∃ fa fd, mg "is_table" = some (.ref fa) ∧ Fun K "is_table" "is_table" s_180 fa fd
  f7 : ∃ fa fd, mg "check_zone" = some (.ref fa) ∧ Fun K "check_zone" "check_zone" s_7 fa fd
  f12 : ∃ fa fd, mg "fits_as_table" = some (.ref fa) ∧ Fun K "fits_as_table" "fits_as_table" s_12 fa fd
  f9 : ∃ fa fd, mg "is_offset" = some (.ref fa) ∧ Fun K "is_offset" "is_offset" s_9 fa fd
  f11 : ∃ fa fd, mg "are_marks" = some (.ref fa) ∧ Fun K "are_marks" "are_marks" s_11 fa fd
  f3 : ∃ fa fd, mg "is_ascending" = some (.ref fa) ∧ Fun K "is_ascending" "is_ascending" s_3 fa fd
  f5 : ∃ fa fd, mg "_are_offsets" = some (.ref fa) ∧ Fun K "_are_offsets" "_are_offsets" s_5 fa fd
  f4 : ∃ fa fd, mg "_is_near" = some (.ref fa) ∧ Fun K "_is_near" "_is_near" s_4 fa fd
  f10 : ∃ fa fd, mg "_is_mark" = some (.ref fa) ∧ Fun K "_is_mark" "_is_mark" s_10 fa fd
  f8 : ∃ fa fd, mg "_are_jumps" = some (.ref fa) ∧ Fun K "_are_jumps" "_are_jumps" s_8 fa fd
  f17 : ∃ fa fd, mg "_law_digits" = some (.ref fa) ∧ Fun K "_law_digits" "_law_digits" s_17 fa fd
  f18 : ∃ fa fd, mg "_law_draw" = some (.ref fa) ∧ Fun K "_law_draw" "_law_draw" s_18 fa fd
  f19 : ∃ fa fd, mg "_law_any_hour" = some (.ref fa) ∧ Fun K "_law_any_hour" "_law_any_hour" s_19 fa fd
  f20 : ∃ fa fd, mg "_law_make_region" = some (.ref fa) ∧ Fun K "_law_make_region" "_law_make_region" s_20 fa fd
  f21 : ∃ fa fd, mg "_law_make_chart" = some (.ref fa) ∧ Fun K "_law_make_chart" "_law_make_chart" s_21 fa fd
  f24 : ∃ fa fd, mg "_law_whole" = some (.ref fa) ∧ Fun K "_law_whole" "_law_whole" s_24 fa fd
  f25 : ∃ fa fd, mg "_law_same" = some (.ref fa) ∧ Fun K "_law_same" "_law_same" s_25 fa fd
  f174 : ∃ fa fd, mg "_law_odd_thing" = some (.ref fa) ∧ Fun K "_law_odd_thing" "_law_odd_thing" s_174 fa fd
  f175 : ∃ fa fd, mg "_law_bend" = some (.ref fa) ∧ Fun K "_law_bend" "_law_bend" s_175 fa fd
  f45 : ∃ fa fd, mg "_law_among" = some (.ref fa) ∧ Fun K "_law_among" "_law_among" s_45 fa fd
  f46 : ∃ fa fd, mg "_law_is_chart" = some (.ref fa) ∧ Fun K "_law_is_chart" "_law_is_chart" s_46 fa fd
  f181 : ∃ fa fd, mg "_law_tale" = some (.ref fa) ∧ Fun K "_law_tale" "_law_tale" s_181 fa fd
  f182 : ∃ fa fd, mg "law" = some (.ref fa) ∧ Fun K "law" "law" s_182 fa fd
theorem bi_0 {fa : Addr} {fd : FuncData} (F : Fun K "is_number" "is_number" s_0 fa fd) : Binds K fd P_0 [] := F.binds fun _ _ _ _ _ _ us hl => match us, hl with | [_], _ => rfl
theorem bi_1 {fa : Addr} {fd : FuncData} (F : Fun K "is_pair" "is_pair" s_1 fa fd) : Binds K fd P_1 [] := F.binds fun _ _ _ _ _ _ us hl => match us, hl with | [_], _ => rfl
theorem bi_6 {fa : Addr} {fd : FuncData} (F : Fun K "is_zone" "is_zone" s_6 fa fd) : Binds K fd P_6 [] := F.binds fun _ _ _ _ _ _ us hl => match us, hl with | [_], _ => rfl
theorem bi_180 {fa : Addr} {fd : FuncData} (F : Fun K "is_table" "is_table" s_180 fa fd) : Binds K fd P_180 [] := F.binds fun _ _ _ _ _ _ us hl => match us, hl with | [_, _], _ => rfl
theorem bi_7 {fa : Addr} {fd : FuncData} (F : Fun K "check_zone" "check_zone" s_7 fa fd) : Binds K fd P_7 [] := F.binds fun _ _ _ _ _ _ us hl => match us, hl with | [_], _ => rfl
theorem bi_12 {fa : Addr} {fd : FuncData} (F : Fun K "fits_as_table" "fits_as_table" s_12 fa fd) : Binds K fd P_12 [] := F.binds fun _ _ _ _ _ _ us hl => match us, hl with | [_, _], _ => rfl
theorem bi_9 {fa : Addr} {fd : FuncData} (F : Fun K "is_offset" "is_offset" s_9 fa fd) : Binds K fd P_9 [] := F.binds fun _ _ _ _ _ _ us hl => match us, hl with | [_, _], _ => rfl
theorem bi_11 {fa : Addr} {fd : FuncData} (F : Fun K "are_marks" "are_marks" s_11 fa fd) : Binds K fd P_11 [] := F.binds fun _ _ _ _ _ _ us hl => match us, hl with | [_, _], _ => rfl
theorem bi_3 {fa : Addr} {fd : FuncData} (F : Fun K "is_ascending" "is_ascending" s_3 fa fd) : Binds K fd P_3 [] := F.binds fun _ _ _ _ _ _ us hl => match us, hl with | [_], _ => rfl
theorem bi_5 {fa : Addr} {fd : FuncData} (F : Fun K "_are_offsets" "_are_offsets" s_5 fa fd) : Binds K fd P_5 [] := F.binds fun _ _ _ _ _ _ us hl => match us, hl with | [_], _ => rfl
theorem bi_4 {fa : Addr} {fd : FuncData} (F : Fun K "_is_near" "_is_near" s_4 fa fd) : Binds K fd P_4 [] := F.binds fun _ _ _ _ _ _ us hl => match us, hl with | [_], _ => rfl
theorem bi_10 {fa : Addr} {fd : FuncData} (F : Fun K "_is_mark" "_is_mark" s_10 fa fd) : Binds K fd P_10 [] := F.binds fun _ _ _ _ _ _ us hl => match us, hl with | [_, _], _ => rfl
theorem bi_8 {fa : Addr} {fd : FuncData} (F : Fun K "_are_jumps" "_are_jumps" s_8 fa fd) : Binds K fd P_8 [] := F.binds fun _ _ _ _ _ _ us hl => match us, hl with | [_, _, _], _ => rfl
theorem bi_17 {fa : Addr} {fd : FuncData} (F : Fun K "_law_digits" "_law_digits" s_17 fa fd) : Binds K fd P_17 [] := F.binds fun _ _ _ _ _ _ us hl => match us, hl with | [_], _ => rfl
theorem bi_18 {fa : Addr} {fd : FuncData} (F : Fun K "_law_draw" "_law_draw" s_18 fa fd) : Binds K fd P_18 [] := F.binds fun _ _ _ _ _ _ us hl => match us, hl with | [_, _], _ => rfl
theorem bi_19 {fa : Addr} {fd : FuncData} (F : Fun K "_law_any_hour" "_law_any_hour" s_19 fa fd) : Binds K fd P_19 [] := F.binds fun _ _ _ _ _ _ us hl => match us, hl with | [_], _ => rfl
theorem bi_20 {fa : Addr} {fd : FuncData} (F : Fun K "_law_make_region" "_law_make_region" s_20 fa fd) : Binds K fd P_20 [] := F.binds fun _ _ _ _ _ _ us hl => match us, hl with | [_], _ => rfl
theorem bi_21 {fa : Addr} {fd : FuncData} (F : Fun K "_law_make_chart" "_law_make_chart" s_21 fa fd) : Binds K fd P_21 [] := F.binds fun _ _ _ _ _ _ us hl => match us, hl with | [_, _, _], _ => rfl
theorem bi_24 {fa : Addr} {fd : FuncData} (F : Fun K "_law_whole" "_law_whole" s_24 fa fd) : Binds K fd P_24 [] := F.binds fun _ _ _ _ _ _ us hl => match us, hl with | [_], _ => rfl
theorem bi_25 {fa : Addr} {fd : FuncData} (F : Fun K "_law_same" "_law_same" s_25 fa fd) : Binds K fd P_25 [] := F.binds fun _ _ _ _ _ _ us hl => match us, hl with | [_, _], _ => rfl
theorem bi_174 {fa : Addr} {fd : FuncData} (F : Fun K "_law_odd_thing" "_law_odd_thing" s_174 fa fd) : Binds K fd P_174 [] := F.binds fun _ _ _ _ _ _ us hl => match us, hl with | [_], _ => rfl
theorem bi_175 {fa : Addr} {fd : FuncData} (F : Fun K "_law_bend" "_law_bend" s_175 fa fd) : Binds K fd P_175 [] := F.binds fun _ _ _ _ _ _ us hl => match us, hl with | [_, _, _], _ => rfl
theorem bi_45 {fa : Addr} {fd : FuncData} (F : Fun K "_law_among" "_law_among" s_45 fa fd) : Binds K fd P_45 [] := F.binds fun _ _ _ _ _ _ us hl => match us, hl with | [_, _], _ => rfl
theorem bi_46 {fa : Addr} {fd : FuncData} (F : Fun K "_law_is_chart" "_law_is_chart" s_46 fa fd) : Binds K fd P_46 [] := F.binds fun _ _ _ _ _ _ us hl => match us, hl with | [_, _], _ => rfl
theorem bi_181 {fa : Addr} {fd : FuncData} (F : Fun K "_law_tale" "_law_tale" s_181 fa fd) : Binds K fd P_181 [] := F.binds fun _ _ _ _ _ _ us hl => match us, hl with | [_, _], _ => rfl
theorem bi_182 {fa : Addr} {fd : FuncData} (F : Fun K "law" "law" s_182 fa fd) : Binds K fd P_182 [] := F.binds fun _ _ _ _ _ _ us hl => match us, hl with | [_], _ => rfl
theorem all_ok (F : Fs0 K mg) (G : Gs w K mg) (XS : Xs P w K mg base) : ∀ n, Al P w K mg base n
  | 0 => ⟨XS, (let ⟨fa, fd, h1, h2⟩ := F.f0; ⟨fa, fd, h1, h2, fn_ok0 h2 sc_0, bi_0 h2⟩), (let ⟨fa, fd, h1, h2⟩ := F.f1; ⟨fa, fd, h1, h2, fn_ok0 h2 sc_1, bi_1 h2⟩), (let ⟨fa, fd, h1, h2⟩ := F.f6; ⟨fa, fd, h1, h2, fn_ok0 h2 sc_6, bi_6 h2⟩), (let ⟨fa, fd, h1, h2⟩ := F.f180; ⟨fa, fd, h1, h2, fn_ok0 h2 sc_180, bi_180 h2⟩), (let ⟨fa, fd, h1, h2⟩ := F.f7; ⟨fa, fd, h1, h2, fn_ok0 h2 sc_7, bi_7 h2⟩), (let ⟨fa, fd, h1, h2⟩ := F.f12; ⟨fa, fd, h1, h2, fn_ok0 h2 sc_12, bi_12 h2⟩), (let ⟨fa, fd, h1, h2⟩ := F.f9; ⟨fa, fd, h1, h2, fn_ok0 h2 sc_9, bi_9 h2⟩), (let ⟨fa, fd, h1, h2⟩ := F.f11; ⟨fa, fd, h1, h2, fn_ok0 h2 sc_11, bi_11 h2⟩), (let ⟨fa, fd, h1, h2⟩ := F.f3; ⟨fa, fd, h1, h2, fn_ok0 h2 sc_3, bi_3 h2⟩), (let ⟨fa, fd, h1, h2⟩ := F.f5; ⟨fa, fd, h1, h2, fn_ok0 h2 sc_5, bi_5 h2⟩), (let ⟨fa, fd, h1, h2⟩ := F.f4; ⟨fa, fd, h1, h2, fn_ok0 h2 sc_4, bi_4 h2⟩), (let ⟨fa, fd, h1, h2⟩ := F.f10; ⟨fa, fd, h1, h2, fn_ok0 h2 sc_10, bi_10 h2⟩), (let ⟨fa, fd, h1, h2⟩ := F.f8; ⟨fa, fd, h1, h2, fn_ok0 h2 sc_8, bi_8 h2⟩), (let ⟨fa, fd, h1, h2⟩ := F.f17; ⟨fa, fd, h1, h2, fn_ok0 h2 sc_17, bi_17 h2⟩), (let ⟨fa, fd, h1, h2⟩ := F.f18; ⟨fa, fd, h1, h2, fn_ok0 h2 sc_18, bi_18 h2⟩), (let ⟨fa, fd, h1, h2⟩ := F.f19; ⟨fa, fd, h1, h2, fn_ok0 h2 sc_19, bi_19 h2⟩), (let ⟨fa, fd, h1, h2⟩ := F.f20; ⟨fa, fd, h1, h2, fn_ok0 h2 sc_20, bi_20 h2⟩), (let ⟨fa, fd, h1, h2⟩ := F.f21; ⟨fa, fd, h1, h2, fn_ok0 h2 sc_21, bi_21 h2⟩), (let ⟨fa, fd, h1, h2⟩ := F.f24; ⟨fa, fd, h1, h2, fn_ok0 h2 sc_24, bi_24 h2⟩), (let ⟨fa, fd, h1, h2⟩ := F.f25; ⟨fa, fd, h1, h2, fn_ok0 h2 sc_25, bi_25 h2⟩), (let ⟨fa, fd, h1, h2⟩ := F.f174; ⟨fa, fd, h1, h2, fn_ok0 h2 sc_174, bi_174 h2⟩), (let ⟨fa, fd, h1, h2⟩ := F.f175; ⟨fa, fd, h1, h2, fn_ok0 h2 sc_175, bi_175 h2⟩), (let ⟨fa, fd, h1, h2⟩ := F.f45; ⟨fa, fd, h1, h2, fn_ok0 h2 sc_45, bi_45 h2⟩), (let ⟨fa, fd, h1, h2⟩ := F.f46; ⟨fa, fd, h1, h2, fn_ok0 h2 sc_46, bi_46 h2⟩), (let ⟨fa, fd, h1, h2⟩ := F.f181; ⟨fa, fd, h1, h2, fn_ok0 h2 sc_181, bi_181 h2⟩), (let ⟨fa, fd, h1, h2⟩ := F.f182; ⟨fa, fd, h1, h2, fn_ok0 h2 sc_182, bi_182 h2⟩)⟩
  | n + 1 => have A := all_ok F G XS n; ⟨XS, (let ⟨fa, fd, h1, h2⟩ := F.f0; ⟨fa, fd, h1, h2, fn_ok h2 sc_0 rfl rfl rfl (fun cdv Ar outer s H E hr => d_0 A G fa cdv Ar outer s H E hr), bi_0 h2⟩),
    (let ⟨fa, fd, h1, h2⟩ := F.f1; ⟨fa, fd, h1, h2, fn_ok h2 sc_1 rfl rfl rfl (fun cdv Ar outer s H E hr => d_1 A G fa cdv Ar outer s H E hr), bi_1 h2⟩),
    (let ⟨fa, fd, h1, h2⟩ := F.f6; ⟨fa, fd, h1, h2, fn_ok h2 sc_6 rfl rfl rfl (fun cdv Ar outer s H E hr => d_6 A G fa cdv Ar outer s H E hr), bi_6 h2⟩),
    (let ⟨fa, fd, h1, h2⟩ := F.f180; ⟨fa, fd, h1, h2, fn_ok h2 sc_180 rfl rfl rfl (fun cdv Ar outer s H E hr => d_180 A G fa cdv Ar outer s H E hr), bi_180 h2⟩),
    (let ⟨fa, fd, h1, h2⟩ := F.f7; ⟨fa, fd, h1, h2, fn_ok h2 sc_7 rfl rfl rfl (fun cdv Ar outer s H E hr => d_7 A G fa cdv Ar outer s H E hr), bi_7 h2⟩),
    (let ⟨fa, fd, h1, h2⟩ := F.f12; ⟨fa, fd, h1, h2, fn_ok h2 sc_12 rfl rfl rfl (fun cdv Ar outer s H E hr => d_12 A G fa cdv Ar outer s H E hr), bi_12 h2⟩),
    (let ⟨fa, fd, h1, h2⟩ := F.f9; ⟨fa, fd, h1, h2, fn_ok h2 sc_9 rfl rfl rfl (fun cdv Ar outer s H E hr => d_9 A G fa cdv Ar outer s H E hr), bi_9 h2⟩),
    (let ⟨fa, fd, h1, h2⟩ := F.f11; ⟨fa, fd, h1, h2, fn_ok h2 sc_11 rfl rfl rfl (fun cdv Ar outer s H E hr => d_11 A G fa cdv Ar outer s H E hr), bi_11 h2⟩),
    (let ⟨fa, fd, h1, h2⟩ := F.f3; ⟨fa, fd, h1, h2, fn_ok h2 sc_3 rfl rfl rfl (fun cdv Ar outer s H E hr => d_3 A G fa cdv Ar outer s H E hr), bi_3 h2⟩),
    (let ⟨fa, fd, h1, h2⟩ := F.f5; ⟨fa, fd, h1, h2, fn_ok h2 sc_5 rfl rfl rfl (fun cdv Ar outer s H E hr => d_5 A G fa cdv Ar outer s H E hr), bi_5 h2⟩),
    (let ⟨fa, fd, h1, h2⟩ := F.f4; ⟨fa, fd, h1, h2, fn_ok h2 sc_4 rfl rfl rfl (fun cdv Ar outer s H E hr => d_4 A G fa cdv Ar outer s H E hr), bi_4 h2⟩),
    (let ⟨fa, fd, h1, h2⟩ := F.f10; ⟨fa, fd, h1, h2, fn_ok h2 sc_10 rfl rfl rfl (fun cdv Ar outer s H E hr => d_10 A G fa cdv Ar outer s H E hr), bi_10 h2⟩),
    (let ⟨fa, fd, h1, h2⟩ := F.f8; ⟨fa, fd, h1, h2, fn_ok h2 sc_8 rfl rfl rfl (fun cdv Ar outer s H E hr => d_8 A G fa cdv Ar outer s H E hr), bi_8 h2⟩),
    (let ⟨fa, fd, h1, h2⟩ := F.f17; ⟨fa, fd, h1, h2, fn_ok h2 sc_17 rfl rfl rfl (fun cdv Ar outer s H E hr => d_17 A G fa cdv Ar outer s H E hr), bi_17 h2⟩),
    (let ⟨fa, fd, h1, h2⟩ := F.f18; ⟨fa, fd, h1, h2, fn_ok h2 sc_18 rfl rfl rfl (fun cdv Ar outer s H E hr => d_18 A G fa cdv Ar outer s H E hr), bi_18 h2⟩),
    (let ⟨fa, fd, h1, h2⟩ := F.f19; ⟨fa, fd, h1, h2, fn_ok h2 sc_19 rfl rfl rfl (fun cdv Ar outer s H E hr => d_19 A G fa cdv Ar outer s H E hr), bi_19 h2⟩),
    (let ⟨fa, fd, h1, h2⟩ := F.f20; ⟨fa, fd, h1, h2, fn_ok h2 sc_20 rfl rfl rfl (fun cdv Ar outer s H E hr => d_20 A G fa cdv Ar outer s H E hr), bi_20 h2⟩),
    (let ⟨fa, fd, h1, h2⟩ := F.f21; ⟨fa, fd, h1, h2, fn_ok h2 sc_21 rfl rfl rfl (fun cdv Ar outer s H E hr => d_21 A G fa cdv Ar outer s H E hr), bi_21 h2⟩),
    (let ⟨fa, fd, h1, h2⟩ := F.f24; ⟨fa, fd, h1, h2, fn_ok h2 sc_24 rfl rfl rfl (fun cdv Ar outer s H E hr => d_24 A G fa cdv Ar outer s H E hr), bi_24 h2⟩),
    (let ⟨fa, fd, h1, h2⟩ := F.f25; ⟨fa, fd, h1, h2, fn_ok h2 sc_25 rfl rfl rfl (fun cdv Ar outer s H E hr => d_25 A G fa cdv Ar outer s H E hr), bi_25 h2⟩),
    (let ⟨fa, fd, h1, h2⟩ := F.f174; ⟨fa, fd, h1, h2, fn_ok h2 sc_174 rfl rfl rfl (fun cdv Ar outer s H E hr => d_174 A G fa cdv Ar outer s H E hr), bi_174 h2⟩),
    (let ⟨fa, fd, h1, h2⟩ := F.f175; ⟨fa, fd, h1, h2, fn_ok h2 sc_175 rfl rfl rfl (fun cdv Ar outer s H E hr => d_175 A G fa cdv Ar outer s H E hr), bi_175 h2⟩),
    (let ⟨fa, fd, h1, h2⟩ := F.f45; ⟨fa, fd, h1, h2, fn_ok h2 sc_45 rfl rfl rfl (fun cdv Ar outer s H E hr => d_45 A G fa cdv Ar outer s H E hr), bi_45 h2⟩),
    (let ⟨fa, fd, h1, h2⟩ := F.f46; ⟨fa, fd, h1, h2, fn_ok h2 sc_46 rfl rfl rfl (fun cdv Ar outer s H E hr => d_46 A G fa cdv Ar outer s H E hr), bi_46 h2⟩),
    (let ⟨fa, fd, h1, h2⟩ := F.f181; ⟨fa, fd, h1, h2, fn_ok h2 sc_181 rfl rfl rfl (fun cdv Ar outer s H E hr => d_181 A G fa cdv Ar outer s H E hr), bi_181 h2⟩),
    (let ⟨fa, fd, h1, h2⟩ := F.f182; ⟨fa, fd, h1, h2, fn_ok h2 sc_182 rfl rfl rfl (fun cdv Ar outer s H E hr => d_182 A G fa cdv Ar outer s H E hr), bi_182 h2⟩)⟩
end
theorem x_Crowded_mk {P : Program} {w : World} {K : PySem.W.Frag} {mg : Str → Option Value} {base : Heap} {C HE fI cc cda : Addr} {bm bmh : List Value} (r : XRaw K "Crowded" C HE bm) (rh : XRaw K "HourError" HE HE bmh) (hCH : C ≠ HE) (i : XIni P K mg C fI cc cda HE "Crowded.__init__" (clsInit (topS 3))) (hm : mg "Crowded" = some (.ref C)) (a0 : PySem.W.findIn K (.ref C) "first" = some none) (a1 : PySem.W.findIn K (.ref C) "last" = some none) : MkX P w K mg base "Crowded" ["first", "last"] (defArgs (clsInit (topS 3))) := by
  exact mkX2 r rh (by decide) hCH i hm (NdefX.nscope_by (by decide +kernel)) rfl rfl rfl (fun F hF L => by obtain ⟨_, _, _, _, sc, _, _⟩ := F; cases hF; rfl) rfl (fun F hF doc pm ct us hl => by obtain ⟨_, _, _, _, _, _, _⟩ := F; cases hF; exact match us, hl with | [_, _, _], _ => rfl) a0 a1 (by decide) (by decide) (by decide) (by decide) (by decide)
theorem all_mk {l : PySem.W.OpenLaw} {w : World} {K : PySem.W.Frag} {h : Heap} {mg : Str → Option Value} {fa f0 f1 f6 f180 f7 f12 f9 f11 f3 f5 f4 f10 f8 f17 f18 f19 f20 f21 f24 f25 f174 f175 f45 f46 f181 f182 : Addr} (X : K.In h) (G : h.Ns mainGlobals mg) (hfa : mg "law" = some (.ref fa))
    {od0 an0 od1 an1 od6 an6 od180 an180 od7 an7 od12 an12 od9 an9 od11 an11 od3 an3 od5 an5 od4 an4 od10 an10 od8 an8 od17 an17 od18 an18 od19 an19 od20 an20 od21 an21 od24 an24 od25 an25 od174 an174 od175 an175 od45 an45 od46 an46 od181 an181 od182 an182 : Option Addr} {sl0 sl1 sl6 sl180 sl7 sl12 sl9 sl11 sl3 sl5 sl4 sl10 sl8 sl17 sl18 sl19 sl20 sl21 sl24 sl25 sl174 sl175 sl45 sl46 sl181 sl182 : Array (Option Value)} {oc0 kV0 dc0 pm0 cd0 ct0 oc1 kV1 dc1 pm1 cd1 ct1 oc6 kV6 dc6 pm6 cd6 ct6 oc180 kV180 dc180 pm180 cd180 ct180 oc7 kV7 dc7 pm7 cd7 ct7 oc12 kV12 dc12 pm12 cd12 ct12 oc9 kV9 dc9 pm9 cd9 ct9 oc11 kV11 dc11 pm11 cd11 ct11 oc3 kV3 dc3 pm3 cd3 ct3 oc5 kV5 dc5 pm5 cd5 ct5 oc4 kV4 dc4 pm4 cd4 ct4 oc10 kV10 dc10 pm10 cd10 ct10 oc8 kV8 dc8 pm8 cd8 ct8 oc17 kV17 dc17 pm17 cd17 ct17 oc18 kV18 dc18 pm18 cd18 ct18 oc19 kV19 dc19 pm19 cd19 ct19 oc20 kV20 dc20 pm20 cd20 ct20 oc21 kV21 dc21 pm21 cd21 ct21 oc24 kV24 dc24 pm24 cd24 ct24 oc25 kV25 dc25 pm25 cd25 ct25 oc174 kV174 dc174 pm174 cd174 ct174 oc175 kV175 dc175 pm175 cd175 ct175 oc45 kV45 dc45 pm45 cd45 ct45 oc46 kV46 dc46 pm46 cd46 ct46 oc181 kV181 dc181 pm181 cd181 ct181 oc182 kV182 dc182 pm182 cd182 ct182 : Value}
    (a0 : PySem.W.nsIn K mainGlobals "is_number" = some (some (.ref f0))) (l0 : K.lookup f0 = some ⟨oc0, od0, .func (PySem.W.fnOf "is_number" "is_number" (defArgs s_0) (defBody s_0) (defScope s_0) .none kV0 dc0 pm0 an0 cd0 ct0), sl0⟩) (c0 : PySem.W.codeIn K cd0 "is_number" = true) (k0 : PySem.W.keepIn K (.ref f0) = true)
    (a1 : PySem.W.nsIn K mainGlobals "is_pair" = some (some (.ref f1))) (l1 : K.lookup f1 = some ⟨oc1, od1, .func (PySem.W.fnOf "is_pair" "is_pair" (defArgs s_1) (defBody s_1) (defScope s_1) .none kV1 dc1 pm1 an1 cd1 ct1), sl1⟩) (c1 : PySem.W.codeIn K cd1 "is_pair" = true) (k1 : PySem.W.keepIn K (.ref f1) = true)
    (a6 : PySem.W.nsIn K mainGlobals "is_zone" = some (some (.ref f6))) (l6 : K.lookup f6 = some ⟨oc6, od6, .func (PySem.W.fnOf "is_zone" "is_zone" (defArgs s_6) (defBody s_6) (defScope s_6) .none kV6 dc6 pm6 an6 cd6 ct6), sl6⟩) (c6 : PySem.W.codeIn K cd6 "is_zone" = true) (k6 : PySem.W.keepIn K (.ref f6) = true)
    (a180 : PySem.W.nsIn K mainGlobals "is_table" = some (some (.ref f180))) (l180 : K.lookup f180 = some ⟨oc180, od180, .func (PySem.W.fnOf "is_table" "is_table" (defArgs s_180) (defBody s_180) (defScope s_180) .none kV180 dc180 pm180 an180 cd180 ct180), sl180⟩) (c180 : PySem.W.codeIn K cd180 "is_table" = true) (k180 : PySem.W.keepIn K (.ref f180) = true)
    (a7 : PySem.W.nsIn K mainGlobals "check_zone" = some (some (.ref f7))) (l7 : K.lookup f7 = some ⟨oc7, od7, .func (PySem.W.fnOf "check_zone" "check_zone" (defArgs s_7) (defBody s_7) (defScope s_7) .none kV7 dc7 pm7 an7 cd7 ct7), sl7⟩) (c7 : PySem.W.codeIn K cd7 "check_zone" = true) (k7 : PySem.W.keepIn K (.ref f7) = true)
    (a12 : PySem.W.nsIn K mainGlobals "fits_as_table" = some (some (.ref f12))) (l12 : K.lookup f12 = some ⟨oc12, od12, .func (PySem.W.fnOf "fits_as_table" "fits_as_table" (defArgs s_12) (defBody s_12) (defScope s_12) .none kV12 dc12 pm12 an12 cd12 ct12), sl12⟩) (c12 : PySem.W.codeIn K cd12 "fits_as_table" = true) (k12 : PySem.W.keepIn K (.ref f12) = true)
    (a9 : PySem.W.nsIn K mainGlobals "is_offset" = some (some (.ref f9))) (l9 : K.lookup f9 = some ⟨oc9, od9, .func (PySem.W.fnOf "is_offset" "is_offset" (defArgs s_9) (defBody s_9) (defScope s_9) .none kV9 dc9 pm9 an9 cd9 ct9), sl9⟩) (c9 : PySem.W.codeIn K cd9 "is_offset" = true) (k9 : PySem.W.keepIn K (.ref f9) = true)
    (a11 : PySem.W.nsIn K mainGlobals "are_marks" = some (some (.ref f11))) (l11 : K.lookup f11 = some ⟨oc11, od11, .func (PySem.W.fnOf "are_marks" "are_marks" (defArgs s_11) (defBody s_11) (defScope s_11) .none kV11 dc11 pm11 an11 cd11 ct11), sl11⟩) (c11 : PySem.W.codeIn K cd11 "are_marks" = true) (k11 : PySem.W.keepIn K (.ref f11) = true)
    (a3 : PySem.W.nsIn K mainGlobals "is_ascending" = some (some (.ref f3))) (l3 : K.lookup f3 = some ⟨oc3, od3, .func (PySem.W.fnOf "is_ascending" "is_ascending" (defArgs s_3) (defBody s_3) (defScope s_3) .none kV3 dc3 pm3 an3 cd3 ct3), sl3⟩) (c3 : PySem.W.codeIn K cd3 "is_ascending" = true) (k3 : PySem.W.keepIn K (.ref f3) = true)
    (a5 : PySem.W.nsIn K mainGlobals "_are_offsets" = some (some (.ref f5))) (l5 : K.lookup f5 = some ⟨oc5, od5, .func (PySem.W.fnOf "_are_offsets" "_are_offsets" (defArgs s_5) (defBody s_5) (defScope s_5) .none kV5 dc5 pm5 an5 cd5 ct5), sl5⟩) (c5 : PySem.W.codeIn K cd5 "_are_offsets" = true) (k5 : PySem.W.keepIn K (.ref f5) = true)
    (a4 : PySem.W.nsIn K mainGlobals "_is_near" = some (some (.ref f4))) (l4 : K.lookup f4 = some ⟨oc4, od4, .func (PySem.W.fnOf "_is_near" "_is_near" (defArgs s_4) (defBody s_4) (defScope s_4) .none kV4 dc4 pm4 an4 cd4 ct4), sl4⟩) (c4 : PySem.W.codeIn K cd4 "_is_near" = true) (k4 : PySem.W.keepIn K (.ref f4) = true)
    (a10 : PySem.W.nsIn K mainGlobals "_is_mark" = some (some (.ref f10))) (l10 : K.lookup f10 = some ⟨oc10, od10, .func (PySem.W.fnOf "_is_mark" "_is_mark" (defArgs s_10) (defBody s_10) (defScope s_10) .none kV10 dc10 pm10 an10 cd10 ct10), sl10⟩) (c10 : PySem.W.codeIn K cd10 "_is_mark" = true) (k10 : PySem.W.keepIn K (.ref f10) = true)
    (a8 : PySem.W.nsIn K mainGlobals "_are_jumps" = some (some (.ref f8))) (l8 : K.lookup f8 = some ⟨oc8, od8, .func (PySem.W.fnOf "_are_jumps" "_are_jumps" (defArgs s_8) (defBody s_8) (defScope s_8) .none kV8 dc8 pm8 an8 cd8 ct8), sl8⟩) (c8 : PySem.W.codeIn K cd8 "_are_jumps" = true) (k8 : PySem.W.keepIn K (.ref f8) = true)
    (a17 : PySem.W.nsIn K mainGlobals "_law_digits" = some (some (.ref f17))) (l17 : K.lookup f17 = some ⟨oc17, od17, .func (PySem.W.fnOf "_law_digits" "_law_digits" (defArgs s_17) (defBody s_17) (defScope s_17) .none kV17 dc17 pm17 an17 cd17 ct17), sl17⟩) (c17 : PySem.W.codeIn K cd17 "_law_digits" = true) (k17 : PySem.W.keepIn K (.ref f17) = true)
    (a18 : PySem.W.nsIn K mainGlobals "_law_draw" = some (some (.ref f18))) (l18 : K.lookup f18 = some ⟨oc18, od18, .func (PySem.W.fnOf "_law_draw" "_law_draw" (defArgs s_18) (defBody s_18) (defScope s_18) .none kV18 dc18 pm18 an18 cd18 ct18), sl18⟩) (c18 : PySem.W.codeIn K cd18 "_law_draw" = true) (k18 : PySem.W.keepIn K (.ref f18) = true)
    (a19 : PySem.W.nsIn K mainGlobals "_law_any_hour" = some (some (.ref f19))) (l19 : K.lookup f19 = some ⟨oc19, od19, .func (PySem.W.fnOf "_law_any_hour" "_law_any_hour" (defArgs s_19) (defBody s_19) (defScope s_19) .none kV19 dc19 pm19 an19 cd19 ct19), sl19⟩) (c19 : PySem.W.codeIn K cd19 "_law_any_hour" = true) (k19 : PySem.W.keepIn K (.ref f19) = true)
    (a20 : PySem.W.nsIn K mainGlobals "_law_make_region" = some (some (.ref f20))) (l20 : K.lookup f20 = some ⟨oc20, od20, .func (PySem.W.fnOf "_law_make_region" "_law_make_region" (defArgs s_20) (defBody s_20) (defScope s_20) .none kV20 dc20 pm20 an20 cd20 ct20), sl20⟩) (c20 : PySem.W.codeIn K cd20 "_law_make_region" = true) (k20 : PySem.W.keepIn K (.ref f20) = true)
    (a21 : PySem.W.nsIn K mainGlobals "_law_make_chart" = some (some (.ref f21))) (l21 : K.lookup f21 = some ⟨oc21, od21, .func (PySem.W.fnOf "_law_make_chart" "_law_make_chart" (defArgs s_21) (defBody s_21) (defScope s_21) .none kV21 dc21 pm21 an21 cd21 ct21), sl21⟩) (c21 : PySem.W.codeIn K cd21 "_law_make_chart" = true) (k21 : PySem.W.keepIn K (.ref f21) = true)
    (a24 : PySem.W.nsIn K mainGlobals "_law_whole" = some (some (.ref f24))) (l24 : K.lookup f24 = some ⟨oc24, od24, .func (PySem.W.fnOf "_law_whole" "_law_whole" (defArgs s_24) (defBody s_24) (defScope s_24) .none kV24 dc24 pm24 an24 cd24 ct24), sl24⟩) (c24 : PySem.W.codeIn K cd24 "_law_whole" = true) (k24 : PySem.W.keepIn K (.ref f24) = true)
    (a25 : PySem.W.nsIn K mainGlobals "_law_same" = some (some (.ref f25))) (l25 : K.lookup f25 = some ⟨oc25, od25, .func (PySem.W.fnOf "_law_same" "_law_same" (defArgs s_25) (defBody s_25) (defScope s_25) .none kV25 dc25 pm25 an25 cd25 ct25), sl25⟩) (c25 : PySem.W.codeIn K cd25 "_law_same" = true) (k25 : PySem.W.keepIn K (.ref f25) = true)
    (a174 : PySem.W.nsIn K mainGlobals "_law_odd_thing" = some (some (.ref f174))) (l174 : K.lookup f174 = some ⟨oc174, od174, .func (PySem.W.fnOf "_law_odd_thing" "_law_odd_thing" (defArgs s_174) (defBody s_174) (defScope s_174) .none kV174 dc174 pm174 an174 cd174 ct174), sl174⟩) (c174 : PySem.W.codeIn K cd174 "_law_odd_thing" = true) (k174 : PySem.W.keepIn K (.ref f174) = true)
    (a175 : PySem.W.nsIn K mainGlobals "_law_bend" = some (some (.ref f175))) (l175 : K.lookup f175 = some ⟨oc175, od175, .func (PySem.W.fnOf "_law_bend" "_law_bend" (defArgs s_175) (defBody s_175) (defScope s_175) .none kV175 dc175 pm175 an175 cd175 ct175), sl175⟩) (c175 : PySem.W.codeIn K cd175 "_law_bend" = true) (k175 : PySem.W.keepIn K (.ref f175) = true)
    (a45 : PySem.W.nsIn K mainGlobals "_law_among" = some (some (.ref f45))) (l45 : K.lookup f45 = some ⟨oc45, od45, .func (PySem.W.fnOf "_law_among" "_law_among" (defArgs s_45) (defBody s_45) (defScope s_45) .none kV45 dc45 pm45 an45 cd45 ct45), sl45⟩) (c45 : PySem.W.codeIn K cd45 "_law_among" = true) (k45 : PySem.W.keepIn K (.ref f45) = true)
    (a46 : PySem.W.nsIn K mainGlobals "_law_is_chart" = some (some (.ref f46))) (l46 : K.lookup f46 = some ⟨oc46, od46, .func (PySem.W.fnOf "_law_is_chart" "_law_is_chart" (defArgs s_46) (defBody s_46) (defScope s_46) .none kV46 dc46 pm46 an46 cd46 ct46), sl46⟩) (c46 : PySem.W.codeIn K cd46 "_law_is_chart" = true) (k46 : PySem.W.keepIn K (.ref f46) = true)
    (a181 : PySem.W.nsIn K mainGlobals "_law_tale" = some (some (.ref f181))) (l181 : K.lookup f181 = some ⟨oc181, od181, .func (PySem.W.fnOf "_law_tale" "_law_tale" (defArgs s_181) (defBody s_181) (defScope s_181) .none kV181 dc181 pm181 an181 cd181 ct181), sl181⟩) (c181 : PySem.W.codeIn K cd181 "_law_tale" = true) (k181 : PySem.W.keepIn K (.ref f181) = true)
    (a182 : PySem.W.nsIn K mainGlobals "law" = some (some (.ref f182))) (l182 : K.lookup f182 = some ⟨oc182, od182, .func (PySem.W.fnOf "law" "law" (defArgs s_182) (defBody s_182) (defScope s_182) .none kV182 dc182 pm182 an182 cd182 ct182), sl182⟩) (c182 : PySem.W.codeIn K cd182 "law" = true) (k182 : PySem.W.keepIn K (.ref f182) = true)
    (n_all : PySem.W.nsIn K mainGlobals "all" = some none)
    (n_bool : PySem.W.nsIn K mainGlobals "bool" = some none)
    (n_int : PySem.W.nsIn K mainGlobals "int" = some none)
    (n_isinstance : PySem.W.nsIn K mainGlobals "isinstance" = some none)
    (n_len : PySem.W.nsIn K mainGlobals "len" = some none)
    (n_list : PySem.W.nsIn K mainGlobals "list" = some none)
    (n_range : PySem.W.nsIn K mainGlobals "range" = some none)
    (n_str : PySem.W.nsIn K mainGlobals "str" = some none)
    (n_tuple : PySem.W.nsIn K mainGlobals "tuple" = some none)
    (n_zip : PySem.W.nsIn K mainGlobals "zip" = some none)
    {t_MOST_SPACING : Tok} (c_MOST_SPACING : PySem.W.nsIn K mainGlobals "MOST_SPACING" = some (some (.int 1000000 t_MOST_SPACING)))
    {t_MOST_OFFSETS : Tok} (c_MOST_OFFSETS : PySem.W.nsIn K mainGlobals "MOST_OFFSETS" = some (some (.int 3 t_MOST_OFFSETS)))
    {t_FARTHEST_OFFSET : Tok} (c_FARTHEST_OFFSET : PySem.W.nsIn K mainGlobals "FARTHEST_OFFSET" = some (some (.int 900 t_FARTHEST_OFFSET)))
    {CHourError : Addr} (cn_ : PySem.W.specialIn K (.builtin "object.__class__") "__get__" = some (some (.builtin "getset_descriptor.__get__"))) (ct_ : PySem.W.takesIn K (.builtin "object.__class__") = some true)
    {q_HourError : Str} {N_HourError : Addr} {bs_HourError sub_HourError : List Value} {sn_HourError : List Str} {ab_HourError : Bool} {col_HourError : Option Bool} {dd_HourError : Option Addr} {k0_HourError k1_HourError k2_HourError k3_HourError k5_HourError : Option Value}
    (xg_HourError : PySem.W.nsIn K mainGlobals "HourError" = some (some (.ref CHourError))) (xl_HourError : K.lookup CHourError = some (excClassObj "HourError" q_HourError CHourError N_HourError bs_HourError [.type "ValueError", .type "Exception", .type "BaseException", .type "object"] true sn_HourError sub_HourError ab_HourError col_HourError dd_HourError k0_HourError k1_HourError k2_HourError k3_HourError k5_HourError "ValueError.__new__")) (xsa_HourError : PySem.W.findIn K (.ref CHourError) "__setattr__" = some (some (.builtin "object.__setattr__"))) (xga_HourError : PySem.W.findIn K (.ref CHourError) "__getattribute__" = some (some (.builtin "BaseException.__getattribute__"))) (xgt_HourError : PySem.W.findIn K (.ref CHourError) "__getattr__" = some none) (xex_HourError : PySem.W.subIn K (.ref CHourError) (.type "BaseException") = some true) (xhd_HourError : PySem.W.hasDictIn K CHourError = true) (xca_HourError : PySem.W.findIn K (.ref CHourError) "__class__" = some (some (.builtin "object.__class__"))) (xcm_HourError : PySem.W.mroIn K CHourError (.type "object") = some true) (xty_HourError : PySem.W.typeIn K (.ref CHourError) = some (.type "type")) (xkp_HourError : PySem.W.keepIn K (.ref CHourError) = true) (xi1_HourError : PySem.W.subIn K (.ref CHourError) (.type "int") = some false) (xi2_HourError : PySem.W.subIn K (.ref CHourError) (.type "bool") = some false) (xi3_HourError : PySem.W.subIn K (.ref CHourError) (.type "str") = some false) (xi4_HourError : PySem.W.subIn K (.ref CHourError) (.type "tuple") = some false) (xi5_HourError : PySem.W.subIn K (.ref CHourError) (.type "list") = some false)
    {CInvalidZone : Addr} {q_InvalidZone : Str} {N_InvalidZone : Addr} {bs_InvalidZone sub_InvalidZone : List Value} {sn_InvalidZone : List Str} {ab_InvalidZone : Bool} {col_InvalidZone : Option Bool} {dd_InvalidZone : Option Addr} {k0_InvalidZone k1_InvalidZone k2_InvalidZone k3_InvalidZone k5_InvalidZone : Option Value}
    (xg_InvalidZone : PySem.W.nsIn K mainGlobals "InvalidZone" = some (some (.ref CInvalidZone))) (xl_InvalidZone : K.lookup CInvalidZone = some (excClassObj "InvalidZone" q_InvalidZone CInvalidZone N_InvalidZone bs_InvalidZone [.ref CHourError, .type "ValueError", .type "Exception", .type "BaseException", .type "object"] true sn_InvalidZone sub_InvalidZone ab_InvalidZone col_InvalidZone dd_InvalidZone k0_InvalidZone k1_InvalidZone k2_InvalidZone k3_InvalidZone k5_InvalidZone "ValueError.__new__")) (xsa_InvalidZone : PySem.W.findIn K (.ref CInvalidZone) "__setattr__" = some (some (.builtin "object.__setattr__"))) (xga_InvalidZone : PySem.W.findIn K (.ref CInvalidZone) "__getattribute__" = some (some (.builtin "BaseException.__getattribute__"))) (xgt_InvalidZone : PySem.W.findIn K (.ref CInvalidZone) "__getattr__" = some none) (xex_InvalidZone : PySem.W.subIn K (.ref CInvalidZone) (.type "BaseException") = some true) (xhd_InvalidZone : PySem.W.hasDictIn K CInvalidZone = true) (xca_InvalidZone : PySem.W.findIn K (.ref CInvalidZone) "__class__" = some (some (.builtin "object.__class__"))) (xcm_InvalidZone : PySem.W.mroIn K CInvalidZone (.type "object") = some true) (xty_InvalidZone : PySem.W.typeIn K (.ref CInvalidZone) = some (.type "type")) (xkp_InvalidZone : PySem.W.keepIn K (.ref CInvalidZone) = true) (xi1_InvalidZone : PySem.W.subIn K (.ref CInvalidZone) (.type "int") = some false) (xi2_InvalidZone : PySem.W.subIn K (.ref CInvalidZone) (.type "bool") = some false) (xi3_InvalidZone : PySem.W.subIn K (.ref CInvalidZone) (.type "str") = some false) (xi4_InvalidZone : PySem.W.subIn K (.ref CInvalidZone) (.type "tuple") = some false) (xi5_InvalidZone : PySem.W.subIn K (.ref CInvalidZone) (.type "list") = some false) (xin_InvalidZone : PySem.W.findIn K (.ref CInvalidZone) "__init__" = some (some (.builtin "ValueError.__init__")))
    {CCrowded : Addr} {q_Crowded : Str} {N_Crowded : Addr} {bs_Crowded sub_Crowded : List Value} {sn_Crowded : List Str} {ab_Crowded : Bool} {col_Crowded : Option Bool} {dd_Crowded : Option Addr} {k0_Crowded k1_Crowded k2_Crowded k3_Crowded k5_Crowded : Option Value}
    (xg_Crowded : PySem.W.nsIn K mainGlobals "Crowded" = some (some (.ref CCrowded))) (xl_Crowded : K.lookup CCrowded = some (excClassObj "Crowded" q_Crowded CCrowded N_Crowded bs_Crowded [.ref CHourError, .type "ValueError", .type "Exception", .type "BaseException", .type "object"] true sn_Crowded sub_Crowded ab_Crowded col_Crowded dd_Crowded k0_Crowded k1_Crowded k2_Crowded k3_Crowded k5_Crowded "ValueError.__new__")) (xsa_Crowded : PySem.W.findIn K (.ref CCrowded) "__setattr__" = some (some (.builtin "object.__setattr__"))) (xga_Crowded : PySem.W.findIn K (.ref CCrowded) "__getattribute__" = some (some (.builtin "BaseException.__getattribute__"))) (xgt_Crowded : PySem.W.findIn K (.ref CCrowded) "__getattr__" = some none) (xex_Crowded : PySem.W.subIn K (.ref CCrowded) (.type "BaseException") = some true) (xhd_Crowded : PySem.W.hasDictIn K CCrowded = true) (xca_Crowded : PySem.W.findIn K (.ref CCrowded) "__class__" = some (some (.builtin "object.__class__"))) (xcm_Crowded : PySem.W.mroIn K CCrowded (.type "object") = some true) (xty_Crowded : PySem.W.typeIn K (.ref CCrowded) = some (.type "type")) (xkp_Crowded : PySem.W.keepIn K (.ref CCrowded) = true) (xi1_Crowded : PySem.W.subIn K (.ref CCrowded) (.type "int") = some false) (xi2_Crowded : PySem.W.subIn K (.ref CCrowded) (.type "bool") = some false) (xi3_Crowded : PySem.W.subIn K (.ref CCrowded) (.type "str") = some false) (xi4_Crowded : PySem.W.subIn K (.ref CCrowded) (.type "tuple") = some false) (xi5_Crowded : PySem.W.subIn K (.ref CCrowded) (.type "list") = some false)
    (xh_ : PySem.W.findIn K (.ref CHourError) "__init__" = some (some (.builtin "ValueError.__init__"))) (xo_ : PySem.W.nsIn K cStatics "thirdparty.any" = some none) (xu_ : PySem.W.nsIn K mainGlobals "super" = some none) (xtop_ : (l.prog.main.scope.names.lookup ("super" : Str)).isSome = false)
    {ICrowded cc_Crowded cda_Crowded : Addr} {od_Crowded ccd_Crowded kcd_Crowded : Option Addr} {doc_Crowded pm_Crowded ct_Crowded ccl_Crowded kcl_Crowded : Value} {osl_Crowded csl_Crowded ksl_Crowded : Array (Option Value)} {kvs_Crowded : Array Value} {file_Crowded : Str} {tf_Crowded : Tok}
    (xj_Crowded : PySem.W.findIn K (.ref CCrowded) "__init__" = some (some (.ref ICrowded))) (xt_Crowded : PySem.W.typeIn K (.ref ICrowded) = some (.type "function")) (xf_Crowded : K.lookup ICrowded = some ⟨.type "function", od_Crowded, .func (PySem.W.fnX "__init__" "Crowded.__init__" (defArgs (clsInit (topS 3))) (defBody (clsInit (topS 3))) (defScope (clsInit (topS 3))) [(("__class__" : Str), cc_Crowded)] .none .none doc_Crowded pm_Crowded none (.ref cda_Crowded) ct_Crowded), osl_Crowded⟩) (xc_Crowded : PySem.W.codeIn K (.ref cda_Crowded) "Crowded.__init__" = true) (xcc_Crowded : K.lookup cc_Crowded = some ⟨ccl_Crowded, ccd_Crowded, .cell (some (.ref CCrowded)), csl_Crowded⟩) (xk_Crowded : K.lookup cda_Crowded = some ⟨kcl_Crowded, kcd_Crowded, .fields kvs_Crowded, ksl_Crowded⟩) (xv_Crowded : kvs_Crowded[2]? = some (.str file_Crowded tf_Crowded)) (xw_Crowded : ((l.prog.main.file : Str) == file_Crowded) = true) (xs_Crowded : PySem.W.subIn K (.ref CCrowded) (.type "ValueError") = some true) (xm_Crowded : PySem.W.mroIn K CCrowded (.ref CCrowded) = some true) (xne_Crowded : CCrowded ≠ CHourError) (xn0_Crowded : PySem.W.findIn K (.ref CCrowded) "first" = some none) (xn1_Crowded : PySem.W.findIn K (.ref CCrowded) "last" = some none)
    (n : Nat) : ∃ fd : FuncData, (∀ (s : Shared) (v : Value), BindsTo s fd ⟨[v], []⟩ [("_law_script", v)]) ∧ ∀ base : Heap, K.In base → base.Ns mainGlobals mg → FnG l.prog w K mg base n fa fd P_182 (spF K (run T n) 182) := by
  have F : Fs0 K mg := ⟨⟨f0, _, PySem.W.mg_of X G a0, fun_mk (st := s_0) l0 c0 k0⟩, ⟨f1, _, PySem.W.mg_of X G a1, fun_mk (st := s_1) l1 c1 k1⟩, ⟨f6, _, PySem.W.mg_of X G a6, fun_mk (st := s_6) l6 c6 k6⟩, ⟨f180, _, PySem.W.mg_of X G a180, fun_mk (st := s_180) l180 c180 k180⟩, ⟨f7, _, PySem.W.mg_of X G a7, fun_mk (st := s_7) l7 c7 k7⟩, ⟨f12, _, PySem.W.mg_of X G a12, fun_mk (st := s_12) l12 c12 k12⟩, ⟨f9, _, PySem.W.mg_of X G a9, fun_mk (st := s_9) l9 c9 k9⟩, ⟨f11, _, PySem.W.mg_of X G a11, fun_mk (st := s_11) l11 c11 k11⟩, ⟨f3, _, PySem.W.mg_of X G a3, fun_mk (st := s_3) l3 c3 k3⟩, ⟨f5, _, PySem.W.mg_of X G a5, fun_mk (st := s_5) l5 c5 k5⟩, ⟨f4, _, PySem.W.mg_of X G a4, fun_mk (st := s_4) l4 c4 k4⟩, ⟨f10, _, PySem.W.mg_of X G a10, fun_mk (st := s_10) l10 c10 k10⟩, ⟨f8, _, PySem.W.mg_of X G a8, fun_mk (st := s_8) l8 c8 k8⟩, ⟨f17, _, PySem.W.mg_of X G a17, fun_mk (st := s_17) l17 c17 k17⟩, ⟨f18, _, PySem.W.mg_of X G a18, fun_mk (st := s_18) l18 c18 k18⟩, ⟨f19, _, PySem.W.mg_of X G a19, fun_mk (st := s_19) l19 c19 k19⟩, ⟨f20, _, PySem.W.mg_of X G a20, fun_mk (st := s_20) l20 c20 k20⟩, ⟨f21, _, PySem.W.mg_of X G a21, fun_mk (st := s_21) l21 c21 k21⟩, ⟨f24, _, PySem.W.mg_of X G a24, fun_mk (st := s_24) l24 c24 k24⟩, ⟨f25, _, PySem.W.mg_of X G a25, fun_mk (st := s_25) l25 c25 k25⟩, ⟨f174, _, PySem.W.mg_of X G a174, fun_mk (st := s_174) l174 c174 k174⟩, ⟨f175, _, PySem.W.mg_of X G a175, fun_mk (st := s_175) l175 c175 k175⟩, ⟨f45, _, PySem.W.mg_of X G a45, fun_mk (st := s_45) l45 c45 k45⟩, ⟨f46, _, PySem.W.mg_of X G a46, fun_mk (st := s_46) l46 c46 k46⟩, ⟨f181, _, PySem.W.mg_of X G a181, fun_mk (st := s_181) l181 c181 k181⟩, ⟨f182, _, PySem.W.mg_of X G a182, fun_mk (st := s_182) l182 c182 k182⟩⟩
  have r_HourError : XRaw K "HourError" CHourError CHourError [.type "ValueError", .type "Exception", .type "BaseException", .type "object"] := ⟨xg_HourError, xg_HourError, by rw [if_pos rfl]; rfl, ⟨_, _, _, _, _, _, _, _, _, _, _, _, _, xl_HourError⟩, xsa_HourError, xga_HourError, xgt_HourError, xex_HourError, xhd_HourError, xca_HourError, cn_, ct_, xcm_HourError, xty_HourError, xkp_HourError, xi1_HourError, xi2_HourError, xi3_HourError, xi4_HourError, xi5_HourError⟩
  have r_InvalidZone : XRaw K "InvalidZone" CInvalidZone CHourError [.ref CHourError, .type "ValueError", .type "Exception", .type "BaseException", .type "object"] := ⟨xg_InvalidZone, xg_HourError, by rw [if_neg (by decide)]; rfl, ⟨_, _, _, _, _, _, _, _, _, _, _, _, _, xl_InvalidZone⟩, xsa_InvalidZone, xga_InvalidZone, xgt_InvalidZone, xex_InvalidZone, xhd_InvalidZone, xca_InvalidZone, cn_, ct_, xcm_InvalidZone, xty_InvalidZone, xkp_InvalidZone, xi1_InvalidZone, xi2_InvalidZone, xi3_InvalidZone, xi4_InvalidZone, xi5_InvalidZone⟩
  have r_Crowded : XRaw K "Crowded" CCrowded CHourError [.ref CHourError, .type "ValueError", .type "Exception", .type "BaseException", .type "object"] := ⟨xg_Crowded, xg_HourError, by rw [if_neg (by decide)]; rfl, ⟨_, _, _, _, _, _, _, _, _, _, _, _, _, xl_Crowded⟩, xsa_Crowded, xga_Crowded, xgt_Crowded, xex_Crowded, xhd_Crowded, xca_Crowded, cn_, ct_, xcm_Crowded, xty_Crowded, xkp_Crowded, xi1_Crowded, xi2_Crowded, xi3_Crowded, xi4_Crowded, xi5_Crowded⟩
  have i_Crowded : XIni l.prog K mg CCrowded ICrowded cc_Crowded cda_Crowded CHourError "Crowded.__init__" (clsInit (topS 3)) := ⟨xj_Crowded, xt_Crowded, ⟨_, _, _, _, _, xf_Crowded⟩, xc_Crowded, ⟨_, _, _, xcc_Crowded⟩, ⟨_, _, _, _, _, _, xk_Crowded, xv_Crowded, xw_Crowded⟩, xtop_, PySem.W.mg_none_of X G xu_, xh_, xo_, xs_Crowded, xm_Crowded⟩
  have m_Crowded : ∀ base : Heap, MkX l.prog w K mg base "Crowded" ["first", "last"] (defArgs (clsInit (topS 3))) := fun base => x_Crowded_mk r_Crowded r_HourError xne_Crowded i_Crowded (PySem.W.mg_of X G xg_Crowded) xn0_Crowded xn1_Crowded
  have Gx : Gs w K mg := ⟨PySem.W.mg_none_of X G n_all, PySem.W.mg_none_of X G n_bool, PySem.W.mg_none_of X G n_int, PySem.W.mg_none_of X G n_isinstance, PySem.W.mg_none_of X G n_len, PySem.W.mg_none_of X G n_list, PySem.W.mg_none_of X G n_range, PySem.W.mg_none_of X G n_str, PySem.W.mg_none_of X G n_tuple, PySem.W.mg_none_of X G n_zip, ⟨t_MOST_SPACING, PySem.W.mg_of X G c_MOST_SPACING⟩, ⟨t_MOST_OFFSETS, PySem.W.mg_of X G c_MOST_OFFSETS⟩, ⟨t_FARTHEST_OFFSET, PySem.W.mg_of X G c_FARTHEST_OFFSET⟩, mkM r_InvalidZone (PySem.W.mg_of X G xg_InvalidZone) xin_InvalidZone, ⟨_, r_HourError.xcl⟩⟩
  have e := hfa.symm.trans (PySem.W.mg_of X G a182)
  cases e
  refine ⟨PySem.W.fnOf "law" "law" (defArgs s_182) (defBody s_182) (defScope s_182) .none kV182 dc182 pm182 an182 cd182 ct182, fun s v => .of_eq rfl, fun base _ _ => ?_⟩
  obtain ⟨fa', fd', h1, h2, h3, h4⟩ := (all_ok (P := l.prog) (w := w) (base := base) F Gx ⟨m_Crowded base⟩ n).f182.ex
  have e2 := h1.symm.trans (PySem.W.mg_of X G a182)
  cases e2
  obtain ⟨oc, od, kV, doc, pm, an, cdv, ct, osl, e3, lk, hcd⟩ := h2.ex
  rw [lk] at l182
  have e4 := Option.some.inj l182
  injection e4 with e5 e6 e7 e8
  injection e7 with e9
  rw [← e9]
  exact h3
theorem walk {l : PySem.W.OpenLaw} {q : Program} {loose : List Str} {XP : (Str → Option Value) → Heap → Prop} {YP : World → Heap → Prop} {d : DefRec} {K : Params → PySem.W.Frag} (hn : l.most = some 63) (hdf : d.params.defaults = [])
    (hY : ∀ (w : World) (h : Heap), YP w h → (K w.params).In h)
    (F : ∀ (w : World) (mg : Str → Option Value) (fa : Addr) (h : Heap), (K w.params).In h → h.Ns mainGlobals mg → mg d.name = some (.ref fa) →
      ∃ fd : FuncData, (∀ (s : Shared) (u : Value), BindsTo s fd ⟨[u], []⟩ [("_law_script", u)]) ∧ ∀ base : Heap, (K w.params).In base → base.Ns mainGlobals mg → FnG l.prog w (K w.params) mg base lev fa fd P_182 (spF (K w.params) (run T lev) 182)) :
    PySem.W.WalkO q loose XP YP l.row.toRowW d [] (fun f vs => PySem.call f vs) :=
  walkG (n := 63) (k := lev) (x := "_law_script") (sp := fun w => spF (K w.params) (run T lev) 182) hn (by decide) hdf ⟨⟨rfl, by decide, by decide⟩, rfl⟩ hY F
    (fun w H a ns hl hb hO hS => by
      obtain ⟨S', e⟩ := law_true ns hl hb
      refine ⟨[], [], [.ro ns], .bl true, S', ⟨rfl, fun i j a h => by simp at h, fun k o a h => by simp at h⟩, Rps.one (.ro ?_), e, fun α' H' v _ _ r => by cases r; rfl⟩
      rcases hS with (h | h) | h
      · rcases hO a with z | ⟨o, xs, z⟩
        · rw [z] at h; cases h
        · rw [z] at h; cases h
      · exact .inl h
      · exact .inr h)
end Lw

open PySem PySem.W PyProof.Rows in
set_option maxRecDepth 100000 in
set_option maxHeartbeats 0 in
theorem PySem.Challenge.cw_hoursmeant_k03_tables_looked_at_holds : PySem.Challenge.rw_hoursmeant_k03_tables_looked_at.Holds := by
  w_on; o_law; k_head; (case hw => w_witness2)
  k_fill
  refine Lw.walk (l := PySem.Challenge.rw_hoursmeant_k03_tables_looked_at) rfl rfl (fun w h Y => PySem.W.kIn_of Y) ?F
  case F =>
    intro w mg fa h KX G hmg
    refine' Lw.all_mk KX G hmg ?a0 ?l0 ?c0 ?k0 ?a1 ?l1 ?c1 ?k1 ?a6 ?l6 ?c6 ?k6 ?a180 ?l180 ?c180 ?k180 ?a7 ?l7 ?c7 ?k7 ?a12 ?l12 ?c12 ?k12 ?a9 ?l9 ?c9 ?k9 ?a11 ?l11 ?c11 ?k11 ?a3 ?l3 ?c3 ?k3 ?a5 ?l5 ?c5 ?k5 ?a4 ?l4 ?c4 ?k4 ?a10 ?l10 ?c10 ?k10 ?a8 ?l8 ?c8 ?k8 ?a17 ?l17 ?c17 ?k17 ?a18 ?l18 ?c18 ?k18 ?a19 ?l19 ?c19 ?k19 ?a20 ?l20 ?c20 ?k20 ?a21 ?l21 ?c21 ?k21 ?a24 ?l24 ?c24 ?k24 ?a25 ?l25 ?c25 ?k25 ?a174 ?l174 ?c174 ?k174 ?a175 ?l175 ?c175 ?k175 ?a45 ?l45 ?c45 ?k45 ?a46 ?l46 ?c46 ?k46 ?a181 ?l181 ?c181 ?k181 ?a182 ?l182 ?c182 ?k182 ?n_all ?n_bool ?n_int ?n_isinstance ?n_len ?n_list ?n_range ?n_str ?n_tuple ?n_zip ?c_MOST_SPACING ?c_MOST_OFFSETS ?c_FARTHEST_OFFSET ?cn_ ?ct_ ?xg_HourError ?xl_HourError ?xsa_HourError ?xga_HourError ?xgt_HourError ?xex_HourError ?xhd_HourError ?xca_HourError ?xcm_HourError ?xty_HourError ?xkp_HourError ?xi1_HourError ?xi2_HourError ?xi3_HourError ?xi4_HourError ?xi5_HourError ?xg_InvalidZone ?xl_InvalidZone ?xsa_InvalidZone ?xga_InvalidZone ?xgt_InvalidZone ?xex_InvalidZone ?xhd_InvalidZone ?xca_InvalidZone ?xcm_InvalidZone ?xty_InvalidZone ?xkp_InvalidZone ?xi1_InvalidZone ?xi2_InvalidZone ?xi3_InvalidZone ?xi4_InvalidZone ?xi5_InvalidZone ?xin_InvalidZone ?xg_Crowded ?xl_Crowded ?xsa_Crowded ?xga_Crowded ?xgt_Crowded ?xex_Crowded ?xhd_Crowded ?xca_Crowded ?xcm_Crowded ?xty_Crowded ?xkp_Crowded ?xi1_Crowded ?xi2_Crowded ?xi3_Crowded ?xi4_Crowded ?xi5_Crowded ?xh_ ?xo_ ?xu_ ?xtop_ ?xj_Crowded ?xt_Crowded ?xf_Crowded ?xc_Crowded ?xcc_Crowded ?xk_Crowded ?xv_Crowded ?xw_Crowded ?xs_Crowded ?xm_Crowded ?xne_Crowded ?xn0_Crowded ?xn1_Crowded Lw.lev
    (case a0 => k_is)
    (case l0 => k_is)
    (case c0 => k_is)
    (case k0 => k_is)
    (case a1 => k_is)
    (case l1 => k_is)
    (case c1 => k_is)
    (case k1 => k_is)
    (case a6 => k_is)
    (case l6 => k_is)
    (case c6 => k_is)
    (case k6 => k_is)
    (case a180 => k_is)
    (case l180 => k_is)
    (case c180 => k_is)
    (case k180 => k_is)
    (case a7 => k_is)
    (case l7 => k_is)
    (case c7 => k_is)
    (case k7 => k_is)
    (case a12 => k_is)
    (case l12 => k_is)
    (case c12 => k_is)
    (case k12 => k_is)
    (case a9 => k_is)
    (case l9 => k_is)
    (case c9 => k_is)
    (case k9 => k_is)
    (case a11 => k_is)
    (case l11 => k_is)
    (case c11 => k_is)
    (case k11 => k_is)
    (case a3 => k_is)
    (case l3 => k_is)
    (case c3 => k_is)
    (case k3 => k_is)
    (case a5 => k_is)
    (case l5 => k_is)
    (case c5 => k_is)
    (case k5 => k_is)
    (case a4 => k_is)
    (case l4 => k_is)
    (case c4 => k_is)
    (case k4 => k_is)
    (case a10 => k_is)
    (case l10 => k_is)
    (case c10 => k_is)
    (case k10 => k_is)
    (case a8 => k_is)
    (case l8 => k_is)
    (case c8 => k_is)
    (case k8 => k_is)
    (case a17 => k_is)
    (case l17 => k_is)
    (case c17 => k_is)
    (case k17 => k_is)
    (case a18 => k_is)
    (case l18 => k_is)
    (case c18 => k_is)
    (case k18 => k_is)
    (case a19 => k_is)
    (case l19 => k_is)
    (case c19 => k_is)
    (case k19 => k_is)
    (case a20 => k_is)
    (case l20 => k_is)
    (case c20 => k_is)
    (case k20 => k_is)
    (case a21 => k_is)
    (case l21 => k_is)
    (case c21 => k_is)
    (case k21 => k_is)
    (case a24 => k_is)
    (case l24 => k_is)
    (case c24 => k_is)
    (case k24 => k_is)
    (case a25 => k_is)
    (case l25 => k_is)
    (case c25 => k_is)
    (case k25 => k_is)
    (case a174 => k_is)
    (case l174 => k_is)
    (case c174 => k_is)
    (case k174 => k_is)
    (case a175 => k_is)
    (case l175 => k_is)
    (case c175 => k_is)
    (case k175 => k_is)
    (case a45 => k_is)
    (case l45 => k_is)
    (case c45 => k_is)
    (case k45 => k_is)
    (case a46 => k_is)
    (case l46 => k_is)
    (case c46 => k_is)
    (case k46 => k_is)
    (case a181 => k_is)
    (case l181 => k_is)
    (case c181 => k_is)
    (case k181 => k_is)
    (case a182 => k_is)
    (case l182 => k_is)
    (case c182 => k_is)
    (case k182 => k_is)
    (case n_all => k_is)
    (case n_bool => k_is)
    (case n_int => k_is)
    (case n_isinstance => k_is)
    (case n_len => k_is)
    (case n_list => k_is)
    (case n_range => k_is)
    (case n_str => k_is)
    (case n_tuple => k_is)
    (case n_zip => k_is)
    (case c_MOST_SPACING => k_is)
    (case c_MOST_OFFSETS => k_is)
    (case c_FARTHEST_OFFSET => k_is)
    (case cn_ => k_is)
    (case ct_ => k_is)
    (case xg_HourError => k_is)
    (case xl_HourError => k_is)
    (case xsa_HourError => k_is)
    (case xga_HourError => k_is)
    (case xgt_HourError => k_is)
    (case xex_HourError => k_is)
    (case xhd_HourError => k_is)
    (case xca_HourError => k_is)
    (case xcm_HourError => k_is)
    (case xty_HourError => k_is)
    (case xkp_HourError => k_is)
    (case xi1_HourError => k_is)
    (case xi2_HourError => k_is)
    (case xi3_HourError => k_is)
    (case xi4_HourError => k_is)
    (case xi5_HourError => k_is)
    (case xg_InvalidZone => k_is)
    (case xl_InvalidZone => k_is)
    (case xsa_InvalidZone => k_is)
    (case xga_InvalidZone => k_is)
    (case xgt_InvalidZone => k_is)
    (case xex_InvalidZone => k_is)
    (case xhd_InvalidZone => k_is)
    (case xca_InvalidZone => k_is)
    (case xcm_InvalidZone => k_is)
    (case xty_InvalidZone => k_is)
    (case xkp_InvalidZone => k_is)
    (case xi1_InvalidZone => k_is)
    (case xi2_InvalidZone => k_is)
    (case xi3_InvalidZone => k_is)
    (case xi4_InvalidZone => k_is)
    (case xi5_InvalidZone => k_is)
    (case xin_InvalidZone => k_is)
    (case xg_Crowded => k_is)
    (case xl_Crowded => k_is)
    (case xsa_Crowded => k_is)
    (case xga_Crowded => k_is)
    (case xgt_Crowded => k_is)
    (case xex_Crowded => k_is)
    (case xhd_Crowded => k_is)
    (case xca_Crowded => k_is)
    (case xcm_Crowded => k_is)
    (case xty_Crowded => k_is)
    (case xkp_Crowded => k_is)
    (case xi1_Crowded => k_is)
    (case xi2_Crowded => k_is)
    (case xi3_Crowded => k_is)
    (case xi4_Crowded => k_is)
    (case xi5_Crowded => k_is)
    (case xh_ => k_is)
    (case xo_ => k_is)
    (case xu_ => k_is)
    (case xtop_ => first | rfl | decide | (decide +kernel))
    (case xj_Crowded => k_is)
    (case xt_Crowded => k_is)
    (case xf_Crowded => k_is)
    (case xc_Crowded => k_is)
    (case xcc_Crowded => k_is)
    (case xk_Crowded => k_is)
    (case xv_Crowded => rfl)
    (case xw_Crowded => first | rfl | decide | (decide +kernel))
    (case xs_Crowded => k_is)
    (case xm_Crowded => k_is)
    (case xne_Crowded => decide)
    (case xn0_Crowded => k_is)
    (case xn1_Crowded => k_is)


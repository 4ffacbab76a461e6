import PyProof.Rows.All
import Wide.All
import OpenK.AllK
import Wide.FinOn
import PySem.Challenge.RW_knotsorts_k08_rows_that_are_paths
import HandS.ForMost
import HandS.Wide
import HandS.WideBits
import HandS.Deep
import HandS.IsInst
import HandS.Sort
import HandS.Conv
import HandS.Defaults
import HandS.MakeKwOnly
import HandS.RaiseMore
import HandS.Ends
import HandS.SortInts
import HandS.Exc
import HandS.ExcOwn
import HandS.WordsExc
import HandS.ExcInit
import HandS.ExcField
import HandS.CallSlots
import HandS.Dict
import KE.KExcIs
import HandS.ExcIs
import HandS.SortRule
import HandS.Iter
import HandS.Style
set_option Elab.async false
set_option linter.all false
set_option maxRecDepth 100000
set_option maxHeartbeats 4000000
/-! Trees: Python's values as trees of data, the lists that a def changes by what holds them, and when a reading keeps to a plain function over them. -/
namespace Tr
open PySem PySem.Spec PyProof.Rows L2

/-! ### two lists side by side -/
inductive All2 {α β : Type} (R : α → β → Prop) : List α → List β → Prop
  | nil : All2 R [] []
  | cons {a : α} {b : β} {as : List α} {bs : List β} : R a b → All2 R as bs → All2 R (a :: as) (b :: bs)
namespace All2
variable {α β : Type} {R S : α → β → Prop}
theorem len : ∀ {as : List α} {bs : List β}, All2 R as bs → as.length = bs.length
  | _, _, .nil => rfl
  | _, _, .cons _ t => by simp [t.len]
theorem mono (h : ∀ a b, R a b → S a b) : ∀ {as : List α} {bs : List β}, All2 R as bs → All2 S as bs
  | _, _, .nil => .nil
  | _, _, .cons r t => .cons (h _ _ r) (t.mono h)
theorem monoM : ∀ {as : List α} {bs : List β}, All2 R as bs → (∀ a b, a ∈ as → b ∈ bs → R a b → S a b) → All2 S as bs
  | _, _, .nil, _ => .nil
  | _, _, .cons r t, h => .cons (h _ _ (by simp) (by simp) r) (t.monoM fun a b x y => h a b (by simp [x]) (by simp [y]))
theorem get : ∀ {as : List α} {bs : List β} {i : Nat} {a : α}, All2 R as bs → as[i]? = some a → ∃ b, bs[i]? = some b ∧ R a b
  | _, _, _, _, .nil, h => by simp at h
  | _, _, 0, _, .cons r t, h => by simp at h; subst h; exact ⟨_, rfl, r⟩
  | _, _, i + 1, a, .cons r t, h => by
    rw [List.getElem?_cons_succ] at h
    obtain ⟨b, e, x⟩ := t.get h
    exact ⟨b, by rw [List.getElem?_cons_succ]; exact e, x⟩
theorem getR : ∀ {as : List α} {bs : List β} {i : Nat} {b : β}, All2 R as bs → bs[i]? = some b → ∃ a, as[i]? = some a ∧ R a b
  | _, _, _, _, .nil, h => by simp at h
  | _, _, 0, _, .cons r t, h => by simp at h; subst h; exact ⟨_, rfl, r⟩
  | _, _, i + 1, b, .cons r t, h => by
    rw [List.getElem?_cons_succ] at h
    obtain ⟨a, e, x⟩ := t.getR h
    exact ⟨a, by rw [List.getElem?_cons_succ]; exact e, x⟩
theorem app : ∀ {as as' : List α} {bs bs' : List β}, All2 R as bs → All2 R as' bs' → All2 R (as ++ as') (bs ++ bs')
  | _, _, _, _, .nil, s => s
  | _, _, _, _, .cons r t, s => .cons r (t.app s)
theorem take : ∀ {as : List α} {bs : List β} (n : Nat), All2 R as bs → All2 R (as.take n) (bs.take n)
  | _, _, 0, _ => .nil
  | _, _, _ + 1, .nil => .nil
  | _, _, n + 1, .cons r t => .cons r (t.take n)
theorem drop : ∀ {as : List α} {bs : List β} (n : Nat), All2 R as bs → All2 R (as.drop n) (bs.drop n)
  | _, _, 0, h => h
  | _, _, _ + 1, .nil => .nil
  | _, _, n + 1, .cons _ t => t.drop n
theorem set : ∀ {as : List α} {bs : List β} (n : Nat) {a : α} {b : β}, All2 R as bs → R a b → All2 R (as.set n a) (bs.set n b)
  | _, _, _, _, _, .nil, _ => .nil
  | _, _, 0, _, _, .cons _ t, x => .cons x t
  | _, _, n + 1, _, _, .cons r t, x => .cons r (t.set n x)
theorem erase : ∀ {as : List α} {bs : List β} (n : Nat), All2 R as bs → All2 R (as.eraseIdx n) (bs.eraseIdx n)
  | _, _, _, .nil => .nil
  | _, _, 0, .cons _ t => t
  | _, _, n + 1, .cons r t => .cons r (t.erase n)
theorem rep {as : List α} {bs : List β} (h : All2 R as bs) : ∀ n : Nat, All2 R (List.replicate n as).flatten (List.replicate n bs).flatten
  | 0 => .nil
  | n + 1 => by rw [List.replicate_succ, List.replicate_succ, List.flatten_cons, List.flatten_cons]; exact h.app (h.rep n)
theorem dropLast : ∀ {as : List α} {bs : List β}, All2 R as bs → All2 R as.dropLast bs.dropLast
  | _, _, h => by rw [List.dropLast_eq_take, List.dropLast_eq_take, ← h.len]; exact h.take _
theorem rev : ∀ {as : List α} {bs : List β}, All2 R as bs → All2 R as.reverse bs.reverse
  | _, _, .nil => .nil
  | _, _, .cons r t => by rw [List.reverse_cons, List.reverse_cons]; exact t.rev.app (.cons r .nil)
theorem snoc {as : List α} {bs : List β} {a : α} {b : β} (h : All2 R as bs) (r : R a b) : All2 R (as ++ [a]) (bs ++ [b]) := h.app (.cons r .nil)
end All2

/-! ### data held by what never changes any more -/
mutual
/-- v is the data d, all of whose lists stand in F -/
def Rp (F : Hp) : PyData → V → Prop
  | .none, v => v = .non
  | .bool b, v => v = .bl b
  | .int i, v => v = .int i
  | .str s, v => v = .str s
  | .list ds, v => ∃ a vs, v = .ref a ∧ F a = some (.lst vs) ∧ Rps F ds vs
  | .tuple ds, v => ∃ a vs, v = .ref a ∧ F a = some (.tup vs) ∧ Rps F ds vs
  | .dict kvs, v => kvs = [] ∧ ∃ a, v = .ref a ∧ F a = some (.dK [])
def Rps (F : Hp) : List PyData → List V → Prop
  | [], vs => vs = []
  | d :: ds, vs => ∃ v r, vs = v :: r ∧ Rp F d v ∧ Rps F ds r
end
/-- what H has stands in H' -/
def Ex (H H' : Hp) : Prop := ∀ a o, H a = some o → H' a = some o
theorem Ex.refl (H : Hp) : Ex H H := fun _ _ h => h
theorem Ex.trans {H H1 H2 : Hp} (a : Ex H H1) (b : Ex H1 H2) : Ex H H2 := fun x o h => b x o (a x o h)
theorem Ex.new {H : Hp} {p : Addr} {o : HO} (h : H p = none) : Ex H (upd H p o) := fun a u e => by
  rw [upd_ne (ne_of_none e h)]
  exact e
theorem Ex.none {H H' : Hp} (e : Ex H H') {p : Addr} (h : H' p = Option.none) : H p = Option.none := by
  cases q : H p with
  | none => rfl
  | some o => rw [e p o q] at h; cases h

theorem rps_iff {F : Hp} : ∀ {ds : List PyData} {vs : List V}, Rps F ds vs ↔ All2 (Rp F) ds vs
  | [], vs => by
    constructor
    · intro h; have h' : vs = [] := h; subst h'; exact .nil
    · intro h; cases h; rfl
  | d :: ds, vs => by
    constructor
    · intro h
      obtain ⟨v, r, rfl, h1, h2⟩ := h
      exact .cons h1 (rps_iff.mp h2)
    · intro h
      cases h with
      | cons h1 h2 => exact ⟨_, _, rfl, h1, rps_iff.mpr h2⟩
theorem rp_list {F : Hp} {ds : List PyData} {v : V} : Rp F (.list ds) v ↔ ∃ a vs, v = .ref a ∧ F a = some (.lst vs) ∧ All2 (Rp F) ds vs := by
  constructor
  · rintro ⟨a, vs, e, h, r⟩; exact ⟨a, vs, e, h, rps_iff.mp r⟩
  · rintro ⟨a, vs, e, h, r⟩; exact ⟨a, vs, e, h, rps_iff.mpr r⟩
theorem rp_tuple {F : Hp} {ds : List PyData} {v : V} : Rp F (.tuple ds) v ↔ ∃ a vs, v = .ref a ∧ F a = some (.tup vs) ∧ All2 (Rp F) ds vs := by
  constructor
  · rintro ⟨a, vs, e, h, r⟩; exact ⟨a, vs, e, h, rps_iff.mp r⟩
  · rintro ⟨a, vs, e, h, r⟩; exact ⟨a, vs, e, h, rps_iff.mpr r⟩
mutual
theorem Rp.mono {F F' : Hp} (e : Ex F F') : ∀ {d : PyData} {v : V}, Rp F d v → Rp F' d v
  | .none, _, h => h
  | .bool _, _, h => h
  | .int _, _, h => h
  | .str _, _, h => h
  | .list ds, v, h => by
    obtain ⟨a, vs, q, h1, h2⟩ := h
    exact ⟨a, vs, q, e _ _ h1, Rps.mono e h2⟩
  | .tuple ds, v, h => by
    obtain ⟨a, vs, q, h1, h2⟩ := h
    exact ⟨a, vs, q, e _ _ h1, Rps.mono e h2⟩
  | .dict _, v, h => by
    obtain ⟨z, a, q, h1⟩ := h
    exact ⟨z, a, q, e _ _ h1⟩
theorem Rps.mono {F F' : Hp} (e : Ex F F') : ∀ {ds : List PyData} {vs : List V}, Rps F ds vs → Rps F' ds vs
  | [], _, h => h
  | d :: ds, _, h => by
    obtain ⟨v, r, q, h1, h2⟩ := h
    exact ⟨v, r, q, Rp.mono e h1, Rps.mono e h2⟩
end
theorem all_mono {F F' : Hp} (e : Ex F F') {ds : List PyData} {vs : List V} (h : All2 (Rp F) ds vs) : All2 (Rp F') ds vs := h.mono fun _ _ => Rp.mono e
mutual
theorem Rp.dp {K : PySem.W.Frag} {F H : Hp} (e : Ex F H) : ∀ {d : PyData} {v : V}, Rp F d v → d.canLay0 = true → Dp K H v d
  | .none, _, h, _ => by have h' : _ = _ := h; subst h'; exact .non
  | .bool _, _, h, _ => by have h' : _ = _ := h; subst h'; exact .bl _
  | .int _, _, h, _ => by have h' : _ = _ := h; subst h'; exact .int _
  | .str _, _, h, _ => by have h' : _ = _ := h; subst h'; exact .str _
  | .list ds, v, h, c => by
    obtain ⟨a, vs, rfl, h1, h2⟩ := h
    exact .lst (SqL.of (e _ _ h1)) (Rps.dp e h2 (by simpa [PyData.canLay0] using c))
  | .tuple ds, v, h, c => by
    obtain ⟨a, vs, rfl, h1, h2⟩ := h
    exact .tup (SqT.of (e _ _ h1)) (Rps.dp e h2 (by simpa [PyData.canLay0] using c))
  | .dict _, _, _, c => nomatch c
theorem Rps.dp {K : PySem.W.Frag} {F H : Hp} (e : Ex F H) : ∀ {ds : List PyData} {vs : List V}, Rps F ds vs → PyData.canLayAll0 ds = true → DpAll K H vs ds
  | [], _, h, _ => by have h' : _ = _ := h; subst h'; exact .nil
  | d :: ds, _, h, c => by
    obtain ⟨v, r, rfl, h1, h2⟩ := h
    have c' : d.canLay0 = true ∧ PyData.canLayAll0 ds = true := by simpa [PyData.canLayAll0] using c
    exact .cons (Rp.dp e h1 c'.1) (Rps.dp e h2 c'.2)
end
theorem dpAll_of {K : PySem.W.Frag} {F H : Hp} (e : Ex F H) {ds : List PyData} {vs : List V} (h : All2 (Rp F) ds vs) (c : PyData.canLayAll0 ds = true) : DpAll K H vs ds := Rps.dp e (rps_iff.mpr h) c

/-! ### what a name holds -/
inductive O where
  /-- data that never change any more -/
  | fz (d : PyData)
  /-- a range object -/
  | rg (lo hi : Int)
  /-- a list that this name alone holds; a list of such lists -/
  | ow (ds : List PyData) | ow2 (rows : List (List PyData))
  /-- the script, of the written part K or not -/
  | sc (K : PySem.W.Frag) (ns : List Int)
  /-- a tuple of texts of the module's top -/
  | kt (K : PySem.W.Frag) (xs : List Str)
abbrev En := List (Option O)
def Own (F H : Hp) (o : O) (v : V) (S : Addr → Prop) : Prop := match o with
  | .fz d => Rp F d v
  | .rg lo hi => ∃ a, v = .ref a ∧ F a = some (.rng lo hi)
  | .sc K ns => ∃ a, v = .ref a ∧ SqL K F a (ns.map V.int)
  | .kt K xs => ∃ a, v = .ref a ∧ SqT K F a (xs.map V.str)
  | .ow ds => ∃ a vs, v = .ref a ∧ S a ∧ H a = some (.lst vs) ∧ All2 (Rp F) ds vs
  | .ow2 rows => ∃ a rs, v = .ref a ∧ S a ∧ H a = some (.lst (rs.map V.ref)) ∧ a ∉ rs ∧ rs.Nodup ∧ All2 (fun row r => S r ∧ ∃ vs, H r = some (.lst vs) ∧ All2 (Rp F) row vs) rows rs
theorem ex_sq {K : PySem.W.Frag} {F F' : Hp} {a : Addr} {xs : List V} (e : Ex F F') (h : SqL K F a xs) : SqL K F' a xs := by
  rcases h with (h | ⟨o, h⟩) | h
  · exact .inl (.inl (e _ _ h))
  · exact .inl (.inr ⟨o, e _ _ h⟩)
  · exact .inr h
theorem ex_sqT {K : PySem.W.Frag} {F F' : Hp} {a : Addr} {xs : List V} (e : Ex F F') (h : SqT K F a xs) : SqT K F' a xs := by
  rcases h with (h | ⟨o, h⟩) | h
  · exact .inl (.inl (e _ _ h))
  · exact .inl (.inr ⟨o, e _ _ h⟩)
  · exact .inr h
structure REnv (F H : Hp) (σ : L2.St) (env : En) (Sl : Nat → Addr → Prop) : Prop where
  ex : Ex F H
  len : σ.length = env.length
  at_ : ∀ i o, env[i]? = some (some o) → ∃ v, σ[i]? = some (some v) ∧ Own F H o v (Sl i)
  dj : ∀ i j a, Sl i a → Sl j a → i = j
  tr : ∀ i a, Sl i a → F a = none ∧ ∃ o, H a = some o
structure Step (F H : Hp) (Sl : Nat → Addr → Prop) (F' H' : Hp) (Sl' : Nat → Addr → Prop) : Prop where
  exF : Ex F F'
  fr : ∀ b o, H b = some o → (∀ i, ¬ Sl i b) → H' b = some o
  tk : ∀ b o, H b = some o → ∃ o', H' b = some o'
  own : ∀ i b, Sl' i b → Sl i b ∨ H b = none
  fz : ∀ b o, F' b = some o → F b = some o ∨ H b = none ∨ ∃ i, Sl i b
theorem Step.refl {F H : Hp} {Sl : Nat → Addr → Prop} : Step F H Sl F H Sl := ⟨Ex.refl F, fun _ _ h _ => h, fun _ _ h => ⟨_, h⟩, fun _ _ h => .inl h, fun _ _ h => .inl h⟩
theorem Step.trans {F H F1 H1 F2 H2 : Hp} {Sl Sl1 Sl2 : Nat → Addr → Prop} (a : Step F H Sl F1 H1 Sl1) (b : Step F1 H1 Sl1 F2 H2 Sl2) : Step F H Sl F2 H2 Sl2 := by
  have back : ∀ c, H1 c = none → H c = none := fun c h => by
    cases q : H c with
    | none => rfl
    | some o => obtain ⟨o', e⟩ := a.tk c o q; rw [e] at h; cases h
  refine ⟨a.exF.trans b.exF, fun c o h n => b.fr c o (a.fr c o h n) fun i z => ?_, fun c o h => ?_, fun i c h => ?_, fun c o h => ?_⟩
  · rcases a.own i c z with z | z
    · exact n i z
    · rw [h] at z; cases z
  · obtain ⟨o', e⟩ := a.tk c o h
    exact b.tk c o' e
  · rcases b.own i c h with z | z
    · exact a.own i c z
    · exact .inr (back c z)
  · rcases b.fz c o h with z | z | ⟨i, z⟩
    · exact a.fz c o z
    · exact .inr (.inl (back c z))
    · rcases a.own i c z with y | y
      · exact .inr (.inr ⟨i, y⟩)
      · exact .inr (.inl y)
/-- only new things, tracked and fixed or not -/
theorem Step.grow {F H F' H' : Hp} {Sl : Nat → Addr → Prop} (a : Ex F F') (b : Ex H H') (c : ∀ x o, F' x = some o → F x = some o ∨ H x = none) : Step F H Sl F' H' Sl :=
  ⟨a, fun x o h _ => b x o h, fun x o h => ⟨o, b x o h⟩, fun _ _ h => .inl h, fun x o h => (c x o h).elim .inl fun z => .inr (.inl z)⟩
theorem Own.ext {F H F' H' : Hp} {o : O} {v : V} {S : Addr → Prop} (h : Own F H o v S) (e : Ex F F') (k : ∀ a u, S a → H a = some u → H' a = some u) : Own F' H' o v S := by
  cases o with
  | fz d => exact Rp.mono e h
  | rg lo hi => obtain ⟨a, q, h⟩ := h; exact ⟨a, q, e _ _ h⟩
  | sc K ns => obtain ⟨a, q, h⟩ := h; exact ⟨a, q, ex_sq e h⟩
  | kt K xs => obtain ⟨a, q, h⟩ := h; exact ⟨a, q, ex_sqT e h⟩
  | ow ds => obtain ⟨a, vs, q, s, h, r⟩ := h; exact ⟨a, vs, q, s, k _ _ s h, all_mono e r⟩
  | ow2 rows =>
    obtain ⟨a, rs, q, s, h, n, nd, r⟩ := h
    exact ⟨a, rs, q, s, k _ _ s h, n, nd, r.mono fun row x ⟨s', vs, h', r'⟩ => ⟨s', vs, k _ _ s' h', all_mono e r'⟩⟩
theorem Own.sub {F H : Hp} {o : O} {v : V} {S T : Addr → Prop} (h : Own F H o v S) (k : ∀ a, S a → T a) : Own F H o v T := by
  cases o with
  | fz d => exact h
  | rg lo hi => exact h
  | sc K ns => exact h
  | kt K xs => exact h
  | ow ds => obtain ⟨a, vs, q, s, h, r⟩ := h; exact ⟨a, vs, q, k _ s, h, r⟩
  | ow2 rows =>
    obtain ⟨a, rs, q, s, h, n, nd, r⟩ := h
    exact ⟨a, rs, q, k _ s, h, n, nd, r.mono fun row x ⟨s', z⟩ => ⟨k _ s', z⟩⟩
/-- what the names hold stands where only new things came -/
theorem REnv.grow {F H F' H' : Hp} {σ : L2.St} {env : En} {Sl : Nat → Addr → Prop} (R : REnv F H σ env Sl) (a : Ex F F') (b : Ex H H') (d : Ex F' H') (c : ∀ x o, F' x = some o → F x = some o ∨ H x = none) : REnv F' H' σ env Sl := by
  refine ⟨d, R.len, fun i o h => ?_, R.dj, fun i x h => ?_⟩
  · obtain ⟨v, e, w⟩ := R.at_ i o h
    exact ⟨v, e, w.ext a fun x u _ q => b x u q⟩
  · obtain ⟨h1, o, h2⟩ := R.tr i x h
    refine ⟨?_, o, b _ _ h2⟩
    cases q : F' x with
    | none => rfl
    | some u =>
      rcases c x u q with z | z
      · rw [h1] at z; cases z
      · rw [h2] at z; cases z

/-! ### what an expression gives: data, or the very list that a name holds -/
inductive P where | val (d : PyData) | var (i : Nat) | k (K : PySem.W.Frag) (xs : List Str)
def RP (F : Hp) (σ : L2.St) (v : V) : P → Prop
  | .val d => Rp F d v
  | .var i => σ[i]? = some (some v)
  | .k K xs => ∃ a, v = .ref a ∧ SqT K F a (xs.map V.str)
theorem RP.mono {F F' : Hp} {σ : L2.St} {v : V} {p : P} (e : Ex F F') (h : RP F σ v p) : RP F' σ v p := by
  cases p with
  | val d => exact Rp.mono e h
  | var i => exact h
  | k K xs => obtain ⟨a, q, h⟩ := h; exact ⟨a, q, ex_sqT e h⟩
def vw (env : En) : P → Option PyData
  | .val d => some d
  | .var i => match env[i]? with
    | some (some (.fz d)) => some d
    | some (some (.ow ds)) => some (.list ds)
    | some (some (.ow2 rows)) => some (.list (rows.map .list))
    | _ => none
  | .k _ _ => none
/-- a list whose items are fixed -/
def sq (env : En) : P → Option (List PyData)
  | .val (.list ds) => some ds
  | .var i => match env[i]? with
    | some (some (.fz (.list ds))) => some ds
    | some (some (.ow ds)) => some ds
    | _ => none
  | _ => none
theorem vw_rp {F H : Hp} {σ : L2.St} {env : En} {Sl : Nat → Addr → Prop} {v : V} {p : P} {d : PyData} (R : REnv F H σ env Sl) (h : RP F σ v p) (e : vw env p = some d) : Rp H d v := by
  cases p with
  | val d' =>
    have e' : some d' = some d := e
    cases e'
    exact Rp.mono R.ex h
  | var i =>
    simp only [vw] at e
    split at e
    · rename_i d' he
      cases e
      obtain ⟨v', e1, w⟩ := R.at_ i _ he
      rw [show σ[i]? = some (some v) from h] at e1
      cases e1
      exact Rp.mono R.ex w
    · rename_i ds he
      cases e
      obtain ⟨v', e1, a, vs, q, s, hH, r⟩ := R.at_ i _ he
      rw [show σ[i]? = some (some v) from h] at e1
      cases e1
      exact rp_list.mpr ⟨a, vs, q, hH, all_mono R.ex r⟩
    · rename_i rows he
      cases e
      obtain ⟨v', e1, a, rs, q, s, hH, n, nd, r⟩ := R.at_ i _ he
      rw [show σ[i]? = some (some v) from h] at e1
      cases e1
      refine rp_list.mpr ⟨a, _, q, hH, ?_⟩
      clear hH n nd s he h
      induction r with
      | nil => exact .nil
      | cons x t ih =>
        obtain ⟨_, vs, h1, h2⟩ := x
        exact .cons (rp_list.mpr ⟨_, vs, rfl, h1, all_mono R.ex h2⟩) ih
    · cases e
  | k K xs => cases e
theorem vw_dp {K : PySem.W.Frag} {F H : Hp} {σ : L2.St} {env : En} {Sl : Nat → Addr → Prop} {v : V} {p : P} {d : PyData} (R : REnv F H σ env Sl) (h : RP F σ v p) (e : vw env p = some d) (c : d.canLay0 = true) : Dp K H v d := Rp.dp (Ex.refl H) (vw_rp R h e) c
theorem sq_of {F H : Hp} {σ : L2.St} {env : En} {Sl : Nat → Addr → Prop} {v : V} {p : P} {ds : List PyData} (R : REnv F H σ env Sl) (h : RP F σ v p) (e : sq env p = some ds) : ∃ a vs, v = .ref a ∧ H a = some (.lst vs) ∧ All2 (Rp F) ds vs := by
  unfold sq at e
  split at e
  · cases e
    obtain ⟨a, vs, q, h1, h2⟩ := rp_list.mp h
    exact ⟨a, vs, q, R.ex _ _ h1, h2⟩
  · rename_i i
    split at e
    · rename_i ds' he
      cases e
      obtain ⟨v', e1, w⟩ := R.at_ i _ he
      rw [show σ[i]? = some (some v) from h] at e1
      cases e1
      obtain ⟨a, vs, q, h1, h2⟩ := rp_list.mp w
      exact ⟨a, vs, q, R.ex _ _ h1, h2⟩
    · rename_i ds' he
      cases e
      obtain ⟨v', e1, a, vs, q, s, hH, r⟩ := R.at_ i _ he
      rw [show σ[i]? = some (some v) from h] at e1
      cases e1
      exact ⟨a, vs, q, hH, r⟩
    · cases e
  · cases e
end Tr
namespace Tr
open PySem PySem.Spec PyProof.Rows L2

/-! ### a held list is let go: it never changes from now on -/
def fzP (env : En) : P → Option (PyData × En)
  | .val d => some (d, env)
  | .var i => match env[i]? with
    | some (some (.fz d)) => some (d, env)
    | some (some (.ow ds)) => some (.list ds, env.set i (some (.fz (.list ds))))
    | some (some (.ow2 rows)) => some (.list (rows.map .list), env.set i (some (.fz (.list (rows.map .list)))))
    | _ => none
  | .k _ _ => none
theorem set_at {α : Type} {l : List α} {i j : Nat} {a b : α} (h : (l.set i a)[j]? = some b) : (j = i ∧ b = a ∧ i < l.length) ∨ (j ≠ i ∧ l[j]? = some b) := by
  by_cases e : j = i
  · subst e
    rw [List.getElem?_set] at h
    simp only [if_true] at h
    split at h
    · rename_i hl
      exact .inl ⟨rfl, (Option.some.inj h).symm, hl⟩
    · cases h
  · rw [List.getElem?_set_ne (Ne.symm e)] at h
    exact .inr ⟨e, h⟩
open Classical in
/-- what the places at S hold is fixed -/
noncomputable def fixed (F H : Hp) (S : Addr → Prop) : Hp := fun b => if S b then H b else F b
theorem fixed_in {F H : Hp} {S : Addr → Prop} {b : Addr} (h : S b) : fixed F H S b = H b := by unfold fixed; rw [if_pos h]
theorem fixed_out {F H : Hp} {S : Addr → Prop} {b : Addr} (h : ¬ S b) : fixed F H S b = F b := by unfold fixed; rw [if_neg h]
/-- the data of a held thing, as a list that is let go -/
def O.dat : O → Option PyData
  | .fz d => some d
  | .ow ds => some (.list ds)
  | .ow2 rows => some (.list (rows.map .list))
  | .rg _ _ => none
  | .sc _ _ => none
  | .kt _ _ => none
theorem Own.fix {F H : Hp} {o : O} {v : V} {S : Addr → Prop} {d : PyData} (h : Own F H o v S) (tr : ∀ a, S a → F a = none) (e : o.dat = some d) : Rp (fixed F H S) d v := by
  have ex : Ex F (fixed F H S) := fun a u q => by
    rw [fixed_out (fun z => by rw [tr a z] at q; cases q)]
    exact q
  cases o with
  | fz d' => cases e; exact Rp.mono ex h
  | rg _ _ => cases e
  | sc _ _ => cases e
  | kt _ _ => cases e
  | ow ds =>
    cases e
    obtain ⟨a, vs, q, s, hH, r⟩ := h
    exact rp_list.mpr ⟨a, vs, q, by rw [fixed_in s]; exact hH, all_mono ex r⟩
  | ow2 rows =>
    cases e
    obtain ⟨a, rs, q, s, hH, n, nd, r⟩ := h
    refine rp_list.mpr ⟨a, _, q, by rw [fixed_in s]; exact hH, ?_⟩
    clear hH n nd
    induction r with
    | nil => exact .nil
    | cons x t ih =>
      obtain ⟨s', vs, h1, h2⟩ := x
      exact .cons (rp_list.mpr ⟨_, vs, rfl, by rw [fixed_in s']; exact h1, all_mono ex h2⟩) ih
/-- the set of the place i is let go -/
def lose (Sl : Nat → Addr → Prop) (i : Nat) : Nat → Addr → Prop := fun j a => j ≠ i ∧ Sl j a
theorem REnv.fix {F H : Hp} {σ : L2.St} {env : En} {Sl : Nat → Addr → Prop} {i : Nat} {o : O} {v : V} {d : PyData} (R : REnv F H σ env Sl) (hi : env[i]? = some (some o)) (hv : σ[i]? = some (some v))
    (e : o.dat = some d) :
    Step F H Sl (fixed F H (Sl i)) H (lose Sl i) ∧ REnv (fixed F H (Sl i)) H σ (env.set i (some (.fz d))) (lose Sl i) ∧ Rp (fixed F H (Sl i)) d v := by
  have ex : Ex F (fixed F H (Sl i)) := fun a u q => by
    rw [fixed_out (fun z => by rw [(R.tr i a z).1] at q; cases q)]
    exact q
  obtain ⟨v', e1, w⟩ := R.at_ i _ hi
  rw [hv] at e1
  cases e1
  have rp := w.fix (fun a s => (R.tr i a s).1) e
  refine ⟨⟨ex, fun _ _ h _ => h, fun _ _ h => ⟨_, h⟩, fun j b h => .inl h.2, fun b o h => ?_⟩, ⟨fun b u q => ?_, by rw [List.length_set]; exact R.len, fun j u h => ?_, fun j k a x y => R.dj j k a x.2 y.2, fun j a x => ?_⟩, rp⟩
  · by_cases z : Sl i b
    · exact .inr (.inr ⟨i, z⟩)
    · rw [fixed_out z] at h
      exact .inl h
  · by_cases z : Sl i b
    · rw [fixed_in z] at q
      exact q
    · rw [fixed_out z] at q
      exact R.ex _ _ q
  · rcases set_at h with ⟨rfl, e2, _⟩ | ⟨ne, h'⟩
    · cases e2
      exact ⟨v, hv, rp⟩
    · obtain ⟨v2, e2, w2⟩ := R.at_ j u h'
      exact ⟨v2, e2, (w2.ext ex fun _ _ _ q => q).sub fun a s => ⟨ne, s⟩⟩
  · obtain ⟨h1, h2⟩ := R.tr j a x.2
    refine ⟨?_, h2⟩
    rw [fixed_out fun z => x.1 (R.dj j i a x.2 z)]
    exact h1
theorem fz_ok {F H : Hp} {σ : L2.St} {env env' : En} {Sl : Nat → Addr → Prop} {v : V} {p : P} {d : PyData} (R : REnv F H σ env Sl) (h : RP F σ v p) (e : fzP env p = some (d, env')) :
    ∃ F' Sl', Step F H Sl F' H Sl' ∧ REnv F' H σ env' Sl' ∧ Rp F' d v := by
  cases p with
  | val d' =>
    simp only [fzP] at e
    cases e
    exact ⟨F, Sl, Step.refl, R, h⟩
  | var i =>
    have hv : σ[i]? = some (some v) := h
    simp only [fzP] at e
    split at e
    · rename_i d' he
      cases e
      obtain ⟨v', e1, w⟩ := R.at_ i _ he
      rw [hv] at e1
      cases e1
      exact ⟨F, Sl, Step.refl, R, w⟩
    · rename_i ds he
      cases e
      obtain ⟨a, b, c⟩ := R.fix he hv rfl
      exact ⟨_, _, a, b, c⟩
    · rename_i rows he
      cases e
      obtain ⟨a, b, c⟩ := R.fix he hv rfl
      exact ⟨_, _, a, b, c⟩
    · cases e
  | k K xs => cases e

/-! ### readings and plain functions -/
/-- a reading t keeps to the plain function m; pu: nothing is let go, nothing changes -/
def RG {ρ α : Type} (pu : Bool) (rel : Hp → L2.St → ρ → α → Prop) (t : L2.St → Hp → (ρ → Hp → Prop) → Prop) (m : En → Option (α × En)) : Prop :=
  ∀ F H σ env Sl, REnv F H σ env Sl → ∀ a env', m env = some (a, env') → ∀ Q : ρ → Hp → Prop, (∀ r F' H' Sl', Step F H Sl F' H' Sl' → (pu = true → env' = env ∧ Ex H H' ∧ Sl' = Sl) → REnv F' H' σ env' Sl' → rel F' σ r a → Q r H') → t σ H Q
def Mono {ρ α : Type} (rel : Hp → L2.St → ρ → α → Prop) : Prop := ∀ F F' σ r a, Ex F F' → rel F σ r a → rel F' σ r a
abbrev ME := En → Option (P × En)
abbrev MT := En → Option (Bool × En)
abbrev MA := En → Option (List P × En)
def relP : Hp → L2.St → V → P → Prop := RP
def relB : Hp → L2.St → Bool → Bool → Prop := fun _ _ b c => b = c
def relA : Hp → L2.St → List V → List P → Prop := fun F σ vs ps => All2 (fun p v => RP F σ v p) ps vs
theorem monoP : Mono relP := fun _ _ _ _ _ e h => RP.mono e h
theorem monoB : Mono relB := fun _ _ _ _ _ _ h => h
theorem monoA : Mono relA := fun _ _ _ _ _ e h => h.mono fun _ _ => RP.mono e
abbrev RE (pu : Bool) (t : TE) (m : ME) : Prop := RG pu relP t m
abbrev RT (pu : Bool) (t : TT) (m : MT) : Prop := RG pu relB t m
abbrev RA (pu : Bool) (t : TA) (m : MA) : Prop := RG pu relA t m
/-- one after the other -/
def bnd {α β : Type} (m : En → Option (α × En)) (k : α → En → Option (β × En)) : En → Option (β × En) := fun env => match m env with
  | some (a, e) => k a e
  | none => none
theorem bnd_of {α β : Type} {m : En → Option (α × En)} {k : α → En → Option (β × En)} {env e' : En} {b : β} (h : bnd m k env = some (b, e')) : ∃ a e, m env = some (a, e) ∧ k a e = some (b, e') := by
  unfold bnd at h
  split at h
  · rename_i a e he
    exact ⟨a, e, he, h⟩
  · cases h
theorem bnd_eq {α β : Type} {m : En → Option (α × En)} {k : α → En → Option (β × En)} {env e : En} {a : α} (h : m env = some (a, e)) : bnd m k env = k a e := by
  unfold bnd
  rw [h]
section
variable {ρ ρ' ρ'' α β γ : Type} {rel : Hp → L2.St → ρ → α → Prop} {rel' : Hp → L2.St → ρ' → β → Prop} {rel'' : Hp → L2.St → ρ'' → γ → Prop} {pu pv : Bool}
theorem pu_step {F H F1 H1 F2 H2 : Hp} {env e1 e2 : En} {Sl Sl1 Sl2 : Nat → Addr → Prop} (a : pu = true → e1 = env ∧ Ex H H1 ∧ Sl1 = Sl) (b : pv = true → e2 = e1 ∧ Ex H1 H2 ∧ Sl2 = Sl1) : (pu && pv) = true → e2 = env ∧ Ex H H2 ∧ Sl2 = Sl := fun h => by
  rw [Bool.and_eq_true] at h
  obtain ⟨a0, a1, a2⟩ := a h.1
  obtain ⟨b0, b1, b2⟩ := b h.2
  exact ⟨b0.trans a0, a1.trans b1, b2.trans a2⟩
/-- a last step that only adds new things -/
theorem rg_fin {t : L2.St → Hp → (ρ → Hp → Prop) → Prop} {k : ρ → Hp → (ρ' → Hp → Prop) → Prop} {m : En → Option (α × En)} {g : En → α → Option β} (h : RG pu rel t m)
    (hk : ∀ F H σ env Sl r a b, REnv F H σ env Sl → rel F σ r a → g env a = some b → ∀ Q : ρ' → Hp → Prop, (∀ v F' H', Ex F F' → Ex H H' → Ex F' H' → (∀ b o, F' b = some o → F b = some o ∨ H b = none) → rel' F' σ v b → Q v H') → k r H Q) :
    RG pu rel' (fun σ H Q => t σ H fun r H1 => k r H1 Q) (bnd m fun a e => (g e a).map fun b => (b, e)) := by
  intro F H σ env Sl R b env' e Q q
  obtain ⟨a, e1, h1, h2⟩ := bnd_of e
  cases h3 : g e1 a with
  | none => rw [h3] at h2; cases h2
  | some b' =>
    rw [h3] at h2
    cases h2
    refine h F H σ env Sl R a _ h1 _ fun r F1 H1 Sl1 s1 pu1 R1 r1 => ?_
    refine hk F1 H1 σ _ Sl1 r a _ R1 r1 h3 Q fun v F' H' x y z n rr => ?_
    refine q v F' H' Sl1 (s1.trans (Step.grow x y n)) (fun hp => ?_) (R1.grow x y z n) rr
    obtain ⟨x1, x2, x3⟩ := pu1 hp
    exact ⟨x1, x2.trans y, x3⟩
/-- a pair, from the left -/
theorem rg_pair {t : L2.St → Hp → (ρ → Hp → Prop) → Prop} {u : L2.St → Hp → (ρ' → Hp → Prop) → Prop} {m : En → Option (α × En)} {n : En → Option (β × En)} (h : RG pu rel t m) (h' : RG pv rel' u n) (mo : Mono rel) :
    RG (pu && pv) (fun F σ (r : ρ × ρ') (a : α × β) => rel F σ r.1 a.1 ∧ rel' F σ r.2 a.2) (fun σ H Q => t σ H fun x H1 => u σ H1 fun y H2 => Q (x, y) H2) (bnd m fun a e => bnd n (fun b e2 => some ((a, b), e2)) e) := by
  intro F H σ env Sl R ab env' e Q q
  obtain ⟨a, e1, h1, h2⟩ := bnd_of e
  obtain ⟨b, e2, h3, h4⟩ := bnd_of h2
  cases h4
  refine h F H σ env Sl R a _ h1 _ fun r F1 H1 Sl1 s1 pu1 R1 r1 => ?_
  refine h' F1 H1 σ e1 Sl1 R1 b _ h3 _ fun r' F2 H2 Sl2 s2 pu2 R2 r2 => ?_
  exact q (r, r') F2 H2 Sl2 (s1.trans s2) (pu_step (F := F) (F1 := F1) (F2 := F2) pu1 pu2) R2 ⟨mo _ _ _ _ _ s2.exF r1, r2⟩
end
section
variable {pu pv : Bool} {t u ta tb : TE} {m ma mb : ME}
/-- a name -/
def mVar (i : Nat) : ME := fun env => match env[i]? with
  | some (some (.fz d)) => some (.val d, env)
  | some (some (.ow _)) => some (.var i, env)
  | some (some (.ow2 _)) => some (.var i, env)
  | some (some (.kt K xs)) => some (.k K xs, env)
  | _ => none
theorem re_var {i : Nat} : RE true (tVar i) (mVar i) := by
  intro F H σ env Sl R p env' e Q q
  unfold mVar at e
  split at e
  · rename_i d he
    cases e
    obtain ⟨v, e1, w⟩ := R.at_ i _ he
    exact ⟨v, e1, q v F H Sl Step.refl (fun _ => ⟨rfl, Ex.refl H, rfl⟩) R w⟩
  · rename_i ds he
    cases e
    obtain ⟨v, e1, w⟩ := R.at_ i _ he
    exact ⟨v, e1, q v F H Sl Step.refl (fun _ => ⟨rfl, Ex.refl H, rfl⟩) R e1⟩
  · rename_i ds he
    cases e
    obtain ⟨v, e1, w⟩ := R.at_ i _ he
    exact ⟨v, e1, q v F H Sl Step.refl (fun _ => ⟨rfl, Ex.refl H, rfl⟩) R e1⟩
  · rename_i K xs he
    cases e
    obtain ⟨v, e1, w⟩ := R.at_ i _ he
    exact ⟨v, e1, q v F H Sl Step.refl (fun _ => ⟨rfl, Ex.refl H, rfl⟩) R w⟩
  · cases e
/-- a constant -/
def mC (d : PyData) : ME := fun env => some (.val d, env)
theorem re_c {v : V} {d : PyData} (h : ∀ F, Rp F d v) : RE true (tC v) (mC d) := by
  intro F H σ env Sl R p env' e Q q
  cases e
  exact q v F H Sl Step.refl (fun _ => ⟨rfl, Ex.refl H, rfl⟩) R (h F)
theorem re_int {i : Int} : RE true (tC (.int i)) (mC (.int i)) := re_c fun _ => rfl
theorem re_bl {b : Bool} : RE true (tC (.bl b)) (mC (.bool b)) := re_c fun _ => rfl
theorem re_str {x : Str} : RE true (tC (.str x)) (mC (.str x)) := re_c fun _ => rfl
theorem re_non : RE true (tC .non) (mC .none) := re_c fun _ => rfl

/-- a plain function of two operands -/
def mBin (g : En → P → P → Option P) (ma mb : ME) : ME := bnd ma fun p e => bnd mb (fun q e2 => (g e2 p q).map fun r => (r, e2)) e
def BinK (k : V → V → Hp → VK → Prop) (g : En → P → P → Option P) : Prop := ∀ F H σ env Sl x y p1 p2 p, REnv F H σ env Sl → RP F σ x p1 → RP F σ y p2 → g env p1 p2 = some p → ∀ Q : VK,
  (∀ v F' H', Ex F F' → Ex H H' → Ex F' H' → (∀ b o, F' b = some o → F b = some o ∨ H b = none) → RP F' σ v p → Q v H') → k x y H Q
theorem re_bin {k : V → V → Hp → VK → Prop} {g : En → P → P → Option P} (ha : RE pu ta ma) (hb : RE pv tb mb) (hk : BinK k g) : RE (pu && pv) (tOp k ta tb) (mBin g ma mb) := by
  have h := rg_fin (rel' := relP) (k := fun r H Q => k r.1 r.2 H Q) (g := fun env (ab : P × P) => g env ab.1 ab.2) (rg_pair ha hb monoP) (fun F H σ env Sl r a b R rr e Q q => hk F H σ env Sl r.1 r.2 a.1 a.2 b R rr.1 rr.2 e Q q)
  intro F H σ env Sl R p env' e
  refine h F H σ env Sl R p env' ?_
  unfold mBin at e
  obtain ⟨a, e1, h1, h2⟩ := bnd_of e
  obtain ⟨b, e2, h3, h4⟩ := bnd_of h2
  rw [bnd_eq (a := (a, b)) (e := e2) (by rw [bnd_eq h1, bnd_eq h3])]
  exact h4
def mUn (g : En → P → Option P) (ma : ME) : ME := bnd ma fun p e => (g e p).map fun r => (r, e)
def UnK (k : V → Hp → VK → Prop) (g : En → P → Option P) : Prop := ∀ F H σ env Sl x p1 p, REnv F H σ env Sl → RP F σ x p1 → g env p1 = some p → ∀ Q : VK,
  (∀ v F' H', Ex F F' → Ex H H' → Ex F' H' → (∀ b o, F' b = some o → F b = some o ∨ H b = none) → RP F' σ v p → Q v H') → k x H Q
theorem re_un {k : V → Hp → VK → Prop} {g : En → P → Option P} (ha : RE pu ta ma) (hk : UnK k g) : RE pu (tUn k ta) (mUn g ma) := rg_fin (rel := relP) (rel' := relP) (k := k) ha hk
def mFn (g : En → List P → Option P) (ma : MA) : ME := bnd ma fun p e => (g e p).map fun r => (r, e)
def FnK (k : List V → Hp → VK → Prop) (g : En → List P → Option P) : Prop := ∀ F H σ env Sl xs ps p, REnv F H σ env Sl → relA F σ xs ps → g env ps = some p → ∀ Q : VK,
  (∀ v F' H', Ex F F' → Ex H H' → Ex F' H' → (∀ b o, F' b = some o → F b = some o ∨ H b = none) → RP F' σ v p → Q v H') → k xs H Q
theorem re_fn {k : List V → Hp → VK → Prop} {g : En → List P → Option P} {ta : TA} {ma : MA} (ha : RA pu ta ma) (hk : FnK k g) : RE pu (tCB k ta) (mFn g ma) := rg_fin (rel := relA) (rel' := relP) (k := k) ha hk
/-! arguments -/
def mNil : MA := fun env => some ([], env)
theorem ra_nil : RA true tNil mNil := by
  intro F H σ env Sl R p env' e Q q
  cases e
  exact q [] F H Sl Step.refl (fun _ => ⟨rfl, Ex.refl H, rfl⟩) R .nil
def mCons (ma : ME) (mb : MA) : MA := bnd ma fun p e => bnd mb (fun ps e2 => some (p :: ps, e2)) e
theorem ra_cons {tr : TA} {mr : MA} (ha : RE pu ta ma) (hb : RA pv tr mr) : RA (pu && pv) (tCons ta tr) (mCons ma mr) := by
  intro F H σ env Sl R ps env' e Q q
  obtain ⟨a, e1, h1, h2⟩ := bnd_of e
  obtain ⟨b, e2, h3, h4⟩ := bnd_of h2
  cases h4
  refine ha F H σ env Sl R a _ h1 _ fun r F1 H1 Sl1 s1 pu1 R1 r1 => ?_
  refine hb F1 H1 σ e1 Sl1 R1 b _ h3 _ fun r' F2 H2 Sl2 s2 pu2 R2 r2 => ?_
  exact q (r :: r') F2 H2 Sl2 (s1.trans s2) (pu_step (F := F) (F1 := F1) (F2 := F2) pu1 pu2) R2 (.cons (r1.mono s2.exF) r2)
end
end Tr
namespace Tr
open PySem PySem.Spec PyProof.Rows L2

/-! ### whole numbers -/
def gI (C : Int → Int → Bool) (f : Int → Int → PyData) : En → P → P → Option P
  | _, .val (.int i), .val (.int j) => if C i j then some (.val (f i j)) else none
  | _, _, _ => none
def gI0 (f : Int → Int → PyData) : En → P → P → Option P
  | _, .val (.int i), .val (.int j) => some (.val (f i j))
  | _, _, _ => none
theorem pr_val {F : Hp} {σ : L2.St} {v : V} {d : PyData} (h : RP F σ v (.val d)) : Rp F d v := h
theorem rp_int {F : Hp} {i : Int} {v : V} (h : Rp F (.int i) v) : v = .int i := h
theorem pint {F : Hp} {σ : L2.St} {i : Int} {v : V} (h : RP F σ v (.val (.int i))) : v = .int i := h
theorem pbool {F : Hp} {σ : L2.St} {i : Bool} {v : V} (h : RP F σ v (.val (.bool i))) : v = .bl i := h
theorem pstr {F : Hp} {σ : L2.St} {i : Str} {v : V} (h : RP F σ v (.val (.str i))) : v = .str i := h
theorem pnone {F : Hp} {σ : L2.St} {v : V} (h : RP F σ v (.val .none)) : v = .non := h
def isN : PyData → Bool
  | .none => true
  | _ => false
theorem rp_bool {F : Hp} {b : Bool} {v : V} (h : Rp F (.bool b) v) : v = .bl b := h
theorem rp_str {F : Hp} {x : Str} {v : V} (h : Rp F (.str x) v) : v = .str x := h
theorem rp_none {F : Hp} {v : V} (h : Rp F .none v) : v = .non := h
theorem bin_I {C : Int → Int → Prop} {D : Int → Int → Bool} {g : Int → Int → V} {f : Int → Int → PyData} (hc : ∀ i j, D i j = true → C i j) (hf : ∀ i j F, Rp F (f i j) (g i j)) : BinK (rI C g) (gI D f) := by
  intro F H σ env Sl x y p1 p2 p R h1 h2 e Q q
  unfold gI at e
  split at e
  · rename_i i j
    split at e
    · rename_i hd
      cases e
      exact ⟨i, j, pint h1, pint h2, hc i j hd, q _ F H (Ex.refl F) (Ex.refl H) R.ex (fun _ _ z => .inl z) (hf i j F)⟩
    · cases e
  · cases e
theorem bin_I0 {g : Int → Int → V} {f : Int → Int → PyData} (hf : ∀ i j F, Rp F (f i j) (g i j)) : BinK (rI0 g) (gI0 f) := by
  intro F H σ env Sl x y p1 p2 p R h1 h2 e Q q
  unfold gI0 at e
  split at e
  · rename_i i j
    cases e
    exact ⟨i, j, pint h1, pint h2, q _ F H (Ex.refl F) (Ex.refl H) R.ex (fun _ _ z => .inl z) (hf i j F)⟩
  · cases e
theorem b_add : BinK (rI0 fun i j => .int (i + j)) (gI0 fun i j => .int (i + j)) := bin_I0 fun _ _ _ => rfl
theorem b_sub : BinK (rI0 fun i j => .int (i - j)) (gI0 fun i j => .int (i - j)) := bin_I0 fun _ _ _ => rfl
theorem b_mul : BinK (rI CMulW fun i j => .int (i * j)) (gI (fun i j => decide (i.natAbs.log2 + j.natAbs.log2 < 1000000)) fun i j => .int (i * j)) := bin_I (fun i j h => show i.natAbs.log2 + j.natAbs.log2 < 1000000 from of_decide_eq_true h) fun _ _ _ => rfl
theorem b_fdiv : BinK (rI CDivN fun i j => .int (i.fdiv j)) (gI (fun _ j => decide (j ≠ 0 ∧ j.natAbs < 1073741824)) fun i j => .int (i.fdiv j)) := bin_I (fun _ j h => show j ≠ 0 ∧ j.natAbs < 1073741824 from of_decide_eq_true h) fun _ _ _ => rfl
theorem b_mod : BinK (rI (fun _ j => j ≠ 0) fun i j => .int (i.fmod j)) (gI (fun _ j => decide (j ≠ 0)) fun i j => .int (i.fmod j)) := bin_I (fun _ _ h => of_decide_eq_true h) fun _ _ _ => rfl
theorem b_lt : BinK (rI0 fun i j => .bl (decide (i < j))) (gI0 fun i j => .bool (decide (i < j))) := bin_I0 fun _ _ _ => rfl
theorem b_le : BinK (rI0 fun i j => .bl (decide (i ≤ j))) (gI0 fun i j => .bool (decide (i ≤ j))) := bin_I0 fun _ _ _ => rfl
theorem b_gt : BinK (rI0 fun i j => .bl (decide (j < i))) (gI0 fun i j => .bool (decide (j < i))) := bin_I0 fun _ _ _ => rfl
theorem b_ge : BinK (rI0 fun i j => .bl (decide (j ≤ i))) (gI0 fun i j => .bool (decide (j ≤ i))) := bin_I0 fun _ _ _ => rfl
/-! ### ==, != of data -/
def gEq (neg : Bool) : En → P → P → Option P := fun env p q => match vw env p, vw env q with
  | some d, some e => if SeqAt.shaped d && SeqAt.shaped e then some (.val (.bool (neg ^^ PyData.eqv d e))) else none
  | _, _ => none
theorem b_eq {K : PySem.W.Frag} : BinK (rEqD K) (gEq false) := by
  intro F H σ env Sl x y p1 p2 p R h1 h2 e Q q
  unfold gEq at e
  split at e
  · rename_i d d' e1 e2
    split at e
    · rename_i hs
      cases e
      rw [Bool.and_eq_true] at hs
      exact ⟨d, d', vw_dp R h1 e1 (SeqAt.canLay_of_shaped hs.1), vw_dp R h2 e2 (SeqAt.canLay_of_shaped hs.2), hs.1, hs.2, q _ F H (Ex.refl F) (Ex.refl H) R.ex (fun _ _ z => .inl z) (by show V.bl _ = V.bl _; rw [Bool.false_xor])⟩
    · cases e
  · cases e
theorem b_ne {K : PySem.W.Frag} : BinK (rNeD K) (gEq true) := by
  intro F H σ env Sl x y p1 p2 p R h1 h2 e Q q
  unfold gEq at e
  split at e
  · rename_i d d' e1 e2
    split at e
    · rename_i hs
      cases e
      rw [Bool.and_eq_true] at hs
      exact ⟨d, d', vw_dp R h1 e1 (SeqAt.canLay_of_shaped hs.1), vw_dp R h2 e2 (SeqAt.canLay_of_shaped hs.2), hs.1, hs.2, q _ F H (Ex.refl F) (Ex.refl H) R.ex (fun _ _ z => .inl z) (by show V.bl _ = V.bl _; rw [Bool.true_xor])⟩
    · cases e
  · cases e
/-! ### x is None -/
def gIsN (neg : Bool) : En → P → P → Option P
  | _, .val d, .val .none => some (.val (.bool (neg ^^ isN d)))
  | _, _, _ => none
theorem rp_isn {F : Hp} {d : PyData} {v : V} (h : Rp F d v) : decide (v = .non) = isN d := by
  cases d with
  | none => rw [rp_none h]; rfl
  | bool b => rw [rp_bool h]; rfl
  | int b => rw [rp_int h]; rfl
  | str b => rw [rp_str h]; rfl
  | list ds => obtain ⟨a, vs, rfl, _⟩ := h; rfl
  | tuple ds => obtain ⟨a, vs, rfl, _⟩ := h; rfl
  | dict _ => obtain ⟨_, a, rfl, _⟩ := h; rfl
theorem b_isN : BinK (fun x y H Q => y = .non ∧ Q (.bl (decide (x = .non))) H) (gIsN false) := by
  intro F H σ env Sl x y p1 p2 p R h1 h2 e Q q
  unfold gIsN at e
  split at e
  · cases e
    refine ⟨pnone h2, q _ F H (Ex.refl F) (Ex.refl H) R.ex (fun _ _ z => .inl z) ?_⟩
    show V.bl _ = V.bl _
    rw [Bool.false_xor, rp_isn (pr_val h1)]
  · cases e
theorem b_notN : BinK (fun x y H Q => y = .non ∧ Q (.bl (!decide (x = .non))) H) (gIsN true) := by
  intro F H σ env Sl x y p1 p2 p R h1 h2 e Q q
  unfold gIsN at e
  split at e
  · cases e
    refine ⟨pnone h2, q _ F H (Ex.refl F) (Ex.refl H) R.ex (fun _ _ z => .inl z) ?_⟩
    show V.bl _ = V.bl _
    rw [Bool.true_xor, rp_isn (pr_val h1)]
  · cases e
/-! ### an item, a cut -/
/-- a list's or a tuple's fixed items -/
def sqT (env : En) : P → Option (List PyData)
  | .val (.tuple ds) => some ds
  | p => sq env p
theorem ixN_len {α β : Type} {as : List α} {bs : List β} (h : as.length = bs.length) (i : Int) : ixN as.length i = ixN bs.length i := by rw [h]
theorem atI_all {α β : Type} {R : α → β → Prop} {as : List α} {bs : List β} {i : Int} {a : α} (h : All2 R as bs) (e : atI as i = some a) : ∃ b, atI bs i = some b ∧ R a b := by
  unfold atI at e ⊢
  rw [← ixN_len h.len]
  cases q : ixN as.length i with
  | none => rw [q] at e; cases e
  | some j =>
    rw [q] at e
    exact h.get e
def gIx : En → P → P → Option P := fun env p q => match p, q with
  | .val (.str z), .val (.int i) => if z.length ≤ sizeLine then (atI z.cps.toList i).map fun c => .val (.str ⟨#[c]⟩) else none
  | p, .val (.int i) => (sqT env p).bind fun ds => (atI ds i).map .val
  | _, _ => none
theorem b_ix {K : PySem.W.Frag} : BinK (rIx K) gIx := by
  intro F H σ env Sl x y p1 p2 p R h1 h2 e Q q
  unfold gIx at e
  split at e
  · rename_i z i
    split at e
    · rename_i hz
      cases h3 : atI z.cps.toList i with
      | none => rw [h3] at e; cases e
      | some c =>
        rw [h3] at e
        cases e
        exact .inr (.inr ⟨z, i, c, pstr h1, pint h2, hz, h3, q _ F H (Ex.refl F) (Ex.refl H) R.ex (fun _ _ z => .inl z) rfl⟩)
    · cases e
  · rename_i i _
    cases h3 : sqT env p1 with
    | none => rw [h3] at e; cases e
    | some ds =>
      rw [h3] at e
      cases h4 : atI ds i with
      | none => simp only [Option.bind_some, h4] at e; cases e
      | some d =>
        simp only [Option.bind_some, h4, Option.map_some] at e
        cases e
        unfold sqT at h3
        split at h3
        · cases h3
          obtain ⟨a, vs, rfl, hH, r⟩ := rp_tuple.mp (pr_val h1)
          obtain ⟨v, hv, rv⟩ := atI_all r h4
          exact .inr (.inl ⟨a, vs, i, v, rfl, pint h2, SqT.of (R.ex _ _ hH), hv, q _ F H (Ex.refl F) (Ex.refl H) R.ex (fun _ _ z => .inl z) rv⟩)
        · obtain ⟨a, vs, rfl, hH, r⟩ := sq_of R h1 h3
          obtain ⟨v, hv, rv⟩ := atI_all r h4
          exact .inl ⟨a, vs, i, v, rfl, pint h2, SqL.of hH, hv, q _ F H (Ex.refl F) (Ex.refl H) R.ex (fun _ _ z => .inl z) rv⟩
  · cases e
/-- what comes new is fixed at once, or held -/
theorem new_lst {F H : Hp} {p : Addr} {vs : List V} {ds : List PyData} (ex : Ex F H) (hp : H p = none) (r : All2 (Rp F) ds vs) :
    Ex F (upd F p (.lst vs)) ∧ Ex H (upd H p (.lst vs)) ∧ Ex (upd F p (.lst vs)) (upd H p (.lst vs)) ∧ (∀ b o, upd F p (.lst vs) b = some o → F b = some o ∨ H b = none) ∧ Rp (upd F p (.lst vs)) (.list ds) (.ref p) := by
  have fp := ex.none hp
  refine ⟨Ex.new fp, Ex.new hp, fun b o h => ?_, fun b o h => ?_, rp_list.mpr ⟨p, vs, rfl, upd_same, all_mono (Ex.new fp) r⟩⟩
  · by_cases e : b = p
    · subst e; rw [upd_same] at h ⊢; exact h
    · rw [upd_ne e] at h ⊢; exact ex _ _ h
  · by_cases e : b = p
    · subst e; exact .inr hp
    · rw [upd_ne e] at h; exact .inl h
theorem new_tup {F H : Hp} {p : Addr} {vs : List V} {ds : List PyData} (ex : Ex F H) (hp : H p = none) (r : All2 (Rp F) ds vs) :
    Ex F (upd F p (.tup vs)) ∧ Ex H (upd H p (.tup vs)) ∧ Ex (upd F p (.tup vs)) (upd H p (.tup vs)) ∧ (∀ b o, upd F p (.tup vs) b = some o → F b = some o ∨ H b = none) ∧ Rp (upd F p (.tup vs)) (.tuple ds) (.ref p) := by
  have fp := ex.none hp
  refine ⟨Ex.new fp, Ex.new hp, fun b o h => ?_, fun b o h => ?_, rp_tuple.mpr ⟨p, vs, rfl, upd_same, all_mono (Ex.new fp) r⟩⟩
  · by_cases e : b = p
    · subst e; rw [upd_same] at h ⊢; exact h
    · rw [upd_ne e] at h ⊢; exact ex _ _ h
  · by_cases e : b = p
    · subst e; exact .inr hp
    · rw [upd_ne e] at h; exact .inl h
/-! a reading that ends in one new list -/
def RL (pu : Bool) (t : L2.St → Hp → (V → Hp → Prop) → Prop) (m : En → Option (List PyData × En)) : Prop :=
  ∀ F H σ env Sl, REnv F H σ env Sl → ∀ ds env', m env = some (ds, env') → ∀ Q : VK, (∀ p vs F' H' Sl', Step F H Sl F' H' Sl' → (pu = true → env' = env ∧ Ex H H' ∧ Sl' = Sl) → REnv F' H' σ env' Sl' → All2 (Rp F') ds vs → H' p = none → Q (.ref p) (upd H' p (.lst vs))) → t σ H Q
end Tr
namespace Tr
open PySem PySem.Spec PyProof.Rows L2
abbrev ML := En → Option (List PyData × En)
abbrev MO := En → Option (O × En)
/-- what a new thing is: of its own, apart from all that the names hold -/
structure New (F H0 H : Hp) (Sl : Nat → Addr → Prop) (o : O) (v : V) (T : Addr → Prop) : Prop where
  own : Own F H o v T
  dj : ∀ i a, T a → ¬ Sl i a
  tr : ∀ a, T a → F a = none ∧ ∃ u, H a = some u
  nw : ∀ a, T a → H0 a = none
def RO (t : TE) (m : MO) : Prop := ∀ F H σ env Sl, REnv F H σ env Sl → ∀ o env', m env = some (o, env') →
  ∀ Q : VK, (∀ v F' H' Sl' T, Step F H Sl F' H' Sl' → REnv F' H' σ env' Sl' → New F' H H' Sl' o v T → Q v H') → t σ H Q
def mLE (m : ML) : ME := bnd m fun ds e => some (.val (.list ds), e)
def mLO (m : ML) : MO := bnd m fun ds e => some (.ow ds, e)
theorem Step.tkb {F H F' H' : Hp} {Sl Sl' : Nat → Addr → Prop} (s : Step F H Sl F' H' Sl') {p : Addr} (h : H' p = none) : H p = none := by
  cases q : H p with
  | none => rfl
  | some o => obtain ⟨o', e⟩ := s.tk p o q; rw [e] at h; cases h
theorem re_l {pu : Bool} {t : TE} {m : ML} (h : RL pu t m) : RE pu t (mLE m) := by
  intro F H σ env Sl R p env' e Q q
  obtain ⟨ds, e1, h1, h2⟩ := bnd_of e
  cases h2
  refine h F H σ env Sl R ds _ h1 Q fun p vs F1 H1 Sl1 s1 pu1 R1 r np => ?_
  obtain ⟨x, y, z, n, rr⟩ := new_lst R1.ex np r
  refine q _ _ _ Sl1 (s1.trans (Step.grow x y n)) (fun hp => ?_) (R1.grow x y z n) rr
  obtain ⟨a, b, c⟩ := pu1 hp
  exact ⟨a, b.trans y, c⟩
theorem ro_l {pu : Bool} {t : TE} {m : ML} (h : RL pu t m) : RO t (mLO m) := by
  intro F H σ env Sl R o env' e Q q
  obtain ⟨ds, e1, h1, h2⟩ := bnd_of e
  cases h2
  refine h F H σ env Sl R ds _ h1 Q fun p vs F1 H1 Sl1 s1 pu1 R1 r np => ?_
  have ex : Ex H1 (upd H1 p (.lst vs)) := Ex.new np
  have n : ∀ b o, F1 b = some o → F1 b = some o ∨ H1 b = none := fun _ _ z => .inl z
  refine q _ F1 _ Sl1 (fun a => a = p) (s1.trans (Step.grow (Ex.refl F1) ex n)) (R1.grow (Ex.refl F1) ex (R1.ex.trans ex) n) ⟨⟨p, vs, rfl, rfl, upd_same, r⟩, fun i a e s => ?_, fun a e => ?_, fun a e => ?_⟩
  · subst e
    obtain ⟨_, o, z⟩ := R1.tr i a s
    rw [np] at z
    cases z
  · subst e
    exact ⟨R1.ex.none np, _, upd_same⟩
  · subst e
    exact s1.tkb np
/-- a plain function of two operands that makes a list -/
def mBinL (g : En → P → P → Option (List PyData)) (ma mb : ME) : ML := bnd ma fun p e => bnd mb (fun q e2 => (g e2 p q).map fun r => (r, e2)) e
def BinL (k : V → V → Hp → VK → Prop) (g : En → P → P → Option (List PyData)) : Prop := ∀ F H σ env Sl x y p1 p2 ds, REnv F H σ env Sl → RP F σ x p1 → RP F σ y p2 → g env p1 p2 = some ds → ∀ Q : VK,
  (∀ p vs, All2 (Rp F) ds vs → H p = none → Q (.ref p) (upd H p (.lst vs))) → k x y H Q
theorem rl_bin {pu pv : Bool} {ta tb : TE} {ma mb : ME} {k : V → V → Hp → VK → Prop} {g : En → P → P → Option (List PyData)} (ha : RE pu ta ma) (hb : RE pv tb mb) (hk : BinL k g) : RL (pu && pv) (tOp k ta tb) (mBinL g ma mb) := by
  intro F H σ env Sl R ds env' e Q q
  obtain ⟨a, e1, h1, h2⟩ := bnd_of e
  obtain ⟨b, e2, h3, h4⟩ := bnd_of h2
  cases h5 : g e2 a b with
  | none => rw [h5] at h4; cases h4
  | some ds' =>
    rw [h5] at h4
    cases h4
    refine ha F H σ env Sl R a _ h1 _ fun r F1 H1 Sl1 s1 pu1 R1 r1 => ?_
    refine hb F1 H1 σ e1 Sl1 R1 b _ h3 _ fun r' F2 H2 Sl2 s2 pu2 R2 r2 => ?_
    exact hk F2 H2 σ _ Sl2 r r' a b ds R2 (r1.mono s2.exF) r2 h5 Q fun p vs rr np => q p vs F2 H2 Sl2 (s1.trans s2) (pu_step (F := F) (F1 := F1) (F2 := F2) pu1 pu2) R2 rr np
def gCat : En → P → P → Option (List PyData) := fun env p q => match sq env p, sq env q with
  | some a, some b => if a.length + b.length ≤ sizeLine then some (a ++ b) else none
  | _, _ => none
theorem b_cat : BinL rCat gCat := by
  intro F H σ env Sl x y p1 p2 ds R h1 h2 e Q q
  unfold gCat at e
  split at e
  · rename_i a b ea eb
    split at e
    · rename_i hz
      cases e
      obtain ⟨l, vs, rfl, hl, r1⟩ := sq_of R h1 ea
      obtain ⟨l2, vs2, rfl, hl2, r2⟩ := sq_of R h2 eb
      exact ⟨l, l2, vs, vs2, rfl, rfl, hl, hl2, by rw [← r1.len, ← r2.len]; exact hz, fun p np => q p _ (r1.app r2) np⟩
    · cases e
  · cases e
def gRep : En → P → P → Option (List PyData) := fun env p q => match sq env p, q with
  | some a, .val (.int k) => if -(2 ^ 63) ≤ k ∧ k < 2 ^ 63 ∧ a.length * k.toNat ≤ sizeLine then some (List.replicate k.toNat a).flatten else none
  | _, _ => none
theorem b_rep : BinL rRep gRep := by
  intro F H σ env Sl x y p1 p2 ds R h1 h2 e Q q
  unfold gRep at e
  split at e
  · rename_i a k ea
    split at e
    · rename_i hz
      cases e
      obtain ⟨l, vs, rfl, hl, r1⟩ := sq_of R h1 ea
      exact ⟨l, k, vs, rfl, pint h2, hl, hz.1, hz.2.1, by rw [← r1.len]; exact hz.2.2, fun p np => q p _ (r1.rep _) np⟩
    · cases e
  · cases e
/-! ### a cut -/
abbrev MP := En → Option (Option Int × En)
def relO : Hp → L2.St → Option Int → Option Int → Prop := fun _ _ a b => a = b
abbrev RQ (pu : Bool) (t : TO) (m : MP) : Prop := RG pu relO t m
def mNoPart : MP := fun env => some (none, env)
theorem rq_none : RQ true tNoPart mNoPart := by
  intro F H σ env Sl R p env' e Q q
  cases e
  exact q _ F H Sl Step.refl (fun _ => ⟨rfl, Ex.refl H, rfl⟩) R rfl
def gPart : P → Option (Option Int)
  | .val (.int i) => some (some i)
  | _ => none
def mPart (ma : ME) : MP := bnd ma fun p e => (gPart p).map fun r => (r, e)
theorem rq_some {pu : Bool} {te : TE} {me : ME} (h : RE pu te me) : RQ pu (tPart te) (mPart me) :=
  rg_fin (rel := relP) (rel' := relO) (k := fun x H Q => ∃ i, x = .int i ∧ Q (some i) H) (g := fun _ p => gPart p) h fun F H σ env Sl r a b R rr e Q q => by
    unfold gPart at e
    split at e
    · cases e
      exact ⟨_, pint rr, q _ F H (Ex.refl F) (Ex.refl H) R.ex (fun _ _ z => .inl z) rfl⟩
    · cases e
def cutD (ds : List PyData) (lo hi : Option Int) : List PyData := (ds.drop (HT.sIx ds.length 0 lo)).take (HT.sIx ds.length ds.length hi - HT.sIx ds.length 0 lo)
def mSl (ma : ME) (ml mh : MP) : ML := bnd ma fun p e => bnd ml (fun lo e2 => bnd mh (fun hi e3 => (sq e3 p).map fun ds => (cutD ds lo hi, e3)) e2) e
theorem rl_sl {K : PySem.W.Frag} {pu pv pw : Bool} {te : TE} {tl th : TO} {me : ME} {ml mh : MP} (he : RE pu te me) (hl : RQ pv tl ml) (hh : RQ pw th mh) : RL (pu && pv && pw) (tSl (rSlL K) te tl th) (mSl me ml mh) := by
  intro F H σ env Sl R ds env' e Q q
  obtain ⟨p, e1, h1, h2⟩ := bnd_of e
  obtain ⟨lo, e2, h3, h4⟩ := bnd_of h2
  obtain ⟨hi, e3, h5, h6⟩ := bnd_of h4
  cases h7 : sq e3 p with
  | none => rw [h7] at h6; cases h6
  | some ds' =>
    rw [h7] at h6
    cases h6
    refine he F H σ env Sl R p _ h1 _ fun r F1 H1 Sl1 s1 pu1 R1 r1 => ?_
    refine hl F1 H1 σ e1 Sl1 R1 lo _ h3 _ fun r' F2 H2 Sl2 s2 pu2 R2 r2 => ?_
    cases r2
    refine hh F2 H2 σ e2 Sl2 R2 hi _ h5 _ fun r'' F3 H3 Sl3 s3 pu3 R3 r3 => ?_
    cases r3
    obtain ⟨a, vs, rfl, hH, rr⟩ := sq_of R3 (r1.mono (s2.exF.trans s3.exF)) h7
    refine ⟨a, vs, rfl, SqL.of hH, fun b nb => ?_⟩
    refine q b _ F3 H3 Sl3 (s1.trans (s2.trans s3)) (pu_step (F := F) (F1 := F2) (F2 := F3) (pu_step (F := F) (F1 := F1) (F2 := F2) pu1 pu2) pu3) R3 ?_ nb
    unfold cutD cutV
    rw [rr.len]
    exact (rr.drop _).take _
/-! ### displays -/
def fzPs (env : En) : List P → Option (List PyData × En)
  | [] => some ([], env)
  | p :: ps => match fzP env p with
    | some (d, e1) => match fzPs e1 ps with
      | some (ds, e2) => some (d :: ds, e2)
      | none => none
    | none => none
theorem fzPs_ok {H : Hp} {σ : L2.St} : ∀ {ps : List P} {F : Hp} {env env' : En} {Sl : Nat → Addr → Prop} {vs : List V} {ds : List PyData}, REnv F H σ env Sl → relA F σ vs ps → fzPs env ps = some (ds, env') →
    ∃ F' Sl', Step F H Sl F' H Sl' ∧ REnv F' H σ env' Sl' ∧ All2 (Rp F') ds vs
  | [], F, env, env', Sl, vs, ds, R, h, e => by
    cases e
    cases h
    exact ⟨F, Sl, Step.refl, R, .nil⟩
  | p :: ps, F, env, env', Sl, vs, ds, R, h, e => by
    unfold fzPs at e
    split at e
    · rename_i d e1 h1
      split at e
      · rename_i ds' e2 h2
        cases e
        cases h with
        | cons a b =>
          obtain ⟨F1, Sl1, s1, R1, r1⟩ := fz_ok R a h1
          obtain ⟨F2, Sl2, s2, R2, r2⟩ := fzPs_ok R1 (b.mono fun _ _ => RP.mono s1.exF) h2
          exact ⟨F2, Sl2, s1.trans s2, R2, .cons (Rp.mono s2.exF r1) r2⟩
      · cases e
    · cases e
/-- how many there are -/
def LenA (n : Nat) (m : MA) : Prop := ∀ env ps e, m env = some (ps, e) → ps.length = n
theorem len_nil : LenA 0 mNil := fun _ _ _ h => by cases h; rfl
theorem len_cons {n : Nat} {ma : ME} {mr : MA} (h : LenA n mr) : LenA (n + 1) (mCons ma mr) := fun env ps e hp => by
  obtain ⟨a, e1, h1, h2⟩ := bnd_of hp
  obtain ⟨b, e2, h3, h4⟩ := bnd_of h2
  cases h4
  rw [List.length_cons, h _ _ _ h3]
def mDs (ma : MA) : ML := bnd ma fun ps e => fzPs e ps
theorem rl_lst {pu : Bool} {n : Nat} {ta : TA} {ma : MA} (h : RA pu ta ma) (hl : LenA n ma) (hn : n ≤ sizeLine := by decide) : RL false (tLst ta) (mDs ma) := by
  intro F H σ env Sl R ds env' e Q q
  obtain ⟨ps, e1, h1, h2⟩ := bnd_of e
  refine h F H σ env Sl R ps _ h1 _ fun r F1 H1 Sl1 s1 pu1 R1 r1 => ?_
  obtain ⟨F2, Sl2, s2, R2, r2⟩ := fzPs_ok R1 r1 h2
  exact ⟨by rw [← r1.len, hl _ _ _ h1]; exact hn, fun p np => q p r F2 H1 Sl2 (s1.trans s2) (fun z => nomatch z) R2 r2 np⟩
def mTup (ma : MA) : ME := bnd ma fun ps e => (fzPs e ps).map fun r => (.val (.tuple r.1), r.2)
theorem re_tup {pu : Bool} {n : Nat} {ta : TA} {ma : MA} (h : RA pu ta ma) (hl : LenA n ma) (hn : n ≤ sizeLine := by decide) : RE false (tTup ta) (mTup ma) := by
  intro F H σ env Sl R p env' e Q q
  obtain ⟨ps, e1, h1, h2⟩ := bnd_of e
  cases h3 : fzPs e1 ps with
  | none => rw [h3] at h2; cases h2
  | some r =>
    obtain ⟨ds, e2⟩ := r
    rw [h3] at h2
    cases h2
    refine h F H σ env Sl R ps _ h1 _ fun r F1 H1 Sl1 s1 pu1 R1 r1 => ?_
    obtain ⟨F2, Sl2, s2, R2, r2⟩ := fzPs_ok R1 r1 h3
    refine ⟨by rw [← r1.len, hl _ _ _ h1]; exact hn, fun a na => ?_⟩
    obtain ⟨x, y, z, w, rr⟩ := new_tup R2.ex na r2
    exact q _ _ _ Sl2 (s1.trans (s2.trans (Step.grow x y w))) (fun z => nomatch z) (R2.grow x y z w) rr
/-! ### truth -/
section
variable {pu pv pw : Bool} {ta tb te : TE} {ma mb me : ME} {t u : TT} {m n : MT}
def gB : P → Option Bool
  | .val (.bool b) => some b
  | _ => none
def mT (ma : ME) : MT := bnd ma fun p e => (gB p).map fun r => (r, e)
theorem gB_ok {F : Hp} {σ : L2.St} {v : V} {p : P} {b : Bool} (h : RP F σ v p) (e : gB p = some b) : v = .bl b := by
  unfold gB at e
  split at e
  · cases e; exact pbool h
  · cases e
theorem rt_B (h : RE pu te me) : RT pu (L2.tB te) (mT me) :=
  rg_fin (rel := relP) (rel' := relB) (k := fun x H Q => ∃ c, x = .bl c ∧ Q c H) (g := fun _ p => gB p) h fun F H σ env Sl r a b R rr e Q q => ⟨b, gB_ok rr e, q _ F H (Ex.refl F) (Ex.refl H) R.ex (fun _ _ z => .inl z) rfl⟩
theorem rt_test (h : RE pu te me) : RT pu (tTest te) (mT me) :=
  rg_fin (rel := relP) (rel' := relB) (k := fun x H Q => ∃ c, x = .bl c ∧ Q c H) (g := fun _ p => gB p) h fun F H σ env Sl r a b R rr e Q q => ⟨b, gB_ok rr e, q _ F H (Ex.refl F) (Ex.refl H) R.ex (fun _ _ z => .inl z) rfl⟩
def mAnd (m n : MT) : MT := bnd m fun b e => match b with | true => n e | false => some (false, e)
def mOr (m n : MT) : MT := bnd m fun b e => match b with | true => some (true, e) | false => n e
def mNot (m : MT) : MT := bnd m fun b e => some (!b, e)
theorem rt_and (h : RT pu t m) (h' : RT pv u n) : RT (pu && pv) (tAnd t u) (mAnd m n) := by
  intro F H σ env Sl R b env' e Q q
  obtain ⟨b1, e1, h1, h2⟩ := bnd_of e
  refine h F H σ env Sl R b1 _ h1 _ fun r F1 H1 Sl1 s1 pu1 R1 r1 => ?_
  cases r1
  cases b1 with
  | true =>
    rw [if_pos rfl]
    exact h' F1 H1 σ e1 Sl1 R1 b _ h2 _ fun r' F2 H2 Sl2 s2 pu2 R2 r2 => q r' F2 H2 Sl2 (s1.trans s2) (pu_step (F := F) (F1 := F1) (F2 := F2) pu1 pu2) R2 r2
  | false =>
    cases h2
    rw [if_neg Bool.false_ne_true]
    exact q _ F1 H1 Sl1 s1 (fun hp => pu1 (Bool.and_eq_true _ _ ▸ hp).1) R1 rfl
theorem rt_or (h : RT pu t m) (h' : RT pv u n) : RT (pu && pv) (tOr t u) (mOr m n) := by
  intro F H σ env Sl R b env' e Q q
  obtain ⟨b1, e1, h1, h2⟩ := bnd_of e
  refine h F H σ env Sl R b1 _ h1 _ fun r F1 H1 Sl1 s1 pu1 R1 r1 => ?_
  cases r1
  cases b1 with
  | false =>
    rw [if_neg Bool.false_ne_true]
    exact h' F1 H1 σ e1 Sl1 R1 b _ h2 _ fun r' F2 H2 Sl2 s2 pu2 R2 r2 => q r' F2 H2 Sl2 (s1.trans s2) (pu_step (F := F) (F1 := F1) (F2 := F2) pu1 pu2) R2 r2
  | true =>
    cases h2
    rw [if_pos rfl]
    exact q _ F1 H1 Sl1 s1 (fun hp => pu1 (Bool.and_eq_true _ _ ▸ hp).1) R1 rfl
theorem rt_not (h : RT pu t m) : RT pu (tNot t) (mNot m) := by
  intro F H σ env Sl R b env' e Q q
  obtain ⟨b1, e1, h1, h2⟩ := bnd_of e
  cases h2
  refine h F H σ env Sl R b1 _ h1 _ fun r F1 H1 Sl1 s1 pu1 R1 r1 => ?_
  cases r1
  exact q _ F1 H1 Sl1 s1 pu1 R1 rfl
def mYes : MT := fun env => some (true, env)
theorem rt_yes : RT true tYes mYes := by
  intro F H σ env Sl R b env' e Q q
  cases e
  exact q _ F H Sl Step.refl (fun _ => ⟨rfl, Ex.refl H, rfl⟩) R rfl
/-! .. as values -/
def mAndV (ma mb : ME) : ME := bnd (mT ma) fun b e => match b with | true => mb e | false => some (.val (.bool false), e)
def mOrV (ma mb : ME) : ME := bnd (mT ma) fun b e => match b with | true => some (.val (.bool true), e) | false => mb e
def mNotV (ma : ME) : ME := bnd (mT ma) fun b e => some (.val (.bool (!b)), e)
theorem re_andV (h : RE pu ta ma) (h' : RE pv tb mb) : RE (pu && pv) (tAndV ta tb) (mAndV ma mb) := by
  intro F H σ env Sl R b env' e Q q
  obtain ⟨b1, e1, h1, h2⟩ := bnd_of e
  refine rt_B h F H σ env Sl R b1 _ h1 (fun c H1 => if c = true then tb σ H1 Q else Q (.bl false) H1) fun r F1 H1 Sl1 s1 pu1 R1 r1 => ?_
  cases r1
  cases b1 with
  | true =>
    rw [if_pos rfl]
    exact h' F1 H1 σ e1 Sl1 R1 b _ h2 _ fun r' F2 H2 Sl2 s2 pu2 R2 r2 => q r' F2 H2 Sl2 (s1.trans s2) (pu_step (F := F) (F1 := F1) (F2 := F2) pu1 pu2) R2 r2
  | false =>
    cases h2
    rw [if_neg Bool.false_ne_true]
    exact q _ F1 H1 Sl1 s1 (fun hp => pu1 (Bool.and_eq_true _ _ ▸ hp).1) R1 rfl
theorem re_orV (h : RE pu ta ma) (h' : RE pv tb mb) : RE (pu && pv) (tOrV ta tb) (mOrV ma mb) := by
  intro F H σ env Sl R b env' e Q q
  obtain ⟨b1, e1, h1, h2⟩ := bnd_of e
  refine rt_B h F H σ env Sl R b1 _ h1 (fun c H1 => if c = true then Q (.bl true) H1 else tb σ H1 Q) fun r F1 H1 Sl1 s1 pu1 R1 r1 => ?_
  cases r1
  cases b1 with
  | false =>
    rw [if_neg Bool.false_ne_true]
    exact h' F1 H1 σ e1 Sl1 R1 b _ h2 _ fun r' F2 H2 Sl2 s2 pu2 R2 r2 => q r' F2 H2 Sl2 (s1.trans s2) (pu_step (F := F) (F1 := F1) (F2 := F2) pu1 pu2) R2 r2
  | true =>
    cases h2
    rw [if_pos rfl]
    exact q _ F1 H1 Sl1 s1 (fun hp => pu1 (Bool.and_eq_true _ _ ▸ hp).1) R1 rfl
theorem re_notV (h : RE pu ta ma) : RE pu (tNotV ta) (mNotV ma) := by
  intro F H σ env Sl R b env' e Q q
  obtain ⟨b1, e1, h1, h2⟩ := bnd_of e
  cases h2
  refine rt_B h F H σ env Sl R b1 _ h1 (fun c H1 => Q (.bl (!c)) H1) fun r F1 H1 Sl1 s1 pu1 R1 r1 => ?_
  cases r1
  exact q _ F1 H1 Sl1 s1 pu1 R1 rfl
/-- a if t else b -/
def mIf {α : Type} (m : MT) (ma mb : En → Option (α × En)) : En → Option (α × En) := bnd m fun b e => match b with | true => ma e | false => mb e
theorem re_if (h : RT pw t m) (h1 : RE pu ta ma) (h2 : RE pv tb mb) : RE false (tIf t ta tb) (mIf m ma mb) := by
  intro F H σ env Sl R p env' e Q q
  obtain ⟨b1, e1, x1, x2⟩ := bnd_of e
  refine h F H σ env Sl R b1 _ x1 _ fun r F1 H1 Sl1 s1 pu1 R1 r1 => ?_
  cases r1
  cases b1 with
  | true =>
    rw [if_pos rfl]
    exact h1 F1 H1 σ e1 Sl1 R1 p _ x2 _ fun r' F2 H2 Sl2 s2 pu2 R2 r2 => q r' F2 H2 Sl2 (s1.trans s2) (fun z => nomatch z) R2 r2
  | false =>
    rw [if_neg Bool.false_ne_true]
    exact h2 F1 H1 σ e1 Sl1 R1 p _ x2 _ fun r' F2 H2 Sl2 s2 pu2 R2 r2 => q r' F2 H2 Sl2 (s1.trans s2) (fun z => nomatch z) R2 r2
theorem New.mono0 {F H0 H1 H : Hp} {Sl : Nat → Addr → Prop} {o : O} {v : V} {T : Addr → Prop} (n : New F H1 H Sl o v T) (k : ∀ a, H1 a = none → H0 a = none) : New F H0 H Sl o v T := ⟨n.own, n.dj, n.tr, fun a h => k a (n.nw a h)⟩
theorem ro_if {mo mo' : MO} (h : RT pw t m) (h1 : RO ta mo) (h2 : RO tb mo') : RO (tIf t ta tb) (mIf m mo mo') := by
  intro F H σ env Sl R p env' e Q q
  obtain ⟨b1, e1, x1, x2⟩ := bnd_of e
  refine h F H σ env Sl R b1 _ x1 _ fun r F1 H1 Sl1 s1 pu1 R1 r1 => ?_
  cases r1
  cases b1 with
  | true =>
    rw [if_pos rfl]
    exact h1 F1 H1 σ e1 Sl1 R1 p _ x2 _ fun r' F2 H2 Sl2 T s2 R2 r2 => q r' F2 H2 Sl2 T (s1.trans s2) R2 (r2.mono0 fun _ => s1.tkb)
  | false =>
    rw [if_neg Bool.false_ne_true]
    exact h2 F1 H1 σ e1 Sl1 R1 p _ x2 _ fun r' F2 H2 Sl2 T s2 R2 r2 => q r' F2 H2 Sl2 T (s1.trans s2) R2 (r2.mono0 fun _ => s1.tkb)
end
end Tr
namespace Tr
open PySem PySem.Spec PyProof.Rows L2

/-! ### what is walked -/
/-- J gives the data ds, one after the other, while what F has stands -/
def ItOk (J : It) (F : Hp) (ds : List PyData) : Prop := ∀ F1 H1, Ex F F1 → Ex F1 H1 → ∀ i : Nat,
  (∀ d, ds[i]? = some d → J.go i H1 ∧ ∀ x H', J.yld i H1 x H' → ∃ F', Ex F1 F' ∧ Ex H1 H' ∧ Ex F' H' ∧ (∀ b o, F' b = some o → F1 b = some o ∨ H1 b = none) ∧ Rp F' d x) ∧ (ds[i]? = none → J.stop i H1)
def RI (wi : TI) (m : ML) : Prop := ∀ F H σ env Sl, REnv F H σ env Sl → ∀ ds env', m env = some (ds, env') → ∀ Q : It → Hp → Prop,
  (∀ J F' H' Sl', Step F H Sl F' H' Sl' → REnv F' H' σ env' Sl' → ItOk J F' ds → Q J H') → wi σ H Q
def gList : PyData → Option (List PyData)
  | .list ds => some ds
  | _ => none
def gTuple : PyData → Option (List PyData)
  | .tuple ds => some ds
  | _ => none
def mItL (me : ME) : ML := bnd me fun p e => match fzP e p with
  | some (.list ds, e2) => some (ds, e2)
  | _ => none
def mItT (me : ME) : ML := bnd me fun p e => match p with
  | .val (.tuple ds) => some (ds, e)
  | _ => none
theorem it_l {K : PySem.W.Frag} {F : Hp} {a : Addr} {vs : List V} {ds : List PyData} (h : F a = some (.lst vs)) (r : All2 (Rp F) ds vs) : ItOk (Itl K a) F ds := by
  intro F1 H1 e1 e2 i
  have hs : SqL K H1 a vs := SqL.of (e2 _ _ (e1 _ _ h))
  refine ⟨fun d hd => ?_, fun hd => ⟨vs, hs, ?_⟩⟩
  · obtain ⟨v, hv, rv⟩ := r.get hd
    refine ⟨⟨vs, v, hs, hv⟩, fun x H' y => ?_⟩
    obtain ⟨rfl, f⟩ := y
    have ex : x = v := Option.some.inj ((f vs hs).symm.trans hv)
    subst ex
    exact ⟨F1, Ex.refl _, Ex.refl _, e2, fun _ _ z => .inl z, Rp.mono e1 rv⟩
  · rw [← r.len]
    exact List.getElem?_eq_none_iff.mp hd
theorem it_t {K : PySem.W.Frag} {F : Hp} {a : Addr} {vs : List V} {ds : List PyData} (h : F a = some (.tup vs)) (r : All2 (Rp F) ds vs) : ItOk (Itt K a) F ds := by
  intro F1 H1 e1 e2 i
  have hs : SqT K H1 a vs := SqT.of (e2 _ _ (e1 _ _ h))
  refine ⟨fun d hd => ?_, fun hd => ⟨vs, hs, ?_⟩⟩
  · obtain ⟨v, hv, rv⟩ := r.get hd
    refine ⟨⟨vs, v, hs, hv⟩, fun x H' y => ?_⟩
    obtain ⟨rfl, f⟩ := y
    have ex : x = v := Option.some.inj ((f vs hs).symm.trans hv)
    subst ex
    exact ⟨F1, Ex.refl _, Ex.refl _, e2, fun _ _ z => .inl z, Rp.mono e1 rv⟩
  · rw [← r.len]
    exact List.getElem?_eq_none_iff.mp hd
theorem ri_list {K : PySem.W.Frag} {pu : Bool} {te : TE} {me : ME} (h : RE pu te me) : RI (iList K te) (mItL me) := by
  intro F H σ env Sl R ds env' e Q q
  obtain ⟨p, e1, h1, h2⟩ := bnd_of e
  split at h2
  · rename_i ds' e2 h3
    cases h2
    refine h F H σ env Sl R p _ h1 _ fun r F1 H1 Sl1 s1 pu1 R1 r1 => ?_
    obtain ⟨F2, Sl2, s2, R2, r2⟩ := fz_ok R1 r1 h3
    obtain ⟨a, vs, rfl, hF, rr⟩ := rp_list.mp r2
    exact ⟨a, rfl, ⟨vs, SqL.of (R2.ex _ _ hF)⟩, q _ F2 H1 Sl2 (s1.trans s2) R2 (it_l hF rr)⟩
  · cases h2
theorem ri_tup {K : PySem.W.Frag} {pu : Bool} {te : TE} {me : ME} (h : RE pu te me) : RI (iTup K te) (mItT me) := by
  intro F H σ env Sl R ds env' e Q q
  obtain ⟨p, e1, h1, h2⟩ := bnd_of e
  split at h2
  · cases h2
    refine h F H σ env Sl R _ _ h1 _ fun r F1 H1 Sl1 s1 pu1 R1 r1 => ?_
    obtain ⟨a, vs, rfl, hF, rr⟩ := rp_tuple.mp (pr_val r1)
    exact ⟨a, rfl, ⟨vs, SqT.of (R1.ex _ _ hF)⟩, q _ F1 H1 Sl1 s1 R1 (it_t hF rr)⟩
  · cases h2
/-- lo, lo + 1, .. -/
def rgD (lo : Int) (n : Nat) : List PyData := (List.range n).map fun k => .int (lo + (k : Nat))
theorem rgD_get {lo : Int} {n i : Nat} : (rgD lo n)[i]? = if i < n then some (.int (lo + (i : Nat))) else none := by
  unfold rgD
  rw [List.getElem?_map]
  by_cases h : i < n
  · rw [if_pos h, List.getElem?_range h]; rfl
  · rw [if_neg h, List.getElem?_eq_none (by rw [List.length_range]; omega)]; rfl
theorem rgD_len {lo : Int} {n : Nat} : (rgD lo n).length = n := by unfold rgD; rw [List.length_map, List.length_range]
theorem it_r {F : Hp} {lo : Int} {n : Nat} : ItOk (Itr lo n) F (rgD lo n) := by
  intro F1 H1 e1 e2 i
  rw [rgD_get]
  refine ⟨fun d hd => ?_, fun hd => ?_⟩
  · split at hd
    · rename_i hi
      cases hd
      refine ⟨hi, fun x H' y => ?_⟩
      obtain ⟨rfl, rfl⟩ := y
      exact ⟨F1, Ex.refl _, Ex.refl _, e2, fun _ _ z => .inl z, rfl⟩
    · cases hd
  · split at hd
    · cases hd
    · rename_i hi
      exact Nat.le_of_not_lt hi
def mRng1 (ma : MA) : ML := bnd ma fun ps e => match ps with
  | [.val (.int j)] => if -(2 ^ 62) ≤ j ∧ j < 2 ^ 62 then some (rgD 0 j.toNat, e) else none
  | _ => none
def mRng2 (ma : MA) : ML := bnd ma fun ps e => match ps with
  | [.val (.int i), .val (.int j)] => if -(2 ^ 62) ≤ i ∧ i < 2 ^ 62 ∧ -(2 ^ 62) ≤ j ∧ j < 2 ^ 62 then some (rgD i (j - i).toNat, e) else none
  | _ => none
theorem ri_rng1 {pu : Bool} {ta : TA} {ma : MA} (h : RA pu ta ma) : RI (iRng1 ta) (mRng1 ma) := by
  intro F H σ env Sl R ds env' e Q q
  obtain ⟨ps, e1, h1, h2⟩ := bnd_of e
  split at h2
  · split at h2
    · rename_i j hj
      cases h2
      refine h F H σ env Sl R _ _ h1 _ fun r F1 H1 Sl1 s1 pu1 R1 r1 => ?_
      cases r1 with
      | cons x t =>
        cases t
        exact ⟨j, by rw [pint x], hj.1, hj.2, q _ F1 H1 Sl1 s1 R1 it_r⟩
    · cases h2
  · cases h2
theorem ri_rng2 {pu : Bool} {ta : TA} {ma : MA} (h : RA pu ta ma) : RI (iRng2 ta) (mRng2 ma) := by
  intro F H σ env Sl R ds env' e Q q
  obtain ⟨ps, e1, h1, h2⟩ := bnd_of e
  split at h2
  · split at h2
    · rename_i i j hj
      cases h2
      refine h F H σ env Sl R _ _ h1 _ fun r F1 H1 Sl1 s1 pu1 R1 r1 => ?_
      cases r1 with
      | cons x t =>
        cases t with
        | cons y t =>
          cases t
          exact ⟨i, j, by rw [pint x, pint y], hj, q _ F1 H1 Sl1 s1 R1 it_r⟩
    · cases h2
  · cases h2
/-- i, item -/
def enD (ds : List PyData) : List PyData := (List.range ds.length).map fun k => .tuple [.int (k : Nat), ds.getD k .none]
theorem enD_get {ds : List PyData} {i : Nat} : (enD ds)[i]? = (ds[i]?).map fun d => .tuple [.int (i : Nat), d] := by
  unfold enD
  rw [List.getElem?_map]
  by_cases h : i < ds.length
  · rw [List.getElem?_range h, List.getElem?_eq_getElem h]
    simp [List.getD_eq_getElem?_getD, h]
  · rw [List.getElem?_eq_none (by rw [List.length_range]; omega), List.getElem?_eq_none (by omega)]; rfl
def mEnum (ma : MA) : ML := bnd ma fun ps e => match ps with
  | [p] => match fzP e p with
    | some (.list ds, e2) => some (enD ds, e2)
    | _ => none
  | _ => none
theorem it_e {K : PySem.W.Frag} {F : Hp} {a : Addr} {vs : List V} {ds : List PyData} (h : F a = some (.lst vs)) (r : All2 (Rp F) ds vs) : ItOk (Ite K a) F (enD ds) := by
  intro F1 H1 e1 e2 i
  have hs : SqL K H1 a vs := SqL.of (e2 _ _ (e1 _ _ h))
  rw [enD_get]
  refine ⟨fun d hd => ?_, fun hd => ⟨vs, hs, ?_⟩⟩
  · cases hd' : ds[i]? with
    | none => rw [hd'] at hd; cases hd
    | some d' =>
      rw [hd'] at hd
      cases hd
      obtain ⟨v, hv, rv⟩ := r.get hd'
      refine ⟨⟨vs, v, hs, hv⟩, fun x H' y => ?_⟩
      obtain ⟨T, x', rfl, nT, rfl, f⟩ := y
      have ex : x' = v := Option.some.inj ((f vs hs).symm.trans hv)
      subst ex
      obtain ⟨y1, y2, y3, y4, y5⟩ := new_tup (ds := [.int (i : Nat), d']) (vs := [.int (i : Nat), x']) e2 nT (.cons rfl (.cons (Rp.mono e1 rv) .nil))
      exact ⟨_, y1, y2, y3, y4, y5⟩
  · cases hd' : ds[i]? with
    | none =>
      rw [← r.len]
      exact List.getElem?_eq_none_iff.mp hd'
    | some d' => rw [hd'] at hd; cases hd
theorem ri_enum {K : PySem.W.Frag} {pu : Bool} {ta : TA} {ma : MA} (h : RA pu ta ma) : RI (iEnum K ta) (mEnum ma) := by
  intro F H σ env Sl R ds env' e Q q
  obtain ⟨ps, e1, h1, h2⟩ := bnd_of e
  split at h2
  · split at h2
    · rename_i ds' e2 h3
      cases h2
      refine h F H σ env Sl R _ _ h1 _ fun r F1 H1 Sl1 s1 pu1 R1 r1 => ?_
      cases r1 with
      | cons x t =>
        cases t
        obtain ⟨F2, Sl2, s2, R2, r2⟩ := fz_ok R1 x h3
        obtain ⟨a, vs, rfl, hF, rr⟩ := rp_list.mp r2
        exact ⟨a, vs, rfl, SqL.of (R2.ex _ _ hF), q _ F2 H1 Sl2 (s1.trans s2) R2 (it_e hF rr)⟩
    · cases h2
  · cases h2

/-! ### where it goes -/
/-- is: the places that are stored to -/
def RT' (is : List Nat) (g : TG) (mg : PyData → En → Option En) : Prop := ∀ F H σ env Sl x d, REnv F H σ env Sl → Rp F d x → ∀ env', mg d env = some env' → ∀ Q : L2.St → Hp → Prop,
  (∀ σ' Sl', REnv F H σ' env' Sl' → (∀ i a, Sl' i a → Sl i a) → (∀ i, i ∉ is → σ'[i]? = σ[i]?) → σ'.length = σ.length → Q σ' H) → g x σ H Q
/-- a name takes a thing -/
theorem REnv.put {F H : Hp} {σ : L2.St} {env : En} {Sl : Nat → Addr → Prop} {i : Nat} {o : O} {v : V} {T : Addr → Prop} (R : REnv F H σ env Sl) (w : Own F H o v T) (dj : ∀ j a, T a → Sl j a → j = i) (tr : ∀ a, T a → F a = none ∧ ∃ u, H a = some u) :
    REnv F H (σ.set i (some v)) (env.set i (some o)) (fun j a => (j ≠ i ∧ Sl j a) ∨ (j = i ∧ T a)) := by
  refine ⟨R.ex, by rw [List.length_set, List.length_set]; exact R.len, fun j u h => ?_, fun j k a x y => ?_, fun j a x => ?_⟩
  · rcases set_at h with ⟨rfl, e2, hl⟩ | ⟨ne, h'⟩
    · cases e2
      refine ⟨v, ?_, w.sub fun a s => .inr ⟨rfl, s⟩⟩
      rw [List.getElem?_set_self (by rw [R.len]; exact hl)]
    · obtain ⟨v2, e2, w2⟩ := R.at_ j u h'
      refine ⟨v2, ?_, w2.sub fun a s => .inl ⟨ne, s⟩⟩
      rw [List.getElem?_set_ne (Ne.symm ne)]
      exact e2
  · rcases x with ⟨n1, x⟩ | ⟨rfl, x⟩
    · rcases y with ⟨n2, y⟩ | ⟨rfl, y⟩
      · exact R.dj j k a x y
      · exact absurd (dj j a y x) n1
    · rcases y with ⟨n2, y⟩ | ⟨rfl, y⟩
      · exact absurd (dj k a x y) n2
      · rfl
  · rcases x with ⟨_, x⟩ | ⟨_, x⟩
    · exact R.tr j a x
    · exact tr a x
theorem REnv.putD {F H : Hp} {σ : L2.St} {env : En} {Sl : Nat → Addr → Prop} {i : Nat} {d : PyData} {v : V} (R : REnv F H σ env Sl) (w : Rp F d v) : REnv F H (σ.set i (some v)) (env.set i (some (.fz d))) (lose Sl i) := by
  have h := R.put (i := i) (o := .fz d) (v := v) (T := fun _ => False) w (fun _ _ z => z.elim) (fun _ z => z.elim)
  exact ⟨h.ex, h.len, fun j u q => by
    obtain ⟨v', e, w'⟩ := h.at_ j u q
    exact ⟨v', e, w'.sub fun a s => s.elim id fun z => z.2.elim⟩, fun j k a x y => R.dj j k a x.2 y.2, fun j a x => R.tr j a x.2⟩
theorem pin_set {σ : L2.St} {i : Nat} {x : Option V} : ∀ j, j ∉ [i] → (σ.set i x)[j]? = σ[j]? := fun j e => by
  rw [List.getElem?_set_ne]
  intro z
  exact e (by rw [z]; simp)
def mgN (i : Nat) : PyData → En → Option En := fun d env => some (env.set i (some (.fz d)))
theorem rg_name {i : Nat} : RT' [i] (gName i) (mgN i) := by
  intro F H σ env Sl x d R r env' e Q q
  cases e
  exact q _ _ (R.putD r) (fun _ _ z => z.2) pin_set (List.length_set ..)
def mgTs : List Nat → List PyData → En → Option En
  | [], [], env => some env
  | i :: is, d :: ds, env => mgTs is ds (env.set i (some (.fz d)))
  | _, _, _ => none
def mgT (is : List Nat) : PyData → En → Option En := fun d env => match d with
  | .tuple ds => mgTs is ds env
  | _ => none
def RTs (g : TGs) (is : List Nat) : Prop := ∀ F H σ env Sl xs ds, REnv F H σ env Sl → All2 (Rp F) ds xs → ∀ env', mgTs is ds env = some env' → ∀ Q : L2.St → Hp → Prop,
  (∀ σ' Sl', REnv F H σ' env' Sl' → (∀ i a, Sl' i a → Sl i a) → (∀ i, i ∉ is → σ'[i]? = σ[i]?) → σ'.length = σ.length → Q σ' H) → g xs σ H Q
theorem rgs_nil : RTs gNil [] := by
  intro F H σ env Sl xs ds R r env' e Q q
  cases r with
  | nil => cases e; exact ⟨rfl, q σ Sl R (fun _ _ z => z) (fun _ _ => rfl) rfl⟩
  | cons _ _ => cases e
theorem rgs_cons {i : Nat} {g : TGs} {is : List Nat} (h : RTs g is) : RTs (gCons (gName i) g) (i :: is) := by
  intro F H σ env Sl xs ds R r env' e Q q
  cases r with
  | nil => cases e
  | cons a b =>
    refine ⟨_, _, rfl, ?_⟩
    exact h F H _ _ _ _ _ (R.putD a) b env' e Q fun σ' Sl' R' k p hl => q σ' Sl' R' (fun j x z => (k j x z).2) (fun j z => (p j fun y => z (by simp [y])).trans (pin_set j fun y => z (by simp at y; simp [y]))) (hl.trans (List.length_set ..))
theorem mgTs_len : ∀ {is : List Nat} {ds : List PyData} {env env' : En}, mgTs is ds env = some env' → ds.length = is.length
  | [], [], _, _, _ => rfl
  | [], _ :: _, _, _, h => nomatch h
  | _ :: _, [], _, _, h => nomatch h
  | _ :: is, _ :: ds, _, _, h => by
    have h' : mgTs is ds _ = some _ := h
    rw [List.length_cons, List.length_cons, mgTs_len h']
theorem rg_tup {K : PySem.W.Frag} {n : Nat} {g : TGs} {is : List Nat} (h : RTs g is) (hn : is.length = n := by rfl) : RT' is (gTup K n g) (mgT is) := by
  intro F H σ env Sl x d R r env' e Q q
  unfold mgT at e
  split at e
  · rename_i ds
    obtain ⟨a, vs, rfl, hF, rr⟩ := rp_tuple.mp r
    exact ⟨a, vs, rfl, SqT.of (R.ex _ _ hF), by rw [← rr.len, mgTs_len e]; exact hn, h F H σ env Sl vs ds R rr env' e Q q⟩
  · cases e
/-! ### comprehensions -/
def wipeE (env : En) : List Nat → En
  | [] => env
  | v :: vs => (wipeE env vs).set v none
theorem REnv.forget {F H : Hp} {σ : L2.St} {env : En} {Sl : Nat → Addr → Prop} {i : Nat} (R : REnv F H σ env Sl) : REnv F H (σ.set i none) (env.set i none) (lose Sl i) := by
  refine ⟨R.ex, by rw [List.length_set, List.length_set]; exact R.len, fun j u h => ?_, fun j k a x y => R.dj j k a x.2 y.2, fun j a x => R.tr j a x.2⟩
  rcases set_at h with ⟨rfl, e2, _⟩ | ⟨ne, h'⟩
  · cases e2
  · obtain ⟨v2, e2, w2⟩ := R.at_ j u h'
    refine ⟨v2, ?_, w2.sub fun a s => ⟨ne, s⟩⟩
    rw [List.getElem?_set_ne (Ne.symm ne)]
    exact e2
theorem REnv.wiped {F H : Hp} {σ : L2.St} {env : En} : ∀ {vs : List Nat} {Sl : Nat → Addr → Prop}, REnv F H σ env Sl → ∃ Sl', REnv F H (wipe σ vs) (wipeE env vs) Sl' ∧ ∀ i a, Sl' i a → Sl i a
  | [], Sl, R => ⟨Sl, R, fun _ _ z => z⟩
  | v :: vs, Sl, R => by
    obtain ⟨Sl1, R1, k1⟩ := REnv.wiped (vs := vs) R
    exact ⟨_, R1.forget, fun i a z => k1 i a z.2⟩
/-- only fewer things are held -/
theorem Step.fewer {F H : Hp} {Sl Sl' : Nat → Addr → Prop} (k : ∀ i a, Sl' i a → Sl i a) : Step F H Sl F H Sl' := ⟨Ex.refl F, fun _ _ h _ => h, fun _ _ h => ⟨_, h⟩, fun i b h => .inl (k i b h), fun _ _ h => .inl h⟩
/-- behind a block: what it told of the block's names is forgotten -/
theorem REnv.unwipe {F H : Hp} {σ : L2.St} {env : En} {vs : List Nat} {Sl : Nat → Addr → Prop} (R : REnv F H (wipe σ vs) env Sl) : REnv F H σ env Sl :=
  ⟨R.ex, by rw [← R.len, wipe_length], fun i o h => by
    obtain ⟨v, e, w⟩ := R.at_ i o h
    exact ⟨v, (wipe_some e).1, w⟩, R.dj, R.tr⟩
def mLcGo (mg : PyData → En → Option En) (mt : MT) (me : ME) (vs : List Nat) : List PyData → List PyData → ML
  | [], acc, env => some (acc, env)
  | d :: ds, acc, env => match mg d env with
    | some e1 => match mt e1 with
      | some (true, e2) => match me e2 with
        | some (p, e3) => match fzP e3 p with
          | some (y, e4) => if acc.length < sizeLine then mLcGo mg mt me vs ds (acc ++ [y]) (wipeE e4 vs) else none
          | none => none
        | none => none
      | some (false, e2) => mLcGo mg mt me vs ds acc (wipeE e2 vs)
      | none => none
    | none => none
def mLc (mi : ML) (mg : PyData → En → Option En) (mt : MT) (me : ME) (vs : List Nat) : ML := bnd mi fun ds e => mLcGo mg mt me vs ds [] (wipeE e vs)
end Tr
namespace Tr
open PySem PySem.Spec PyProof.Rows L2

/-! ### a comprehension -/
theorem fresh_notin {F H : Hp} {σ : L2.St} {env : En} {Sl : Nat → Addr → Prop} (R : REnv F H σ env Sl) {p : Addr} (h : H p = none) : ∀ i, ¬ Sl i p := fun i z => by
  obtain ⟨_, o, e⟩ := R.tr i p z
  rw [h] at e
  cases e
/-- a list apart from all that is held is written -/
theorem REnv.side {F H : Hp} {σ : L2.St} {env : En} {Sl : Nat → Addr → Prop} {p : Addr} {u : HO} (R : REnv F H σ env Sl) (hf : F p = none) (hn : ∀ i, ¬ Sl i p) : REnv F (upd H p u) σ env Sl := by
  refine ⟨fun b o h => ?_, R.len, fun i o h => ?_, R.dj, fun i a x => ?_⟩
  · rw [upd_ne (fun z => by rw [z, hf] at h; cases h)]
    exact R.ex _ _ h
  · obtain ⟨v, e, w⟩ := R.at_ i o h
    exact ⟨v, e, w.ext (Ex.refl F) fun a u' s q => by
      rw [upd_ne (fun z => hn i (by rw [← z]; exact s))]
      exact q⟩
  · obtain ⟨h1, o, h2⟩ := R.tr i a x
    refine ⟨h1, o, ?_⟩
    rw [upd_ne (fun z => hn i (by rw [← z]; exact x))]
    exact h2

theorem wipe_at {σ : L2.St} {i : Nat} : ∀ {vs : List Nat}, (wipe σ vs)[i]? = if i ∈ vs then (if i < σ.length then some none else none) else σ[i]?
  | [] => by rw [if_neg (by simp)]; rfl
  | v :: vs => by
    show ((wipe σ vs).set v none)[i]? = _
    by_cases e : v = i
    · subst e
      rw [if_pos (by simp), List.getElem?_set]
      simp only [if_true, wipe_length]
    · rw [List.getElem?_set_ne e, wipe_at]
      have e' : ¬ i = v := fun z => e z.symm
      simp only [List.mem_cons, e', false_or]
theorem wipe_eq {σ σ' : L2.St} {vs is : List Nat} (h : ∀ i, i ∉ is → σ'[i]? = (wipe σ vs)[i]?) (hl : σ'.length = σ.length) (hs : ∀ i ∈ is, i ∈ vs) : wipe σ' vs = wipe σ vs := by
  refine List.ext_getElem? fun i => ?_
  rw [wipe_at, wipe_at, hl]
  by_cases hv : i ∈ vs
  · rw [if_pos hv, if_pos hv]
  · rw [if_neg hv, if_neg hv, h i (fun z => hv (hs i z)), wipe_at, if_neg hv]
theorem step_wiped {F H : Hp} {σ : L2.St} {env : En} {vs : List Nat} {Sl : Nat → Addr → Prop} {σ' : L2.St} (R : REnv F H σ' env Sl) (e : wipe σ' vs = wipe σ vs) : ∃ Sl', REnv F H (wipe σ vs) (wipeE env vs) Sl' ∧ ∀ i a, Sl' i a → Sl i a := by
  obtain ⟨Sl', R', k⟩ := R.wiped (vs := vs)
  rw [e] at R'
  exact ⟨Sl', R', k⟩
theorem Step.side {F H F' H' : Hp} {Sl Sl' : Nat → Addr → Prop} {p : Addr} {u : HO} (s : Step F H Sl F' H' Sl') (h : H p = none) : Step F H Sl F' (upd H' p u) Sl' :=
  ⟨s.exF, fun b o e n => by rw [upd_ne (ne_of_none e h)]; exact s.fr b o e n, fun b o e => by rw [upd_ne (ne_of_none e h)]; exact s.tk b o e, s.own, s.fz⟩
theorem lc_core {wi : TI} {g : TG} {tt : TT} {te : TE} {vs is : List Nat} {mi : ML} {mg : PyData → En → Option En} {mt : MT} {me : ME} {pt pe : Bool} (hi : RI wi mi) (hg : RT' is g mg) (ht : RT pt tt mt) (he : RE pe te me) (hs : ∀ i ∈ is, i ∈ vs) :
    ∀ F H σ env Sl, REnv F H σ env Sl → ∀ ds env', mLc mi mg mt me vs env = some (ds, env') → ∀ Q : VK,
      (∀ p ys F' H' Sl', Step F H Sl F' H' Sl' → REnv F' H' σ env' Sl' → All2 (Rp F') ds ys → F' p = none → H p = none → (∀ i, ¬ Sl' i p) → H' p = some (.lst ys) → Q (.ref p) H') → tLc wi g tt te vs σ H Q := by
  intro F H σ env Sl R ds env' e Q q
  obtain ⟨xs, e0, h1, h2⟩ := bnd_of e
  refine hi F H σ env Sl R xs _ h1 _ fun J F1 H1 Sl1 s1 R1 hJ => ?_
  intro p np
  obtain ⟨Sl2, R2, k2⟩ := R1.wiped (vs := vs)
  have n2 : ∀ i, ¬ Sl2 i p := fun i z => fresh_notin R1 np i (k2 i p z)
  have R3 : REnv F1 (upd H1 p (.lst [])) (wipe σ vs) (wipeE e0 vs) Sl2 := R2.side (R1.ex.none np) n2
  have s3 : Step F1 H1 Sl1 F1 (upd H1 p (.lst [])) Sl2 := (Step.fewer k2).trans (Step.grow (Ex.refl F1) (Ex.new np) fun _ _ z => .inl z)
  refine ⟨fun i m Hi => ∃ Fi Sli envi acc ys, i ≤ xs.length ∧ m = xs.length - i ∧ REnv Fi Hi (wipe σ vs) envi Sli ∧ Step F1 H1 Sl1 Fi Hi Sli ∧ mLcGo mg mt me vs (xs.drop i) acc envi = some (ds, env') ∧ All2 (Rp Fi) acc ys ∧ Fi p = none ∧ (∀ i, ¬ Sli i p) ∧ Hi p = some (.lst ys), ?_, ?_⟩
  · exact ⟨xs.length, F1, Sl2, wipeE e0 vs, [], [], Nat.zero_le _, by omega, R3, s3, h2, .nil, R1.ex.none np, n2, upd_same⟩
  · rintro i m Hi ⟨Fi, Sli, envi, acc, ys, hil, hm, Ri, si, go, ra, fp, nsp, hp⟩
    cases hx : xs[i]? with
    | none =>
      have hge : xs.length ≤ i := List.getElem?_eq_none_iff.mp hx
      rw [List.drop_eq_nil_of_le hge] at go
      have go' : some (acc, envi) = some (ds, env') := go
      cases go'
      refine .inl ⟨(hJ Fi Hi si.exF Ri.ex i).2 hx, ?_⟩
      exact q p ys Fi Hi Sli (s1.trans si) Ri.unwipe ra fp (s1.tkb np) nsp hp
    | some d =>
      have hlt : i < xs.length := (List.getElem?_eq_some_iff.mp hx).1
      have hd : xs.drop i = d :: xs.drop (i + 1) := by
        rw [List.drop_eq_getElem_cons hlt]
        have := (List.getElem?_eq_some_iff.mp hx).2
        rw [this]
      rw [hd] at go
      unfold mLcGo at go
      obtain ⟨jg, jy⟩ := (hJ Fi Hi si.exF Ri.ex i).1 d hx
      refine .inr ⟨jg, fun H' => ∃ Fi Sli envi acc ys, i + 1 ≤ xs.length ∧ REnv Fi H' (wipe σ vs) envi Sli ∧ Step F1 H1 Sl1 Fi H' Sli ∧ mLcGo mg mt me vs (xs.drop (i + 1)) acc envi = some (ds, env') ∧ All2 (Rp Fi) acc ys ∧ Fi p = none ∧ (∀ i, ¬ Sli i p) ∧ H' p = some (.lst ys), fun H' ⟨Fj, Slj, envj, accj, ysj, z1, z2, z3, z4, z5, z6, z7, z8⟩ => ⟨xs.length - (i + 1), by omega, Fj, Slj, envj, accj, ysj, z1, rfl, z2, z3, z4, z5, z6, z7, z8⟩, fun x H' hy => ?_⟩
      obtain ⟨Fj, f1, f2, f3, f4, f5⟩ := jy x H' hy
      have Rj : REnv Fj H' (wipe σ vs) envi Sli := Ri.grow f1 f2 f3 f4
      have sj : Step F1 H1 Sl1 Fj H' Sli := si.trans (Step.grow f1 f2 f4)
      have fpj : Fj p = none := by
        cases z : Fj p with
        | none => rfl
        | some o =>
          rcases f4 p o z with y | y
          · rw [fp] at y; cases y
          · rw [hp] at y; cases y
      cases hg1 : mg d envi with
      | none => rw [hg1] at go; cases go
      | some e1 =>
        rw [hg1] at go
        refine hg Fj H' (wipe σ vs) envi Sli x d Rj f5 e1 hg1 _ fun σ2 Sl4 R4 k4 p4 l4 => ?_
        have hl4 : σ2.length = σ.length := by rw [l4, wipe_length]
        have weq : wipe σ2 vs = wipe σ vs := wipe_eq p4 hl4 hs
        refine ⟨weq, ?_⟩
        have s4 : Step F1 H1 Sl1 Fj H' Sl4 := sj.trans (Step.fewer k4)
        have nsp4 : ∀ i, ¬ Sl4 i p := fun i z => nsp i (k4 i p z)
        have hp4 : H' p = some (.lst ys) := f2 _ _ hp
        cases ht1 : mt e1 with
        | none => simp only [ht1] at go; cases go
        | some tb =>
          obtain ⟨b, e2⟩ := tb
          simp only [ht1] at go
          refine ht Fj H' σ2 e1 Sl4 R4 b e2 ht1 _ fun b' F5 H5 Sl5 s5 pu5 R5 rb => ?_
          cases rb
          have s5' := s4.trans s5
          have hp5 : H5 p = some (.lst ys) := s5.fr _ _ hp4 nsp4
          have fp5 : F5 p = none := by
            cases z : F5 p with
            | none => rfl
            | some o =>
              rcases s5.fz p o z with y | y | ⟨j, y⟩
              · rw [fpj] at y; cases y
              · rw [hp4] at y; cases y
              · exact absurd y (nsp4 j)
          have nsp5 : ∀ i, ¬ Sl5 i p := fun i z => by
            rcases s5.own i p z with y | y
            · exact nsp4 i y
            · rw [hp4] at y; cases y
          have ra5 : All2 (Rp F5) acc ys := all_mono (f1.trans s5.exF) ra
          cases b with
          | false =>
            rw [if_neg Bool.false_ne_true]
            obtain ⟨Sl6, R6, k6⟩ := step_wiped (σ := σ) (vs := vs) R5 weq
            exact ⟨F5, Sl6, _, acc, ys, hlt, R6, s5'.trans (Step.fewer k6), go, ra5, fp5, fun i z => nsp5 i (k6 i p z), hp5⟩
          | true =>
            rw [if_pos rfl]
            cases he1 : me e2 with
            | none => simp only [he1] at go; cases go
            | some pe3 =>
              obtain ⟨pp, e3⟩ := pe3
              simp only [he1] at go
              cases hz1 : fzP e3 pp with
              | none => simp only [hz1] at go; cases go
              | some ye4 =>
                obtain ⟨y, e4⟩ := ye4
                simp only [hz1] at go
                split at go
                · rename_i hlen
                  refine he F5 H5 σ2 e2 Sl5 R5 pp e3 he1 _ fun v F6 H6 Sl6 s6 pu6 R6 r6 => ?_
                  obtain ⟨F7, Sl7, s7, R7, r7⟩ := fz_ok R6 r6 hz1
                  have s67 := s6.trans s7
                  have hp6 : H6 p = some (.lst ys) := s67.fr _ _ hp5 nsp5
                  have fp6 : F7 p = none := by
                    cases z : F7 p with
                    | none => rfl
                    | some o =>
                      rcases s67.fz p o z with y | y | ⟨j, y⟩
                      · rw [fp5] at y; cases y
                      · rw [hp5] at y; cases y
                      · exact absurd y (nsp5 j)
                  have nsp6 : ∀ i, ¬ Sl7 i p := fun i z => by
                    rcases s67.own i p z with y | y
                    · exact nsp5 i y
                    · rw [hp5] at y; cases y
                  have ra7 : All2 (Rp F7) (acc ++ [y]) (ys ++ [v]) := (all_mono s67.exF ra5).snoc r7
                  obtain ⟨Sl8, R8, k8⟩ := step_wiped (σ := σ) (vs := vs) R7 weq
                  have nsp8 : ∀ i, ¬ Sl8 i p := fun i z => nsp6 i (k8 i p z)
                  exact ⟨ys, hp6, by rw [← ra.len]; exact hlen, F7, Sl8, _, acc ++ [y], ys ++ [v], hlt, R8.side fp6 nsp8, (s5'.trans (s67.trans (Step.fewer k8))).side np, go, ra7, fp6, nsp8, upd_same⟩
                · cases go
/-- a list comprehension: its list is new; fixed at once, or held -/
theorem re_lc {wi : TI} {g : TG} {tt : TT} {te : TE} {vs is : List Nat} {mi : ML} {mg : PyData → En → Option En} {mt : MT} {me : ME} {pt pe : Bool} (hi : RI wi mi) (hg : RT' is g mg) (ht : RT pt tt mt) (he : RE pe te me) (hs : ∀ i ∈ is, i ∈ vs := by decide) :
    RE false (tLc wi g tt te vs) (mLE (mLc mi mg mt me vs)) := by
  intro F H σ env Sl R r env' e Q q
  obtain ⟨ds, e1, h1, h2⟩ := bnd_of e
  cases h2
  refine lc_core hi hg ht he hs F H σ env Sl R ds _ h1 Q fun p ys F' H' Sl' s R' ra fp np nsp hp => ?_
  have ex : Ex F' (upd F' p (.lst ys)) := Ex.new fp
  refine q _ (upd F' p (.lst ys)) H' Sl' ⟨s.exF.trans ex, s.fr, s.tk, s.own, fun b o z => ?_⟩ (fun z => nomatch z) ⟨fun b o z => ?_, R'.len, fun i o z => ?_, R'.dj, fun i a z => ?_⟩ (rp_list.mpr ⟨p, ys, rfl, upd_same, all_mono ex ra⟩)
  · by_cases hb : b = p
    · subst hb; exact .inr (.inl np)
    · rw [upd_ne hb] at z; exact s.fz b o z
  · by_cases hb : b = p
    · subst hb; rw [upd_same] at z; cases z; exact hp
    · rw [upd_ne hb] at z; exact R'.ex b o z
  · obtain ⟨v, e2, w⟩ := R'.at_ i o z
    exact ⟨v, e2, w.ext ex fun _ _ _ y => y⟩
  · obtain ⟨y1, y2⟩ := R'.tr i a z
    refine ⟨?_, y2⟩
    rw [upd_ne fun y => nsp i (by rw [← y]; exact z)]
    exact y1
theorem ro_lc {wi : TI} {g : TG} {tt : TT} {te : TE} {vs is : List Nat} {mi : ML} {mg : PyData → En → Option En} {mt : MT} {me : ME} {pt pe : Bool} (hi : RI wi mi) (hg : RT' is g mg) (ht : RT pt tt mt) (he : RE pe te me) (hs : ∀ i ∈ is, i ∈ vs := by decide) :
    RO (tLc wi g tt te vs) (mLO (mLc mi mg mt me vs)) := by
  intro F H σ env Sl R r env' e Q q
  obtain ⟨ds, e1, h1, h2⟩ := bnd_of e
  cases h2
  refine lc_core hi hg ht he hs F H σ env Sl R ds _ h1 Q fun p ys F' H' Sl' s R' ra fp np nsp hp => ?_
  exact q _ F' H' Sl' (fun a => a = p) s R' ⟨⟨p, ys, rfl, rfl, hp, ra⟩, fun i a z y => nsp i (by rw [← z]; exact y), fun a z => by rw [z]; exact ⟨fp, _, hp⟩, fun a z => by rw [z]; exact np⟩
end Tr
namespace Tr
open PySem PySem.Spec PyProof.Rows L2

/-! ### statements -/
inductive Ctl where | nx | bk | ct | rt (o : O)
abbrev MS := En → Option (Ctl × En)
/-- what is to hold behind it; pn: the place of the parameter whose list the caller holds -/
def EndsAt (pn : Option Nat) (D : Ends) (F0 H0 : Hp) (Sl0 : Nat → Addr → Prop) (σ0 : L2.St) (c : Ctl) (env' : En) : Prop := match c with
  | .nx => ∀ F' H' σ' Sl', Step F0 H0 Sl0 F' H' Sl' → REnv F' H' σ' env' Sl' → (∀ i, pn = some i → σ'[i]? = σ0[i]?) → D.nx σ' H'
  | .bk => ∀ F' H' σ' Sl', Step F0 H0 Sl0 F' H' Sl' → REnv F' H' σ' env' Sl' → (∀ i, pn = some i → σ'[i]? = σ0[i]?) → D.bk σ' H'
  | .ct => ∀ F' H' σ' Sl', Step F0 H0 Sl0 F' H' Sl' → REnv F' H' σ' env' Sl' → (∀ i, pn = some i → σ'[i]? = σ0[i]?) → D.ct σ' H'
  | .rt o => ∀ v F' H' σ' Sl' T, Step F0 H0 Sl0 F' H' Sl' → REnv F' H' σ' env' Sl' → (∀ i, pn = some i → σ'[i]? = σ0[i]?) → Own F' H' o v T → (∀ i a, T a → ¬ Sl' i a) → (∀ a, T a → F' a = none ∧ ∃ u, H' a = some u) →
      (∀ a, T a → H0 a = none ∨ ∃ i, pn ≠ some i ∧ Sl0 i a) → D.rt v H'
def RS (pn : Option Nat) (t : TS) (m : MS) : Prop := ∀ F H σ env Sl, REnv F H σ env Sl → ∀ c env', m env = some (c, env') → ∀ D : Ends, EndsAt pn D F H Sl σ c env' → t D σ H
theorem EndsAt.step {pn : Option Nat} {D : Ends} {F H F1 H1 : Hp} {Sl Sl1 : Nat → Addr → Prop} {σ σ1 : L2.St} {c : Ctl} {env' : En} (h : EndsAt pn D F H Sl σ c env') (s : Step F H Sl F1 H1 Sl1) (p : ∀ i, pn = some i → σ1[i]? = σ[i]?) : EndsAt pn D F1 H1 Sl1 σ1 c env' := by
  cases c with
  | nx => exact fun F' H' σ' Sl' s' R q => h F' H' σ' Sl' (s.trans s') R fun i e => (q i e).trans (p i e)
  | bk => exact fun F' H' σ' Sl' s' R q => h F' H' σ' Sl' (s.trans s') R fun i e => (q i e).trans (p i e)
  | ct => exact fun F' H' σ' Sl' s' R q => h F' H' σ' Sl' (s.trans s') R fun i e => (q i e).trans (p i e)
  | rt o =>
    refine fun v F' H' σ' Sl' T s' R q w dj tr nw => h v F' H' σ' Sl' T (s.trans s') R (fun i e => (q i e).trans (p i e)) w dj tr fun a ha => ?_
    rcases nw a ha with z | ⟨i, hi, z⟩
    · exact .inl (s.tkb z)
    · rcases s.own i a z with y | y
      · exact .inr ⟨i, hi, y⟩
      · exact .inl y
def mSeq (m n : MS) : MS := fun env => match m env with
  | some (.nx, e) => n e
  | r => r
theorem rs_seq {pn : Option Nat} {t u : TS} {m n : MS} (h : RS pn t m) (h' : RS pn u n) : RS pn (tSeq t u) (mSeq m n) := by
  intro F H σ env Sl R c env' e D q
  unfold mSeq at e
  split at e
  · rename_i e1 h1
    refine h F H σ env Sl R .nx e1 h1 _ fun F' H' σ' Sl' s R' p => ?_
    exact h' F' H' σ' e1 Sl' R' c env' e D (q.step s p)
  · rename_i hn
    refine h F H σ env Sl R c env' e _ ?_
    cases c with
    | nx => exact absurd e (hn env')
    | bk => exact q
    | ct => exact q
    | rt o => exact q
def mNext : MS := fun env => some (.nx, env)
theorem rs_next {pn : Option Nat} : RS pn tNext mNext := by
  intro F H σ env Sl R c env' e D q
  cases e
  exact q F H σ Sl Step.refl R fun _ _ => rfl
def mBreak : MS := fun env => some (.bk, env)
theorem rs_break {pn : Option Nat} : RS pn tBreak mBreak := by
  intro F H σ env Sl R c env' e D q
  cases e
  exact q F H σ Sl Step.refl R fun _ _ => rfl
def mCont : MS := fun env => some (.ct, env)
theorem rs_cont {pn : Option Nat} : RS pn tCont mCont := by
  intro F H σ env Sl R c env' e D q
  cases e
  exact q F H σ Sl Step.refl R fun _ _ => rfl
def mNever : MS := fun _ => none
theorem rs_never {pn : Option Nat} : RS pn tNever mNever := by
  intro F H σ env Sl R c env' e D q
  cases e
/-- a thing that never changes goes to where g puts it -/
def mAsg (me : ME) (mg : PyData → En → Option En) : MS := bnd me fun p e => match fzP e p with
  | some (d, e2) => match mg d e2 with
    | some e3 => some (.nx, e3)
    | none => none
  | none => none
theorem rs_asg {pn : Option Nat} {pu : Bool} {te : TE} {me : ME} {g : TG} {mg : PyData → En → Option En} {is : List Nat} (h : RE pu te me) (hg : RT' is g mg) (hp : ∀ i, pn = some i → i ∉ is := by simp) : RS pn (tAsg te g) (mAsg me mg) := by
  intro F H σ env Sl R c env' e D q
  obtain ⟨p, e1, h1, h2⟩ := bnd_of e
  split at h2
  · rename_i d e2 h3
    split at h2
    · rename_i e3 h4
      cases h2
      refine h F H σ env Sl R p _ h1 _ fun r F1 H1 Sl1 s1 pu1 R1 r1 => ?_
      obtain ⟨F2, Sl2, s2, R2, r2⟩ := fz_ok R1 r1 h3
      refine hg F2 H1 σ e2 Sl2 r d R2 r2 _ h4 _ fun σ' Sl' R' k p l => ?_
      exact q F2 H1 σ' Sl' (s1.trans (s2.trans (Step.fewer k))) R' fun i z => p i (hp i z)
    · cases h2
  · cases h2
/-- a name takes what it alone holds from now on -/
def mAsgO (i : Nat) (mo : MO) : MS := bnd mo fun o e => some (.nx, e.set i (some o))
theorem rs_asgO {pn : Option Nat} {te : TE} {mo : MO} {i : Nat} (h : RO te mo) (hp : pn ≠ some i := by decide) : RS pn (tAsg te (gName i)) (mAsgO i mo) := by
  intro F H σ env Sl R c env' e D q
  obtain ⟨o, e1, h1, h2⟩ := bnd_of e
  cases h2
  refine h F H σ env Sl R o _ h1 _ fun v F1 H1 Sl1 T s1 R1 n => ?_
  exact q F1 H1 _ _ ⟨s1.exF, s1.fr, s1.tk, fun j b z => z.elim (fun y => s1.own j b y.2) fun y => .inr (n.nw b y.2), s1.fz⟩ (R1.put n.own (fun j a x y => absurd y (n.dj j a x)) n.tr) fun j z => pin_set j (by simp; intro y; exact hp (z.trans (by rw [y])))
/-- the list that the place j holds is written: what it holds afterwards -/
theorem REnv.write {F H : Hp} {σ : L2.St} {env : En} {Sl : Nat → Addr → Prop} {j : Nat} {a : Addr} {vs' : List V} {ds ds' : List PyData} (R : REnv F H σ env Sl) (hj : env[j]? = some (some (.ow ds))) (hv : σ[j]? = some (some (.ref a))) (r : All2 (Rp F) ds' vs') :
    Step F H Sl F (upd H a (.lst vs')) Sl ∧ REnv F (upd H a (.lst vs')) σ (env.set j (some (.ow ds'))) Sl := by
  obtain ⟨v, e1, a', ws, e2, sa, hH, _⟩ := R.at_ j _ hj
  rw [hv] at e1
  cases e1
  cases e2
  have ns : ∀ i, i ≠ j → ¬ Sl i a := fun i n z => n (R.dj i j a z sa)
  have fa := (R.tr j a sa).1
  refine ⟨⟨Ex.refl F, fun b o h n => ?_, fun b o h => ?_, fun _ _ z => .inl z, fun _ _ z => .inl z⟩, ⟨fun b o h => ?_, by rw [List.length_set]; exact R.len, fun i o h => ?_, R.dj, fun i b z => ?_⟩⟩
  · rw [upd_ne (fun z => n j (by rw [z]; exact sa))]; exact h
  · by_cases z : b = a
    · subst z; exact ⟨_, upd_same⟩
    · exact ⟨o, by rw [upd_ne z]; exact h⟩
  · rw [upd_ne (fun z => by rw [z, fa] at h; cases h)]; exact R.ex b o h
  · rcases set_at h with ⟨rfl, e2, _⟩ | ⟨ne, h'⟩
    · cases e2
      exact ⟨_, hv, a, vs', rfl, sa, upd_same, r⟩
    · obtain ⟨v2, e2, w2⟩ := R.at_ i o h'
      exact ⟨v2, e2, w2.ext (Ex.refl F) fun b u s q => by rw [upd_ne (fun z => ns i ne (by rw [← z]; exact s))]; exact q⟩
  · obtain ⟨y1, u, y2⟩ := R.tr i b z
    refine ⟨y1, ?_⟩
    by_cases e : b = a
    · subst e; exact ⟨_, upd_same⟩
    · exact ⟨u, by rw [upd_ne e]; exact y2⟩
theorem REnv.held {F H : Hp} {σ : L2.St} {env : En} {Sl : Nat → Addr → Prop} {j : Nat} {ds : List PyData} (R : REnv F H σ env Sl) (hj : env[j]? = some (some (.ow ds))) : ∃ a vs, σ[j]? = some (some (.ref a)) ∧ H a = some (.lst vs) ∧ All2 (Rp F) ds vs := by
  obtain ⟨v, e1, a, vs, e2, sa, hH, r⟩ := R.at_ j _ hj
  subst e2
  exact ⟨a, vs, e1, hH, r⟩
/-- xs[i] = e -/
def mSetI (j : Nat) (mi me : ME) : MS := bnd me fun p e1 => match fzP e1 p with
  | some (d, e2) => match e2[j]? with
    | some (some (.ow _)) => match mi e2 with
      | some (.val (.int k), e3) => match e3[j]? with
        | some (some (.ow ds)) => match ixN ds.length k with
          | some n => some (.nx, e3.set j (some (.ow (ds.set n d))))
          | none => none
        | _ => none
      | _ => none
    | _ => none
  | none => none
theorem rs_setI {pn : Option Nat} {pu pv : Bool} {te ti : TE} {me mi : ME} {j : Nat} (h : RE pu te me) (hi : RE pv ti mi) : RS pn (tAsg te (gSub (tVar j) ti rSetL)) (mSetI j mi me) := by
  intro F H σ env Sl R c env' e D q
  obtain ⟨p, e1, h1, h2⟩ := bnd_of e
  split at h2
  · rename_i d e2 h3
    split at h2
    · rename_i ds0 h0
      split at h2
      · rename_i k e3 h4
        split at h2
        · rename_i ds h5
          split at h2
          · rename_i n h6
            cases h2
            refine h F H σ env Sl R p _ h1 _ fun r F1 H1 Sl1 s1 pu1 R1 r1 => ?_
            obtain ⟨F2, Sl2, s2, R2, r2⟩ := fz_ok R1 r1 h3
            obtain ⟨a, _, ha, _⟩ := R2.held h0
            refine ⟨_, ha, ?_⟩
            refine hi F2 H1 σ e2 Sl2 R2 _ _ h4 _ fun r' F3 H3 Sl3 s3 pu3 R3 r3 => ?_
            obtain ⟨a', vs, ha', hH, rr⟩ := R3.held h5
            rw [ha] at ha'
            cases ha'
            obtain ⟨s4, R4⟩ := R3.write h5 ha (vs' := vs.set n r) (rr.set n (Rp.mono s3.exF r2))
            refine ⟨a, vs, k, n, rfl, pint r3, hH, by rw [← rr.len]; exact h6, ?_⟩
            exact q _ _ σ _ (s1.trans (s2.trans (s3.trans s4))) R4 fun _ _ => rfl
          · cases h2
        · cases h2
      · cases h2
    · cases h2
  · cases h2
/-- xs.append(e) -/
def mApp (j : Nat) (ma : MA) : MS := fun env => match env[j]? with
  | some (some (.ow _)) => match ma env with
    | some ([p], e1) => match fzP e1 p with
      | some (d, e2) => match e2[j]? with
        | some (some (.ow ds)) => if ds.length < sizeLine then some (.nx, e2.set j (some (.ow (ds ++ [d])))) else none
        | _ => none
      | none => none
    | _ => none
  | _ => none
theorem rs_app {K : PySem.W.Frag} {pn : Option Nat} {pu : Bool} {ta : TA} {ma : MA} {j : Nat} (h : RA pu ta ma) : RS pn (tDrop (tBM K "list" rAppend (tVar j) ta)) (mApp j ma) := by
  intro F H σ env Sl R c env' e D q
  unfold mApp at e
  split at e
  · rename_i ds0 h0
    split at e
    · rename_i p e1 h1
      split at e
      · rename_i d e2 h3
        split at e
        · rename_i ds h5
          split at e
          · rename_i hl
            cases e
            obtain ⟨a, vs0, ha, hH0, _⟩ := R.held h0
            refine ⟨_, ha, Or.inl ⟨rfl, vs0, SqL.of hH0⟩, ?_⟩
            refine h F H σ env Sl R _ _ h1 _ fun r F1 H1 Sl1 s1 pu1 R1 r1 => ?_
            cases r1 with
            | cons x t =>
              cases t
              obtain ⟨F2, Sl2, s2, R2, r2⟩ := fz_ok R1 x h3
              obtain ⟨a', vs, ha', hH, rr⟩ := R2.held h5
              rw [ha] at ha'
              cases ha'
              rename_i v
              obtain ⟨s4, R4⟩ := R2.write h5 ha (vs' := vs ++ [v]) (rr.snoc r2)
              exact ⟨a, vs, v, rfl, rfl, hH, by rw [← rr.len]; exact hl, q _ _ σ _ (s1.trans (s2.trans s4)) R4 fun _ _ => rfl⟩
          · cases e
        · cases e
      · cases e
    · cases e
  · cases e
/-- xs.pop(i) as a value -/
def mPopAt (j : Nat) (ma : MA) : ME := fun env => match env[j]? with
  | some (some (.ow _)) => match ma env with
    | some ([.val (.int i)], e1) => match e1[j]? with
      | some (some (.ow ds)) => if -(2 ^ 63) ≤ i ∧ i < 2 ^ 63 then match seqIndex? i ds.length with
        | some k => match ds[k]? with
          | some d => some (.val d, e1.set j (some (.ow (ds.eraseIdx k))))
          | none => none
        | none => none else none
      | _ => none
    | _ => none
  | _ => none
theorem re_popAt {K : PySem.W.Frag} {pu : Bool} {ta : TA} {ma : MA} {j : Nat} (h : RA pu ta ma) : RE false (tBM K "list" rPopAt (tVar j) ta) (mPopAt j ma) := by
  intro F H σ env Sl R c env' e Q q
  unfold mPopAt at e
  split at e
  · rename_i ds0 h0
    split at e
    · rename_i i e1 h1
      split at e
      · rename_i ds h5
        split at e
        · rename_i hb
          split at e
          · rename_i k hk
            split at e
            · rename_i d hd
              cases e
              obtain ⟨a, vs0, ha, hH0, _⟩ := R.held h0
              refine ⟨_, ha, Or.inl ⟨rfl, vs0, SqL.of hH0⟩, ?_⟩
              refine h F H σ env Sl R _ _ h1 _ fun r F1 H1 Sl1 s1 pu1 R1 r1 => ?_
              cases r1 with
              | cons x t =>
                cases t
                obtain ⟨a', vs, ha', hH, rr⟩ := R1.held h5
                rw [ha] at ha'
                cases ha'
                obtain ⟨v, hv, rv⟩ := rr.get hd
                obtain ⟨s4, R4⟩ := R1.write h5 ha (vs' := vs.eraseIdx k) (rr.erase k)
                exact ⟨a, vs, i, k, v, rfl, by rw [pint x], hH, hb.1, hb.2, by rw [← rr.len]; exact hk, hv, q v _ _ _ (s1.trans s4) (fun z => nomatch z) R4 rv⟩
            · cases e
          · cases e
        · cases e
      · cases e
    · cases e
  · cases e
/-- e -/
def mDrop (me : ME) : MS := bnd me fun _ e => some (.nx, e)
theorem rs_drop {pn : Option Nat} {pu : Bool} {te : TE} {me : ME} (h : RE pu te me) : RS pn (tDrop te) (mDrop me) := by
  intro F H σ env Sl R c env' e D q
  obtain ⟨p, e1, h1, h2⟩ := bnd_of e
  cases h2
  exact h F H σ env Sl R p _ h1 _ fun r F1 H1 Sl1 s1 pu1 R1 r1 => q F1 H1 σ Sl1 s1 R1 fun _ _ => rfl
/-- return e; return a list that is handed over -/
def mRet (me : ME) : MS := bnd me fun p e => match fzP e p with
  | some (d, e2) => some (.rt (.fz d), e2)
  | none => none
theorem rs_ret {pn : Option Nat} {pu : Bool} {te : TE} {me : ME} (h : RE pu te me) : RS pn (tRet te) (mRet me) := by
  intro F H σ env Sl R c env' e D q
  obtain ⟨p, e1, h1, h2⟩ := bnd_of e
  split at h2
  · rename_i d e2 h3
    cases h2
    refine h F H σ env Sl R p _ h1 _ fun r F1 H1 Sl1 s1 pu1 R1 r1 => ?_
    obtain ⟨F2, Sl2, s2, R2, r2⟩ := fz_ok R1 r1 h3
    exact q r F2 H1 σ Sl2 (fun _ => False) (s1.trans s2) R2 (fun _ _ => rfl) r2 (fun _ _ z => z.elim) (fun _ z => z.elim) fun _ z => z.elim
  · cases h2
def mRetO (mo : MO) : MS := bnd mo fun o e => some (.rt o, e)
theorem rs_retO {pn : Option Nat} {te : TE} {mo : MO} (h : RO te mo) : RS pn (tRet te) (mRetO mo) := by
  intro F H σ env Sl R c env' e D q
  obtain ⟨o, e1, h1, h2⟩ := bnd_of e
  cases h2
  exact h F H σ env Sl R o _ h1 _ fun v F1 H1 Sl1 T s1 R1 n => q v F1 H1 σ Sl1 T s1 R1 (fun _ _ => rfl) n.own (fun i a x => n.dj i a x) n.tr fun a z => .inl (n.nw a z)
def mRetV (j : Nat) : MS := fun env => match env[j]? with
  | some (some o) => some (.rt o, env.set j none)
  | _ => none
theorem rs_retV {pn : Option Nat} {j : Nat} (hp : pn ≠ some j := by decide) : RS pn (tRet (tVar j)) (mRetV j) := by
  intro F H σ env Sl R c env' e D q
  unfold mRetV at e
  split at e
  · rename_i o h0
    cases e
    obtain ⟨v, hv, w⟩ := R.at_ j o h0
    refine ⟨v, hv, q v F H (σ.set j none) (lose Sl j) (Sl j) (Step.fewer fun i a z => z.2) R.forget (fun i z => pin_set i (by simp; intro y; exact hp (z.trans (by rw [y])))) w (fun i a x y => y.1 (R.dj i j a y.2 x)) (R.tr j) fun a x => .inr ⟨j, hp, x⟩⟩
  · cases e
def mRetN : MS := fun env => some (.rt (.fz .none), env)
theorem rs_retN {pn : Option Nat} : RS pn tRetN mRetN := by
  intro F H σ env Sl R c env' e D q
  cases e
  exact q .non F H σ Sl (fun _ => False) Step.refl R (fun _ _ => rfl) rfl (fun _ _ z => z.elim) (fun _ z => z.elim) fun _ z => z.elim
/-- if -/
theorem rs_if {pn : Option Nat} {pu : Bool} {tc : TT} {t u : TS} {mc : MT} {m n : MS} (h : RT pu tc mc) (h1 : RS pn t m) (h2 : RS pn u n) : RS pn (tIfS tc t u) (mIf mc m n) := by
  intro F H σ env Sl R c env' e D q
  obtain ⟨b1, e1, x1, x2⟩ := bnd_of e
  refine h F H σ env Sl R b1 _ x1 _ fun r F1 H1 Sl1 s1 pu1 R1 r1 => ?_
  cases r1
  cases b1 with
  | true =>
    rw [if_pos rfl]
    exact h1 F1 H1 σ e1 Sl1 R1 c _ x2 D (q.step s1 fun _ _ => rfl)
  | false =>
    rw [if_neg Bool.false_ne_true]
    exact h2 F1 H1 σ e1 Sl1 R1 c _ x2 D (q.step s1 fun _ _ => rfl)
/-- x += e of whole numbers, by f -/
def mAug (i : Nat) (f : Int → Int → Int) (me : ME) : MS := fun env => match env[i]? with
  | some (some (.fz (.int x))) => match me env with
    | some (.val (.int y), e1) => some (.nx, e1.set i (some (.fz (.int (f x y)))))
    | _ => none
  | _ => none
theorem rs_aug {pn : Option Nat} {pu : Bool} {te : TE} {me : ME} {i : Nat} {f : Int → Int → Int} (h : RE pu te me) (hp : pn ≠ some i := by decide) : RS pn (tAug i te (ipI f)) (mAug i f me) := by
  intro F H σ env Sl R c env' e D q
  unfold mAug at e
  split at e
  · rename_i x h0
    split at e
    · rename_i y e1 h1
      cases e
      obtain ⟨v, hv, w⟩ := R.at_ i _ h0
      refine ⟨v, hv, ?_⟩
      refine h F H σ env Sl R _ _ h1 _ fun r F1 H1 Sl1 s1 pu1 R1 r1 => ?_
      refine ⟨x, y, w, pint r1, ?_⟩
      exact q F1 H1 _ _ (s1.trans (Step.fewer fun _ _ z => z.2)) (R1.putD (d := .int (f x y)) rfl) fun j z => pin_set j (by simp; intro y; exact hp (z.trans (by rw [y])))
    · cases e
  · cases e
end Tr
namespace Tr
open PySem PySem.Spec PyProof.Rows L2

/-! ### loops -/
def mForGo (mg : PyData → En → Option En) (mb : MS) : List PyData → MS
  | [], env => some (.nx, env)
  | d :: ds, env => match mg d env with
    | some e1 => match mb e1 with
      | some (.nx, e2) => mForGo mg mb ds e2
      | some (.ct, e2) => mForGo mg mb ds e2
      | some (.bk, e2) => some (.nx, e2)
      | some (.rt o, e2) => some (.rt o, e2)
      | none => none
    | none => none
def mFor (mi : ML) (mg : PyData → En → Option En) (mb : MS) : MS := bnd mi fun ds e => mForGo mg mb ds e
theorem rs_for {pn : Option Nat} {wi : TI} {g : TG} {tb : TS} {is : List Nat} {mi : ML} {mg : PyData → En → Option En} {mb : MS} (hi : RI wi mi) (hg : RT' is g mg) (hb : RS pn tb mb) (hp : ∀ i, pn = some i → i ∉ is := by simp) : RS pn (tFor wi g tb) (mFor mi mg mb) := by
  intro F H σ env Sl R c env' e D q
  obtain ⟨xs, e0, h1, h2⟩ := bnd_of e
  refine hi F H σ env Sl R xs _ h1 _ fun J F1 H1 Sl1 s1 R1 hJ => ?_
  have q1 := q.step s1 fun _ _ => rfl
  refine ⟨fun i m σi Hi => ∃ Fi Sli envi, i ≤ xs.length ∧ m = xs.length - i ∧ Ex F1 Fi ∧ REnv Fi Hi σi envi Sli ∧ EndsAt pn D Fi Hi Sli σi c env' ∧ mForGo mg mb (xs.drop i) envi = some (c, env'), ⟨xs.length, F1, Sl1, e0, Nat.zero_le _, by omega, Ex.refl F1, R1, q1, h2⟩, ?_⟩
  rintro i m σi Hi ⟨Fi, Sli, envi, hil, hm, exi, Ri, qi, go⟩
  cases hx : xs[i]? with
  | none =>
    have hge : xs.length ≤ i := List.getElem?_eq_none_iff.mp hx
    rw [List.drop_eq_nil_of_le hge] at go
    have go' : some (Ctl.nx, envi) = some (c, env') := go
    cases go'
    exact .inl ⟨(hJ Fi Hi exi Ri.ex i).2 hx, qi Fi Hi σi Sli Step.refl Ri fun _ _ => rfl⟩
  | some d =>
    have hlt : i < xs.length := (List.getElem?_eq_some_iff.mp hx).1
    have hd : xs.drop i = d :: xs.drop (i + 1) := by
      rw [List.drop_eq_getElem_cons hlt]
      have := (List.getElem?_eq_some_iff.mp hx).2
      rw [this]
    rw [hd] at go
    unfold mForGo at go
    obtain ⟨jg, jy⟩ := (hJ Fi Hi exi Ri.ex i).1 d hx
    refine .inr ⟨jg, fun σ' H' => ∃ Fj Slj envj, i + 1 ≤ xs.length ∧ Ex F1 Fj ∧ REnv Fj H' σ' envj Slj ∧ EndsAt pn D Fj H' Slj σ' c env' ∧ mForGo mg mb (xs.drop (i + 1)) envj = some (c, env'), fun σ' H' ⟨Fj, Slj, envj, z1, z2, z3, z4, z5⟩ => ⟨xs.length - (i + 1), by omega, Fj, Slj, envj, z1, rfl, z2, z3, z4, z5⟩, fun x H' hy => ?_⟩
    obtain ⟨Fj, f1, f2, f3, f4, f5⟩ := jy x H' hy
    have Rj : REnv Fj H' σi envi Sli := Ri.grow f1 f2 f3 f4
    have qj := qi.step (Step.grow (Sl := Sli) f1 f2 f4) fun _ _ => rfl
    cases hg1 : mg d envi with
    | none => rw [hg1] at go; cases go
    | some e1 =>
      rw [hg1] at go
      refine hg Fj H' σi envi Sli x d Rj f5 e1 hg1 _ fun σ2 Sl4 R4 k4 p4 l4 => ?_
      have q4 := qj.step (Step.fewer k4) fun j z => p4 j (hp j z)
      cases hb1 : mb e1 with
      | none => simp only [hb1] at go; cases go
      | some ce =>
        obtain ⟨c1, e2⟩ := ce
        simp only [hb1] at go
        refine hb Fj H' σ2 e1 Sl4 R4 c1 e2 hb1 _ ?_
        cases c1 with
        | nx => exact fun F' H'' σ' Sl' s' R' p' => ⟨F', Sl', e2, hlt, exi.trans (f1.trans s'.exF), R', q4.step s' p', go⟩
        | ct => exact fun F' H'' σ' Sl' s' R' p' => ⟨F', Sl', e2, hlt, exi.trans (f1.trans s'.exF), R', q4.step s' p', go⟩
        | bk => cases go; exact q4
        | rt o => cases go; exact q4
/-- at most n turns -/
def mWhile (mc : MT) (mb : MS) : Nat → MS
  | 0, _ => none
  | n + 1, env => match mc env with
    | some (true, e1) => match mb e1 with
      | some (.nx, e2) => mWhile mc mb n e2
      | some (.ct, e2) => mWhile mc mb n e2
      | some (.bk, e2) => some (.nx, e2)
      | some (.rt o, e2) => some (.rt o, e2)
      | none => none
    | some (false, e1) => some (.nx, e1)
    | none => none
theorem rs_while {pn : Option Nat} {pu : Bool} {tc : TT} {tb : TS} {mc : MT} {mb : MS} (n : Nat) (hc : RT pu tc mc) (hb : RS pn tb mb) : RS pn (tWhile tc tb) (mWhile mc mb n) := by
  intro F H σ env Sl R c env' e D q
  refine ⟨fun m σi Hi => ∃ Fi Sli envi, REnv Fi Hi σi envi Sli ∧ EndsAt pn D Fi Hi Sli σi c env' ∧ mWhile mc mb m envi = some (c, env'), ⟨n, F, Sl, env, R, q, e⟩, ?_⟩
  rintro m σi Hi ⟨Fi, Sli, envi, Ri, qi, go⟩
  cases m with
  | zero => cases go
  | succ m =>
    unfold mWhile at go
    cases hc1 : mc envi with
    | none => rw [hc1] at go; cases go
    | some be =>
      obtain ⟨b, e1⟩ := be
      rw [hc1] at go
      refine hc Fi Hi σi envi Sli Ri b e1 hc1 _ fun r F1 H1 Sl1 s1 pu1 R1 r1 => ?_
      cases r1
      have q1 := qi.step s1 fun _ _ => rfl
      cases b with
      | false =>
        rw [if_neg Bool.false_ne_true]
        cases go
        exact q1 F1 H1 σi Sl1 Step.refl R1 fun _ _ => rfl
      | true =>
        rw [if_pos rfl]
        cases hb1 : mb e1 with
        | none => simp only [hb1] at go; cases go
        | some ce =>
          obtain ⟨c1, e2⟩ := ce
          simp only [hb1] at go
          refine ⟨fun σ' H' => ∃ Fi Sli envi, REnv Fi H' σ' envi Sli ∧ EndsAt pn D Fi H' Sli σ' c env' ∧ mWhile mc mb m envi = some (c, env'), fun σ' H' z => ⟨m, Nat.lt_succ_self m, z⟩, hb F1 H1 σi e1 Sl1 R1 c1 e2 hb1 _ ?_⟩
          cases c1 with
          | nx => exact fun F' H'' σ' Sl' s' R' p' => ⟨F', Sl', e2, R', q1.step s' p', go⟩
          | ct => exact fun F' H'' σ' Sl' s' R' p' => ⟨F', Sl', e2, R', q1.step s' p', go⟩
          | bk => cases go; exact q1
          | rt o => cases go; exact q1

/-! ### defs and calls -/
/-- a def as a function of what it is given: what it gives back, and what its parameters' lists hold then -/
abbrev MF := List O → Option (O × List O)
def mDef (n np : Nat) (pn : Option Nat) (m : MS) : MF := fun os => if os.length = np then match m (os.map some ++ List.replicate (n - os.length) none) with
  | some (.rt r, env) => fin pn os env r
  | some (.nx, env) => fin pn os env (.fz .none)
  | _ => none else none
where
  fin (pn : Option Nat) (os : List O) (env : En) (r : O) : Option (O × List O) := match pn with
    | none => some (r, os)
    | some j => match env[j]? with
      | some (some o) => some (r, os.set j o)
      | _ => none
/-- nothing is held among them, but for the place pn -/
def plainO : O → Bool
  | .fz _ => true
  | .sc _ _ => true
  | .kt _ _ => true
  | _ => false
theorem plain_own {F H F' H' : Hp} {o : O} {v : V} {S T : Addr → Prop} (h : Own F H o v S) (e : Ex F F') (p : plainO o = true) : Own F' H' o v T := by
  cases o with
  | fz d => exact Rp.mono e h
  | sc K ns => obtain ⟨a, q, h⟩ := h; exact ⟨a, q, ex_sq e h⟩
  | kt K xs => obtain ⟨a, q, h⟩ := h; exact ⟨a, q, ex_sqT e h⟩
  | rg _ _ => cases p
  | ow _ => cases p
  | ow2 _ => cases p
def spOf (pn : Option Nat) (mf : MF) : Sp := fun vs H Q _ => ∃ F os Sl r os', REnv F H (vs.map some) (os.map some) Sl ∧ (∀ k b, Sl k b → pn = some k) ∧ (∀ k o, os[k]? = some o → pn ≠ some k → plainO o = true) ∧ mf os = some (r, os') ∧
  ∀ v F' H' Sl' T, Step F H Sl F' H' Sl' → REnv F' H' (vs.map some) (os'.map some) Sl' → (∀ k b, Sl' k b → pn = some k) → New F' H H' Sl' r v T → Q v H'
theorem by_len {n np : Nat} {pn : Option Nat} {m : MS} {vs : List V} {H : Hp} {Q : VK} {E : XK} (h : spOf pn (mDef n np pn m) vs H Q E) : vs.length = np := by
  obtain ⟨F, os, Sl, r, os', R, _, _, hm, _⟩ := h
  have hl := R.len
  rw [List.length_map, List.length_map] at hl
  unfold mDef at hm
  split at hm
  · rename_i hn
    rw [hl, hn]
  · cases hm
end Tr
namespace Tr
open PySem PySem.Spec PyProof.Rows L2

theorem start_at {N : List Str} {vs : List V} {i : Nat} : (L2.start N vs)[i]? = if i < vs.length then (vs[i]?).map some else (if i < vs.length + (N.length - vs.length) then some none else none) := by
  unfold L2.start
  by_cases h : i < vs.length
  · rw [if_pos h, List.getElem?_append_left (by rw [List.length_map]; exact h), List.getElem?_map]
  · rw [if_neg h, List.getElem?_append_right (by rw [List.length_map]; omega), List.length_map, List.getElem?_replicate]
    by_cases h2 : i < vs.length + (N.length - vs.length)
    · rw [if_pos h2, if_pos (by omega)]
    · rw [if_neg h2, if_neg (by omega)]
theorem args_at {α : Type} {l : List α} {i : Nat} {o : α} (h : (l.map some)[i]? = some (some o)) : l[i]? = some o := by
  rw [List.getElem?_map] at h
  cases q : l[i]? with
  | none => rw [q] at h; cases h
  | some x => rw [q] at h; cases h; rfl
theorem env0_at {os : List O} {n i : Nat} {o : O} (h : (os.map some ++ List.replicate n none)[i]? = some (some o)) : os[i]? = some o := by
  by_cases hi : i < os.length
  · rw [List.getElem?_append_left (by rw [List.length_map]; exact hi)] at h
    exact args_at h
  · rw [List.getElem?_append_right (by rw [List.length_map]; omega), List.getElem?_replicate] at h
    split at h <;> cases h
theorem start_of {N : List Str} {vs : List V} {i : Nat} {v : V} (h : vs[i]? = some v) : (L2.start N vs)[i]? = some (some v) := by
  rw [start_at, if_pos (List.getElem?_eq_some_iff.mp h).1, h]
  rfl
theorem REnv.enter {F H : Hp} {N : List Str} {vs : List V} {os : List O} {Sl : Nat → Addr → Prop} (R : REnv F H (vs.map some) (os.map some) Sl) : REnv F H (L2.start N vs) (os.map some ++ List.replicate (N.length - os.length) none) Sl := by
  have hl : vs.length = os.length := by
    have := R.len
    rw [List.length_map, List.length_map] at this
    exact this
  refine ⟨R.ex, ?_, fun i o h => ?_, R.dj, R.tr⟩
  · unfold L2.start
    rw [List.length_append, List.length_append, List.length_map, List.length_map, List.length_replicate, List.length_replicate, hl]
  · obtain ⟨v, e, w⟩ := R.at_ i o (by rw [List.getElem?_map, env0_at h]; rfl)
    exact ⟨v, start_of (args_at e), w⟩
/-- what is left of the arguments behind a def's body -/
theorem leave {F H F' H' : Hp} {N : List Str} {pn : Option Nat} {vs : List V} {os os' : List O} {Sl Sl' : Nat → Addr → Prop} {σ' : L2.St} {env' : En} {r r' : O} (R : REnv F H (vs.map some) (os.map some) Sl) (pl : ∀ k o, os[k]? = some o → pn ≠ some k → plainO o = true) (hs : ∀ k b, Sl k b → pn = some k)
    (s : Step F H Sl F' H' Sl') (R' : REnv F' H' σ' env' Sl') (p : ∀ i, pn = some i → σ'[i]? = (L2.start N vs)[i]?) (e : mDef.fin pn os env' r = some (r', os')) :
    r' = r ∧ ∃ Sl'', Step F H Sl F' H' Sl'' ∧ REnv F' H' (vs.map some) (os'.map some) Sl'' ∧ (∀ k b, Sl'' k b → pn = some k) ∧ ∀ i a, Sl'' i a → Sl' i a := by
  have hl := R.len
  rw [List.length_map, List.length_map] at hl
  have plain : ∀ k o, os[k]? = some o → pn ≠ some k → ∃ v, vs[k]? = some v ∧ ∀ T, Own F' H' o v T := fun k o h n => by
    obtain ⟨v, e1, w⟩ := R.at_ k o (by rw [List.getElem?_map, h]; rfl)
    exact ⟨v, args_at e1, fun T => plain_own w s.exF (pl k o h n)⟩
  cases pn with
  | none =>
    cases e
    refine ⟨rfl, fun _ _ => False, s.trans (Step.fewer fun _ _ z => z.elim), ⟨R'.ex, by rw [List.length_map, List.length_map]; exact hl, fun i o h => ?_, fun _ _ _ z => z.elim, fun _ _ z => z.elim⟩, fun _ _ z => z.elim, fun _ _ z => z.elim⟩
    obtain ⟨v, hv, rr⟩ := plain i o (args_at h) (fun z => nomatch z)
    exact ⟨v, by rw [List.getElem?_map, hv]; rfl, rr _⟩
  | some j =>
    unfold mDef.fin at e
    split at e
    · rename_i heq
      cases heq
    · rename_i j' heq
      cases heq
      split at e
      · rename_i o ho
        cases e
        obtain ⟨v, hv, w⟩ := R'.at_ j o ho
        have hj : j < vs.length := by
          rw [p j rfl, start_at] at hv
          by_cases z : j < vs.length
          · exact z
          · rw [if_neg z] at hv
            split at hv <;> cases hv
        have hvj : vs[j]? = some v := by
          rw [p j rfl, start_at, if_pos hj] at hv
          cases q : vs[j]? with
          | none => rw [q] at hv; cases hv
          | some x => rw [q] at hv; cases hv; rfl
        refine ⟨rfl, fun k b => k = j ∧ Sl' j b, s.trans (Step.fewer fun i a z => by rw [z.1]; exact z.2), ⟨R'.ex, by rw [List.length_map, List.length_map, List.length_set]; exact hl, fun i u h => ?_, fun i k a x y => x.1.trans y.1.symm, fun i a z => R'.tr j a z.2⟩, fun k b z => by rw [z.1], fun i a z => by rw [z.1]; exact z.2⟩
        rcases set_at (args_at h) with ⟨rfl, e2, _⟩ | ⟨ne, h'⟩
        · cases e2
          exact ⟨v, by rw [List.getElem?_map, hvj]; rfl, w.sub fun a z => ⟨rfl, z⟩⟩
        · obtain ⟨v', hv', rr⟩ := plain i u h' (fun z => ne (Option.some.inj z).symm)
          exact ⟨v', by rw [List.getElem?_map, hv']; rfl, rr _⟩
      · cases e
theorem def_ok {pn : Option Nat} {t : TS} {m : MS} {N : List Str} {vs : List V} {H : Hp} {Q : VK} {E : XK} (h : RS pn t m) {np : Nat} (hsp : spOf pn (mDef N.length np pn m) vs H Q E) : t { nx := fun _ H' => Q .non H', rt := Q } (L2.start N vs) H := by
  obtain ⟨F, os, Sl, r, os', R, hs, pl, hm, q⟩ := hsp
  unfold mDef at hm
  split at hm
  case isFalse => cases hm
  split at hm
  · rename_i o env' h1
    refine h F H _ _ Sl R.enter (.rt o) env' h1 _ fun v F' H' σ' Sl' T s R' p w dj tr nw => ?_
    obtain ⟨rfl, Sl'', s'', R'', hs'', k⟩ := leave R pl hs s R' p hm
    refine q v F' H' Sl'' T s'' R'' hs'' ⟨w, fun i a x y => dj i a x (k i a y), tr, fun a z => ?_⟩
    rcases nw a z with y | ⟨i, hi, y⟩
    · exact y
    · exact absurd (hs i a y) hi
  · rename_i env' h1
    refine h F H _ _ Sl R.enter .nx env' h1 _ fun F' H' σ' Sl' s R' p => ?_
    obtain ⟨rfl, Sl'', s'', R'', hs'', k⟩ := leave R pl hs s R' p hm
    exact q .non F' H' Sl'' (fun _ => False) s'' R'' hs'' ⟨rfl, fun _ _ z => z.elim, fun _ z => z.elim, fun _ z => z.elim⟩
  · cases hm

/-! ### a call -/
def oneA (e : En) : P → Option (O × En)
  | .k K xs => some (.kt K xs, e)
  | .val d => some (.fz d, e)
  | .var i => match fzP e (.var i) with
    | some (d, e1) => some (.fz d, e1)
    | none => none
theorem oneA_ok {F H : Hp} {σ : L2.St} {env env' : En} {Sl : Nat → Addr → Prop} {v : V} {p : P} {o : O} (R : REnv F H σ env Sl) (h : RP F σ v p) (e : oneA env p = some (o, env')) : ∃ F' Sl', Step F H Sl F' H Sl' ∧ REnv F' H σ env' Sl' ∧ plainO o = true ∧ ∀ H' T, Own F' H' o v T := by
  cases p with
  | k K xs => cases e; exact ⟨F, Sl, Step.refl, R, rfl, fun _ _ => h⟩
  | val d => cases e; exact ⟨F, Sl, Step.refl, R, rfl, fun _ _ => h⟩
  | var i =>
    simp only [oneA] at e
    split at e
    · rename_i d e1 h1
      cases e
      obtain ⟨F1, Sl1, s1, R1, r1⟩ := fz_ok R h h1
      exact ⟨F1, Sl1, s1, R1, rfl, fun _ _ => r1⟩
    · cases e
def prepA : Option Nat → List P → En → Option (List O × En)
  | _, [], e => some ([], e)
  | some 0, _ :: ps, e => match prepA none ps e with
    | some (os, e2) => some (.fz .none :: os, e2)
    | none => none
  | some (j + 1), p :: ps, e => match oneA e p with
    | some (o, e1) => match prepA (some j) ps e1 with
      | some (os, e2) => some (o :: os, e2)
      | none => none
    | none => none
  | none, p :: ps, e => match oneA e p with
    | some (o, e1) => match prepA none ps e1 with
      | some (os, e2) => some (o :: os, e2)
      | none => none
    | none => none
theorem prepA_ok {H : Hp} {σ : L2.St} : ∀ {ps : List P} {pn : Option Nat} {F : Hp} {env env' : En} {Sl : Nat → Addr → Prop} {vs : List V} {os : List O}, REnv F H σ env Sl → relA F σ vs ps → prepA pn ps env = some (os, env') →
    ∃ F' Sl', Step F H Sl F' H Sl' ∧ REnv F' H σ env' Sl' ∧ os.length = vs.length ∧ ∀ k o v, os[k]? = some o → vs[k]? = some v → pn ≠ some k → plainO o = true ∧ ∀ H' T, Own F' H' o v T
  | [], pn, F, env, env', Sl, vs, os, R, h, e => by
    cases h
    have e' : some ([], env) = some (os, env') := by
      cases pn with
      | none => exact e
      | some j => cases j <;> exact e
    cases e'
    exact ⟨F, Sl, Step.refl, R, rfl, fun k o v z => by simp at z⟩
  | p :: ps, none, F, env, env', Sl, vs, os, R, h, e => by
    unfold prepA at e
    split at e
    · rename_i d e1 h1
      split at e
      · rename_i os' e2 h2
        cases e
        cases h with
        | cons a b =>
          obtain ⟨F1, Sl1, s1, R1, p1, r1⟩ := oneA_ok R a h1
          obtain ⟨F2, Sl2, s2, R2, l2, r2⟩ := prepA_ok R1 (b.mono fun _ _ => RP.mono s1.exF) h2
          refine ⟨F2, Sl2, s1.trans s2, R2, by simp [l2], fun k o v x y n => ?_⟩
          cases k with
          | zero => cases x; cases y; exact ⟨p1, fun H' T => plain_own (r1 H' T) s2.exF p1⟩
          | succ k => exact r2 k o v x y (fun z => nomatch z)
      · cases e
    · cases e
  | p :: ps, some 0, F, env, env', Sl, vs, os, R, h, e => by
    unfold prepA at e
    split at e
    · rename_i os' e2 h2
      cases e
      cases h with
      | cons a b =>
        obtain ⟨F2, Sl2, s2, R2, l2, r2⟩ := prepA_ok R b h2
        refine ⟨F2, Sl2, s2, R2, by simp [l2], fun k o v x y n => ?_⟩
        cases k with
        | zero => exact absurd rfl n
        | succ k => exact r2 k o v x y (fun z => nomatch z)
    · cases e
  | p :: ps, some (j + 1), F, env, env', Sl, vs, os, R, h, e => by
    unfold prepA at e
    split at e
    · rename_i d e1 h1
      split at e
      · rename_i os' e2 h2
        cases e
        cases h with
        | cons a b =>
          obtain ⟨F1, Sl1, s1, R1, p1, r1⟩ := oneA_ok R a h1
          obtain ⟨F2, Sl2, s2, R2, l2, r2⟩ := prepA_ok R1 (b.mono fun _ _ => RP.mono s1.exF) h2
          refine ⟨F2, Sl2, s1.trans s2, R2, by simp [l2], fun k o v x y n => ?_⟩
          cases k with
          | zero => cases x; cases y; exact ⟨p1, fun H' T => plain_own (r1 H' T) s2.exF p1⟩
          | succ k => exact r2 k o v x y (fun z => n (by rw [Option.some.inj z]))
      · cases e
    · cases e
/-- f(..): none of its lists is changed -/
def mCall (mf : MF) (ma : MA) : MO := bnd ma fun ps e => match prepA none ps e with
  | some (os, e2) => match mf os with
    | some (r, _) => some (r, e2)
    | none => none
  | none => none
theorem ro_call {pu : Bool} {ta : TA} {ma : MA} {mf : MF} {E : XK} (h : RA pu ta ma) : RO (tCall (spOf none mf) [] E ta) (mCall mf ma) := by
  intro F H σ env Sl R o env' e Q q
  obtain ⟨ps, e1, h1, h2⟩ := bnd_of e
  split at h2
  · rename_i os e2 h3
    split at h2
    · rename_i r os' h4
      cases h2
      refine h F H σ env Sl R ps _ h1 _ fun vs F1 H1 Sl1 s1 pu1 R1 r1 => ?_
      obtain ⟨F2, Sl2, s2, R2, l2, r2⟩ := prepA_ok R1 r1 h3
      rw [List.append_nil]
      refine ⟨F2, os, fun _ _ => False, _, os', ⟨R2.ex, by rw [List.length_map, List.length_map, l2], fun i u hu => ?_, fun _ _ _ z => z.elim, fun _ _ z => z.elim⟩, fun _ _ z => z.elim, fun k u hu n => ?_, h4, fun v F3 H3 Sl3 T s3 R3 hs3 n3 => ?_⟩
      · have hi := args_at hu
        have hv : i < vs.length := by rw [← l2]; exact (List.getElem?_eq_some_iff.mp hi).1
        obtain ⟨rp, rr⟩ := r2 i u vs[i] hi (List.getElem?_eq_getElem hv) (fun z => nomatch z)
        exact ⟨vs[i], by rw [List.getElem?_map, List.getElem?_eq_getElem hv]; rfl, rr _ _⟩
      · have hv : k < vs.length := by rw [← l2]; exact (List.getElem?_eq_some_iff.mp hu).1
        obtain ⟨rp, rr⟩ := r2 k u vs[k] hu (List.getElem?_eq_getElem hv) (fun z => nomatch z)
        exact rp
      · have s4 : Step F2 H1 Sl2 F3 H3 Sl2 := Step.grow s3.exF (fun b u z => s3.fr b u z fun _ y => y) fun b u z => (s3.fz b u z).elim .inl fun y => y.elim .inr fun ⟨_, w⟩ => w.elim
        have R4 : REnv F3 H3 σ env' Sl2 := R2.grow s3.exF (fun b u z => s3.fr b u z fun _ y => y) R3.ex fun b u z => (s3.fz b u z).elim .inl fun y => y.elim .inr fun ⟨_, w⟩ => w.elim
        refine q v F3 H3 Sl2 T (s1.trans (s2.trans s4)) R4 ⟨n3.own, fun i a x y => ?_, n3.tr, fun a x => s1.tkb (s2.tkb (n3.nw a x))⟩
        obtain ⟨_, u, z⟩ := R2.tr i a y
        rw [n3.nw a x] at z
        cases z
    · cases h2
  · cases h2
/-- f(.., x, ..): the list that x alone holds may be changed -/
def mCallIo (j : Nat) (mf : MF) (ma : MA) : MO := bnd ma fun ps e => match ps[j]? with
  | some (.var i) => match prepA (some j) ps e with
    | some (os, e2) => match e2[i]? with
      | some (some o) => match mf (os.set j o) with
        | some (r, os') => match os'[j]? with
          | some o' => some (r, e2.set i (some o'))
          | none => none
        | none => none
      | _ => none
    | none => none
  | _ => none
theorem ro_callIo {pu : Bool} {ta : TA} {ma : MA} {mf : MF} {E : XK} {j : Nat} (h : RA pu ta ma) : RO (tCall (spOf (some j) mf) [] E ta) (mCallIo j mf ma) := by
  intro F H σ env Sl R o env' e Q q
  obtain ⟨ps, e1, h1, h2⟩ := bnd_of e
  split at h2
  · rename_i i hpj
    split at h2
    · rename_i os e2 h3
      split at h2
      · rename_i o1 h5
        split at h2
        · rename_i r os' h4
          split at h2
          · rename_i o' h6
            cases h2
            refine h F H σ env Sl R ps _ h1 _ fun vs F1 H1 Sl1 s1 pu1 R1 r1 => ?_
            obtain ⟨F2, Sl2, s2, R2, l2, r2⟩ := prepA_ok R1 r1 h3
            obtain ⟨vj, hvj, hvi⟩ := r1.get hpj
            have hvi : σ[i]? = some (some vj) := hvi
            have hjl : j < os.length := by rw [l2]; exact (List.getElem?_eq_some_iff.mp hvj).1
            obtain ⟨vj', e6, w⟩ := R2.at_ i o1 h5
            rw [hvi] at e6
            cases e6
            rw [List.append_nil]
            refine ⟨F2, os.set j o1, fun k b => k = j ∧ Sl2 i b, _, os', ⟨R2.ex, by rw [List.length_map, List.length_map, List.length_set, l2], fun k u hu => ?_, fun a b c x y => x.1.trans y.1.symm, fun k a z => R2.tr i a z.2⟩, fun k b z => by rw [z.1], fun k u hu n => ?_, h4, fun v F3 H3 Sl3 T s3 R3 hs3 n3 => ?_⟩
            · rcases set_at (args_at hu) with ⟨rfl, e7, _⟩ | ⟨ne, hk⟩
              · cases e7
                exact ⟨vj, by rw [List.getElem?_map, hvj]; rfl, w.sub fun a z => ⟨rfl, z⟩⟩
              · have hv : k < vs.length := by rw [← l2]; exact (List.getElem?_eq_some_iff.mp hk).1
                obtain ⟨rp, rr⟩ := r2 k u vs[k] hk (List.getElem?_eq_getElem hv) (fun z => ne (Option.some.inj z).symm)
                exact ⟨vs[k], by rw [List.getElem?_map, List.getElem?_eq_getElem hv]; rfl, rr _ _⟩
            · rcases set_at hu with ⟨rfl, e7, _⟩ | ⟨ne, hk⟩
              · exact absurd rfl n
              · have hv : k < vs.length := by rw [← l2]; exact (List.getElem?_eq_some_iff.mp hk).1
                obtain ⟨rp, rr⟩ := r2 k u vs[k] hk (List.getElem?_eq_getElem hv) (fun z => ne (Option.some.inj z).symm)
                exact rp
            · have s4 : Step F2 H1 Sl2 F3 H3 (fun k b => (k ≠ i ∧ Sl2 k b) ∨ (k = i ∧ Sl3 j b)) := by
                refine ⟨s3.exF, fun b u z n => s3.fr b u z fun k y => n i y.2, s3.tk, fun k b z => ?_, fun b u z => ?_⟩
                · rcases z with ⟨_, z⟩ | ⟨rfl, z⟩
                  · exact .inl z
                  · exact (s3.own j b z).elim (fun y => .inl y.2) .inr
                · rcases s3.fz b u z with y | y | ⟨_, y⟩
                  · exact .inl y
                  · exact .inr (.inl y)
                  · exact .inr (.inr ⟨i, y.2⟩)
              have R4 : REnv F3 H3 σ (e2.set i (some o')) (fun k b => (k ≠ i ∧ Sl2 k b) ∨ (k = i ∧ Sl3 j b)) := by
                have apart : ∀ k a, k ≠ i → Sl2 k a → ¬ Sl3 j a := fun k a n x y => by
                  rcases s3.own j a y with z | z
                  · exact n (R2.dj k i a x z.2)
                  · obtain ⟨_, u, z'⟩ := R2.tr k a x
                    rw [z] at z'
                    cases z'
                refine ⟨R3.ex, by rw [List.length_set]; exact R2.len, fun k u hu => ?_, fun k l a x y => ?_, fun k a x => ?_⟩
                · rcases set_at hu with ⟨rfl, e7, _⟩ | ⟨ne, hk⟩
                  · cases e7
                    obtain ⟨v7, e8, w7⟩ := R3.at_ j _ (by rw [List.getElem?_map, h6]; rfl)
                    rw [List.getElem?_map, hvj] at e8
                    cases e8
                    exact ⟨vj, hvi, w7.sub fun a z => Or.inr ⟨rfl, z⟩⟩
                  · obtain ⟨v7, e8, w7⟩ := R2.at_ k u hk
                    exact ⟨v7, e8, (w7.ext s3.exF fun a x s y => s3.fr a x y fun m z => ne (R2.dj k i a s z.2)).sub fun a s => .inl ⟨ne, s⟩⟩
                · rcases x with ⟨n1, x⟩ | ⟨rfl, x⟩
                  · rcases y with ⟨n2, y⟩ | ⟨rfl, y⟩
                    · exact R2.dj k l a x y
                    · exact absurd y (apart k a n1 x)
                  · rcases y with ⟨n2, y⟩ | ⟨rfl, y⟩
                    · exact absurd x (apart l a n2 y)
                    · rfl
                · rcases x with ⟨n1, x⟩ | ⟨rfl, x⟩
                  · obtain ⟨y1, u, y2⟩ := R2.tr k a x
                    refine ⟨?_, s3.tk a u y2⟩
                    cases z : F3 a with
                    | none => rfl
                    | some u' =>
                      rcases s3.fz a u' z with y | y | ⟨_, y⟩
                      · rw [y1] at y; cases y
                      · rw [y2] at y; cases y
                      · exact absurd (R2.dj k i a x y.2) n1
                  · exact R3.tr j a x
              refine q v F3 H3 _ T (s1.trans (s2.trans s4)) R4 ⟨n3.own, fun k a x y => ?_, n3.tr, fun a x => s1.tkb (s2.tkb (n3.nw a x))⟩
              rcases y with ⟨_, y⟩ | ⟨_, y⟩
              · obtain ⟨_, u, z⟩ := R2.tr k a y
                rw [n3.nw a x] at z
                cases z
              · exact n3.dj j a x y
          · cases h2
        · cases h2
      · cases h2
    · cases h2
  · cases h2
/-- what is new is fixed at once -/
def mFz (mo : MO) : ME := bnd mo fun o e => match o.dat with
  | some d => some (.val d, e)
  | none => none
theorem re_o {te : TE} {mo : MO} (h : RO te mo) : RE false te (mFz mo) := by
  intro F H σ env Sl R p env' e Q q
  obtain ⟨o, e1, h1, h2⟩ := bnd_of e
  split at h2
  · rename_i d hd
    cases h2
    refine h F H σ env Sl R o _ h1 Q fun v F1 H1 Sl1 T s1 R1 n => ?_
    have ex : Ex F1 (fixed F1 H1 T) := fun a u z => by
      rw [fixed_out fun y => by rw [(n.tr a y).1] at z; cases z]
      exact z
    refine q v (fixed F1 H1 T) H1 Sl1 ⟨s1.exF.trans ex, s1.fr, s1.tk, s1.own, fun b u z => ?_⟩ (fun z => nomatch z) ⟨fun b u z => ?_, R1.len, fun i u z => ?_, R1.dj, fun i a z => ?_⟩ (n.own.fix (fun a z => (n.tr a z).1) hd)
    · by_cases t : T b
      · exact .inr (.inl (n.nw b t))
      · rw [fixed_out t] at z; exact s1.fz b u z
    · by_cases t : T b
      · rw [fixed_in t] at z; exact z
      · rw [fixed_out t] at z; exact R1.ex b u z
    · obtain ⟨v2, e2, w2⟩ := R1.at_ i u z
      exact ⟨v2, e2, w2.ext ex fun _ _ _ y => y⟩
    · obtain ⟨y1, y2⟩ := R1.tr i a z
      refine ⟨?_, y2⟩
      rw [fixed_out fun t => n.dj i a t z]
      exact y1
  · cases h2
end Tr
namespace Tr
open PySem PySem.Spec PyProof.Rows L2

/-! ### powers of any base -/
/-- the result within 2 ^ 27 bits -/
def CPowX (i j : Int) : Prop := 0 ≤ j ∧ (Builtin.Int.intBits i : Int) * j ≤ 2 ^ 27
theorem op_powX {X : Cx} : OpR X (binaryOp .Pow) (rI CPowX fun i j => .int (i ^ j.toNat)) := opI fun _ _ _ _ _ _ _ hc q => pow_int hc.1 hc.2 q
theorem b_pow : BinK (rI CPowX fun i j => .int (i ^ j.toNat)) (gI (fun i j => decide (0 ≤ j ∧ (Builtin.Int.intBits i : Int) * j ≤ 2 ^ 27)) fun i j => .int (i ^ j.toNat)) := bin_I (fun i j h => show 0 ≤ j ∧ (Builtin.Int.intBits i : Int) * j ≤ 2 ^ 27 from of_decide_eq_true h) fun _ _ _ => rfl
/-! ### built-in functions -/
def gLen : En → List P → Option P := fun env ps => match ps with
  | [p] => match vw env p with
    | some (.list ds) => some (.val (.int (ds.length : Nat)))
    | some (.tuple ds) => some (.val (.int (ds.length : Nat)))
    | _ => none
  | _ => none
theorem dpAll_len {K : PySem.W.Frag} {H : Hp} : ∀ {vs : List V} {ds : List PyData}, DpAll K H vs ds → vs.length = ds.length
  | _, _, .nil => rfl
  | _, _, .cons _ t => by rw [List.length_cons, List.length_cons, dpAll_len t]
theorem f_len {K : PySem.W.Frag} : FnK (fun xs H Q => ∃ p ys, xs = [.ref p] ∧ (SqL K H p ys ∨ SqT K H p ys) ∧ Q (.int ys.length) H) gLen := by
  intro F H σ env Sl xs ps p R h e Q q
  unfold gLen at e
  split at e
  · rename_i p1
    cases h with
    | cons a t =>
      cases t
      split at e
      · rename_i ds h1
        cases e
        obtain ⟨b, ys, rfl, hs, hall⟩ := rp_list.mp (vw_rp R a h1)
        exact ⟨_, _, rfl, .inl (SqL.of hs), q _ F H (Ex.refl F) (Ex.refl H) R.ex (fun _ _ z => .inl z) (by show V.int _ = V.int _; rw [hall.len])⟩
      · rename_i ds h1
        cases e
        obtain ⟨b, ys, rfl, hs, hall⟩ := rp_tuple.mp (vw_rp R a h1)
        exact ⟨_, _, rfl, .inr (SqT.of hs), q _ F H (Ex.refl F) (Ex.refl H) R.ex (fun _ _ z => .inl z) (by show V.int _ = V.int _; rw [hall.len])⟩
      · cases e
  · cases e
def gInt : En → List P → Option P := fun _ ps => match ps with
  | [.val (.int i)] => some (.val (.int i))
  | [.val (.bool b)] => some (.val (.int (if b then 1 else 0)))
  | _ => none
theorem f_int : FnK (fun xs H Q => (∃ i, xs = [.int i] ∧ Q (.int i) H) ∨ ∃ k, xs = [.bl k] ∧ Q (.int (if k then 1 else 0)) H) gInt := by
  intro F H σ env Sl xs ps p R h e Q q
  unfold gInt at e
  split at e
  · cases e
    cases h with
    | cons a t => cases t; exact .inl ⟨_, by rw [pint a], q _ F H (Ex.refl F) (Ex.refl H) R.ex (fun _ _ z => .inl z) rfl⟩
  · cases e
    cases h with
    | cons a t => cases t; exact .inr ⟨_, by rw [pbool a], q _ F H (Ex.refl F) (Ex.refl H) R.ex (fun _ _ z => .inl z) rfl⟩
  · cases e
/-- all truth values -/
def allB : List PyData → Option (List Bool)
  | [] => some []
  | .bool b :: ds => (allB ds).map (b :: ·)
  | _ :: _ => none
theorem allB_ok {F : Hp} : ∀ {ds : List PyData} {vs : List V} {bs : List Bool}, All2 (Rp F) ds vs → allB ds = some bs → vs = bs.map V.bl
  | [], _, _, .nil, e => by cases e; rfl
  | .bool b :: ds, _, _, .cons r t, e => by
    unfold allB at e
    cases h : allB ds with
    | none => rw [h] at e; cases e
    | some bs' =>
      rw [h] at e
      cases e
      rw [allB_ok t h, rp_bool r]
      rfl
  | .none :: _, _, _, _, e => nomatch e
  | .int _ :: _, _, _, _, e => nomatch e
  | .str _ :: _, _, _, _, e => nomatch e
  | .list _ :: _, _, _, _, e => nomatch e
  | .tuple _ :: _, _, _, _, e => nomatch e
  | .dict _ :: _, _, _, _, e => nomatch e
def gAll : En → List P → Option P := fun env ps => match ps with
  | [p] => ((sq env p).bind allB).map fun bs => .val (.bool (bs.all id))
  | _ => none
theorem f_all {K : PySem.W.Frag} : FnK (rAll K) gAll := by
  intro F H σ env Sl xs ps p R h e Q q
  unfold gAll at e
  split at e
  · rename_i p1
    cases h with
    | cons a t =>
      cases t
      cases h1 : sq env p1 with
      | none => rw [h1] at e; cases e
      | some ds =>
        cases h2 : allB ds with
        | none => simp only [h1, Option.bind_some, h2] at e; cases e
        | some bs =>
          simp only [h1, Option.bind_some, h2, Option.map_some] at e
          cases e
          obtain ⟨l, vs, rfl, hl, r⟩ := sq_of R a h1
          have e2 := allB_ok r h2
          exact ⟨l, bs, rfl, SqL.of (by rw [← e2]; exact hl), q _ F H (Ex.refl F) (Ex.refl H) R.ex (fun _ _ z => .inl z) rfl⟩
  · cases e
/-- all whole numbers -/
def allI : List PyData → Option (List Int)
  | [] => some []
  | .int b :: ds => (allI ds).map (b :: ·)
  | _ :: _ => none
theorem allI_ok {F : Hp} : ∀ {ds : List PyData} {vs : List V} {bs : List Int}, All2 (Rp F) ds vs → allI ds = some bs → vs = bs.map V.int
  | [], _, _, .nil, e => by cases e; rfl
  | .int b :: ds, _, _, .cons r t, e => by
    unfold allI at e
    cases h : allI ds with
    | none => rw [h] at e; cases e
    | some bs' =>
      rw [h] at e
      cases e
      rw [allI_ok t h, rp_int r]
      rfl
  | .none :: _, _, _, _, e => nomatch e
  | .bool _ :: _, _, _, _, e => nomatch e
  | .str _ :: _, _, _, _, e => nomatch e
  | .list _ :: _, _, _, _, e => nomatch e
  | .tuple _ :: _, _, _, _, e => nomatch e
  | .dict _ :: _, _, _, _, e => nomatch e
theorem allI_map : ∀ ns : List Int, allI (ns.map .int) = some ns
  | [] => rfl
  | n :: ns => by show (allI (ns.map .int)).map _ = _; rw [allI_map ns]; rfl
theorem allB_map : ∀ ns : List Bool, allB (ns.map .bool) = some ns
  | [] => rfl
  | n :: ns => by show (allB (ns.map .bool)).map _ = _; rw [allB_map ns]; rfl
/-! isinstance(x, T), T a built-in class -/
def tyName : PyData → String
  | .none => "NoneType"
  | .bool _ => "bool"
  | .int _ => "int"
  | .str _ => "str"
  | .list _ => "list"
  | .tuple _ => "tuple"
  | .dict _ => "dict"
def isT (T : String) (d : PyData) : Bool := tyName d == T || (T == "int" && tyName d == "bool")
theorem kit_key : ∀ a ∈ ["NoneType", "bool", "int", "str", "list", "tuple", "dict"], ∀ T ∈ ["int", "bool", "list", "tuple", "str"], kitB a T = some (a == T || (T == "int" && a == "bool")) := by decide +kernel
theorem kit_is (T : String) (h : T ∈ ["int", "bool", "list", "tuple", "str"]) {K : PySem.W.Frag} (d : PyData) : PySem.W.kitOne K (.type (tyName d)) (.type T) = some (isT T d) := by
  refine kit_ty (kit_key (tyName d) ?_ T h)
  cases d <;> simp [tyName]
theorem tyx_of {K : PySem.W.Frag} {H : Hp} {d : PyData} {v : V} (h : Rp H d v) : TyX K H v (.type (tyName d)) := by
  cases d with
  | none => cases (show v = .non from h); exact .base .non
  | bool b => cases (show v = .bl b from h); exact .base (.bl _)
  | int i => cases (show v = .int i from h); exact .base (.int _)
  | str x => cases (show v = .str x from h); exact .base (.str _)
  | list ds =>
    obtain ⟨a, vs, rfl, h1, _⟩ := h
    exact .base (.lst h1)
  | tuple ds =>
    obtain ⟨a, vs, rfl, h1, _⟩ := h
    exact .base (.tup h1)
  | dict kvs =>
    obtain ⟨_, a, rfl, h1⟩ := h
    exact .base (.dK h1)
def mIsi (T : String) (me : ME) : ME := bnd me fun p e => (vw e p).map fun d => (.val (.bool (isT T d)), e)
theorem re_isi {K : PySem.W.Frag} {pu : Bool} {te : TE} {me : ME} (T : String) (h : RE pu te me) (hT : T ∈ ["int", "bool", "list", "tuple", "str"] := by simp) : RE pu (tCB (rIsi K) (tCons te (tCons (tC (.ty T)) tNil))) (mIsi T me) := by
  intro F H σ env Sl R p env' e Q q
  obtain ⟨p1, e1, h1, h2⟩ := bnd_of e
  cases h3 : vw e1 p1 with
  | none => rw [h3] at h2; cases h2
  | some d =>
    rw [h3] at h2
    cases h2
    refine h F H σ env Sl R p1 _ h1 _ fun r F1 H1 Sl1 s1 pu1 R1 r1 => ?_
    have t1 := tyx_of (K := K) (vw_rp R1 r1 h3)
    exact ⟨r, .ty T, .type (tyName d), .type T, isT T d, rfl, .ty T, t1, kit_is T hT d, q _ F1 H1 Sl1 s1 pu1 R1 rfl⟩
/-! x in xs, of things without parts -/
def flat : PyData → Bool
  | .none => true
  | .bool _ => true
  | .int _ => true
  | .str _ => true
  | _ => false
def gIn (neg : Bool) : En → P → P → Option P := fun env p q => match p with
  | .val d => match sqT env q with
    | some ds => if flat d && ds.all flat then some (.val (.bool (neg ^^ ds.any fun y => PyData.eqv y d))) else none
    | none => none
  | _ => none
theorem flat_v {F : Hp} {d : PyData} {v : V} (h : Rp F d v) (e : flat d = true) : flatV v = true := by
  cases d with
  | none => rw [rp_none h]; rfl
  | bool b => rw [rp_bool h]; rfl
  | int b => rw [rp_int h]; rfl
  | str b => rw [rp_str h]; rfl
  | list ds => cases e
  | tuple ds => cases e
  | dict _ => cases e
theorem flat_vs {F : Hp} {ds : List PyData} {vs : List V} (h : All2 (Rp F) ds vs) (e : ds.all flat = true) : vs.all flatV = true := by
  induction h with
  | nil => rfl
  | cons a t ih =>
    rw [List.all_cons, Bool.and_eq_true] at e ⊢
    exact ⟨flat_v a e.1, ih e.2⟩
theorem flat_eq {F F' : Hp} {d d' : PyData} {v v' : V} (h : Rp F d v) (h' : Rp F' d' v') (e : flat d = true) (e' : flat d' = true) : eqV v v' = PyData.eqv d d' := by
  cases d with
  | none => cases d' with
    | none => rw [rp_none h, rp_none h']; simp [eqV, PyData.eqv]
    | bool b => rw [rp_none h, rp_bool h']; simp [eqV, PyData.eqv]
    | int b => rw [rp_none h, rp_int h']; simp [eqV, PyData.eqv]
    | str b => rw [rp_none h, rp_str h']; simp [eqV, PyData.eqv]
    | list ds => cases e'
    | tuple ds => cases e'
    | dict _ => cases e'
  | bool a => cases d' with
    | none => rw [rp_bool h, rp_none h']; simp [eqV, PyData.eqv]
    | bool b => rw [rp_bool h, rp_bool h']; simp [eqV, PyData.eqv]
    | int b => rw [rp_bool h, rp_int h']; simp [eqV, PyData.eqv]
    | str b => rw [rp_bool h, rp_str h']; simp [eqV, PyData.eqv]
    | list ds => cases e'
    | tuple ds => cases e'
    | dict _ => cases e'
  | int a => cases d' with
    | none => rw [rp_int h, rp_none h']; simp [eqV, PyData.eqv]
    | bool b => rw [rp_int h, rp_bool h']; simp [eqV, PyData.eqv]
    | int b => rw [rp_int h, rp_int h']; simp [eqV, PyData.eqv]
    | str b => rw [rp_int h, rp_str h']; simp [eqV, PyData.eqv]
    | list ds => cases e'
    | tuple ds => cases e'
    | dict _ => cases e'
  | str a => cases d' with
    | none => rw [rp_str h, rp_none h']; simp [eqV, PyData.eqv]
    | bool b => rw [rp_str h, rp_bool h']; simp [eqV, PyData.eqv]
    | int b => rw [rp_str h, rp_int h']; simp [eqV, PyData.eqv]
    | str b => rw [rp_str h, rp_str h']; simp [eqV, PyData.eqv]
    | list ds => cases e'
    | tuple ds => cases e'
    | dict _ => cases e'
  | list ds => cases e
  | tuple ds => cases e
  | dict _ => cases e
theorem flat_any {F F' : Hp} {ds : List PyData} {vs : List V} {d : PyData} {v : V} (h : All2 (Rp F) ds vs) (h' : Rp F' d v) (e : ds.all flat = true) (e' : flat d = true) : inV v vs = ds.any fun y => PyData.eqv y d := by
  unfold inV
  induction h with
  | nil => rfl
  | cons a t ih =>
    rw [List.all_cons, Bool.and_eq_true] at e
    rw [List.any_cons, List.any_cons, flat_eq a h' e.1 e', ih e.2]
theorem b_in {K : PySem.W.Frag} (neg : Bool) : BinK (rIn K neg) (gIn neg) := by
  intro F H σ env Sl x y p1 p2 p R h1 h2 e Q q
  unfold gIn at e
  split at e
  · rename_i d
    split at e
    · rename_i ds h3
      split at e
      · rename_i hf
        cases e
        rw [Bool.and_eq_true] at hf
        have h1' : Rp F d x := h1
        have fin : ∀ (a : Addr) (vs : List V), (SqL K H a vs ∨ SqT K H a vs) → All2 (Rp F) ds vs → y = .ref a → rIn K neg x y H Q := fun a vs hs r ey => by
          refine ⟨a, vs, ey, hs, flat_v h1' hf.1, flat_vs r hf.2, ?_⟩
          rw [flat_any r h1' hf.2 hf.1]
          refine q _ F H (Ex.refl F) (Ex.refl H) R.ex (fun _ _ z => .inl z) ?_
          show V.bl _ = V.bl _
          cases neg
          · rw [Bool.false_xor]; rfl
          · rw [Bool.true_xor]; rfl
        unfold sqT at h3
        split at h3
        · cases h3
          obtain ⟨a, vs, rfl, hH, r⟩ := rp_tuple.mp (pr_val h2)
          exact fin a vs (.inr (SqT.of (R.ex _ _ hH))) r rfl
        · obtain ⟨a, vs, rfl, hH, r⟩ := sq_of R h2 h3
          exact fin a vs (.inl (SqL.of hH)) r rfl
      · cases e
    · cases e
  · cases e
/-! -x -/
def gNeg : En → P → Option P
  | _, .val (.int i) => some (.val (.int (-i)))
  | _, _ => none
theorem u_neg : UnK (rU fun i => .int (-i)) gNeg := by
  intro F H σ env Sl x p1 p R h e Q q
  unfold gNeg at e
  split at e
  · cases e
    exact ⟨_, pint h, q _ F H (Ex.refl F) (Ex.refl H) R.ex (fun _ _ z => .inl z) rfl⟩
  · cases e
/-! a < b < c -/
def gAndB : P → Option Bool
  | .val (.bool b) => some b
  | _ => none
def mChain (g g' : En → P → P → Option P) (ma mb mc : ME) : ME := bnd ma fun p e => bnd mb (fun q e2 => match g e2 p q with
  | some (.val (.bool true)) => bnd mc (fun r e3 => (g' e3 q r).map fun z => (z, e3)) e2
  | some (.val (.bool false)) => some (.val (.bool false), e2)
  | _ => none) e
theorem re_chain {k k' : R2} {g g' : En → P → P → Option P} {pu pv pw : Bool} {ta tb tc : TE} {ma mb mc : ME} (hk : BinK k g) (hk' : BinK k' g') (ha : RE pu ta ma) (hb : RE pv tb mb) (hc : RE pw tc mc) : RE false (tChain k k' ta tb tc) (mChain g g' ma mb mc) := by
  intro F H σ env Sl R p env' e Q q
  obtain ⟨p1, e1, h1, h2⟩ := bnd_of e
  obtain ⟨p2, e2, h3, h4⟩ := bnd_of h2
  refine ha F H σ env Sl R p1 _ h1 _ fun x F1 H1 Sl1 s1 pu1 R1 r1 => ?_
  refine hb F1 H1 σ e1 Sl1 R1 p2 _ h3 _ fun y F2 H2 Sl2 s2 pu2 R2 r2 => ?_
  split at h4
  · rename_i h5
    refine hk F2 H2 σ e2 Sl2 x y p1 p2 _ R2 (r1.mono s2.exF) r2 h5 _ fun v F3 H3 f1 f2 f3 f4 r3 => ?_
    have R3 := R2.grow f1 f2 f3 f4
    have s3 := s1.trans (s2.trans (Step.grow (Sl := Sl2) f1 f2 f4))
    refine ⟨true, pbool r3, ?_⟩
    rw [if_pos rfl]
    obtain ⟨p3, e3, h6, h7⟩ := bnd_of h4
    cases h8 : g' e3 p2 p3 with
    | none => rw [h8] at h7; cases h7
    | some z =>
      rw [h8] at h7
      cases h7
      refine hc F3 H3 σ e2 Sl2 R3 p3 _ h6 _ fun w F4 H4 Sl4 s4 pu4 R4 r4 => ?_
      exact hk' F4 H4 σ _ Sl4 y w p2 p3 _ R4 ((r2.mono f1).mono s4.exF) r4 h8 Q fun v F5 H5 g1 g2 g3 g4 r5 => q v F5 H5 Sl4 (s3.trans (s4.trans (Step.grow g1 g2 g4))) (fun z => nomatch z) (R4.grow g1 g2 g3 g4) r5
  · rename_i h5
    cases h4
    refine hk F2 H2 σ _ Sl2 x y p1 p2 _ R2 (r1.mono s2.exF) r2 h5 _ fun v F3 H3 f1 f2 f3 f4 r3 => ?_
    refine ⟨false, pbool r3, ?_⟩
    rw [if_neg Bool.false_ne_true]
    exact q _ F3 H3 Sl2 (s1.trans (s2.trans (Step.grow f1 f2 f4))) (fun z => nomatch z) (R2.grow f1 f2 f3 f4) rfl
  · cases h4
end Tr
namespace Tr
open PySem PySem.Spec PyProof.Rows L2

/-! ### a list apart from all that is fixed and all that the names hold -/
structure Sd (F H : Hp) (Sl : Nat → Addr → Prop) (r : Addr) (vs : List V) : Prop where
  f : F r = none
  h : H r = some (.lst vs)
  s : ∀ i, ¬ Sl i r
theorem Sd.step {F H F' H' : Hp} {Sl Sl' : Nat → Addr → Prop} {r : Addr} {vs : List V} (d : Sd F H Sl r vs) (s : Step F H Sl F' H' Sl') : Sd F' H' Sl' r vs := by
  refine ⟨?_, s.fr r _ d.h d.s, fun i z => ?_⟩
  · cases q : F' r with
    | none => rfl
    | some o =>
      rcases s.fz r o q with y | y | ⟨j, y⟩
      · rw [d.f] at y; cases y
      · rw [d.h] at y; cases y
      · exact absurd y (d.s j)
  · rcases s.own i r z with y | y
    · exact d.s i y
    · rw [d.h] at y; cases y
theorem Sd.upd {F H : Hp} {Sl : Nat → Addr → Prop} {r p : Addr} {vs : List V} {u : HO} (d : Sd F H Sl r vs) (n : r ≠ p) : Sd F (upd H p u) Sl r vs := ⟨d.f, by rw [upd_ne n]; exact d.h, d.s⟩
/-- the rows that stand at rs, apart -/
def Rows (F H : Hp) (Sl : Nat → Addr → Prop) (rows : List (List PyData)) (rs : List Addr) : Prop := All2 (fun row r => ∃ vs, Sd F H Sl r vs ∧ All2 (Rp F) row vs) rows rs
theorem Rows.step {F H F' H' : Hp} {Sl Sl' : Nat → Addr → Prop} {rows : List (List PyData)} {rs : List Addr} (d : Rows F H Sl rows rs) (s : Step F H Sl F' H' Sl') : Rows F' H' Sl' rows rs :=
  d.mono fun _ _ ⟨vs, a, b⟩ => ⟨vs, a.step s, all_mono s.exF b⟩
theorem Rows.upd {F H : Hp} {Sl : Nat → Addr → Prop} {rows : List (List PyData)} {rs : List Addr} {p : Addr} {u : HO} (d : Rows F H Sl rows rs) (n : p ∉ rs) : Rows F (upd H p u) Sl rows rs :=
  d.monoM fun _ r _ hr ⟨vs, a, b⟩ => ⟨vs, a.upd (fun e => n (e ▸ hr)), b⟩
def mLc2Go (mg : PyData → En → Option En) (mt : MT) (mo : MO) (vs : List Nat) : List PyData → List (List PyData) → En → Option (List (List PyData) × En)
  | [], acc, env => some (acc, env)
  | d :: ds, acc, env => match mg d env with
    | some e1 => match mt e1 with
      | some (true, e2) => match mo e2 with
        | some (.ow row, e3) => if acc.length < sizeLine then mLc2Go mg mt mo vs ds (acc ++ [row]) (wipeE e3 vs) else none
        | _ => none
      | some (false, e2) => mLc2Go mg mt mo vs ds acc (wipeE e2 vs)
      | none => none
    | none => none
/-- a comprehension whose items are new lists: all held -/
def mLc2 (mi : ML) (mg : PyData → En → Option En) (mt : MT) (mo : MO) (vs : List Nat) : MO := bnd mi fun ds e => (mLc2Go mg mt mo vs ds [] (wipeE e vs)).map fun r => (.ow2 r.1, r.2)
theorem ro_lc2 {wi : TI} {g : TG} {tt : TT} {te : TE} {vs is : List Nat} {mi : ML} {mg : PyData → En → Option En} {mt : MT} {mo : MO} {pt : Bool} (hi : RI wi mi) (hg : RT' is g mg) (ht : RT pt tt mt) (he : RO te mo) (hs : ∀ i ∈ is, i ∈ vs := by decide) :
    RO (tLc wi g tt te vs) (mLc2 mi mg mt mo vs) := by
  intro F H σ env Sl R o env' e Q q
  obtain ⟨xs, e0, h1, h2⟩ := bnd_of e
  cases h3 : mLc2Go mg mt mo vs xs [] (wipeE e0 vs) with
  | none => rw [h3] at h2; cases h2
  | some re =>
    obtain ⟨rows, e9⟩ := re
    rw [h3] at h2
    cases h2
    refine hi F H σ env Sl R xs _ h1 _ fun J F1 H1 Sl1 s1 R1 hJ => ?_
    intro p np
    obtain ⟨Sl2, R2, k2⟩ := R1.wiped (vs := vs)
    have n2 : ∀ i, ¬ Sl2 i p := fun i z => fresh_notin R1 np i (k2 i p z)
    have R3 : REnv F1 (upd H1 p (.lst [])) (wipe σ vs) (wipeE e0 vs) Sl2 := R2.side (R1.ex.none np) n2
    have s3 : Step F1 H1 Sl1 F1 (upd H1 p (.lst [])) Sl2 := (Step.fewer k2).trans (Step.grow (Ex.refl F1) (Ex.new np) fun _ _ z => .inl z)
    refine ⟨fun i m Hi => ∃ Fi Sli envi acc rs, i ≤ xs.length ∧ m = xs.length - i ∧ REnv Fi Hi (wipe σ vs) envi Sli ∧ Step F1 H1 Sl1 Fi Hi Sli ∧ mLc2Go mg mt mo vs (xs.drop i) acc envi = some (rows, e9) ∧ Rows Fi Hi Sli acc rs ∧ Sd Fi Hi Sli p (rs.map V.ref) ∧ p ∉ rs ∧ rs.Nodup ∧ ∀ r ∈ rs, H1 r = none, ?_, ?_⟩
    · exact ⟨xs.length, F1, Sl2, wipeE e0 vs, [], [], Nat.zero_le _, by omega, R3, s3, h3, .nil, ⟨R1.ex.none np, upd_same, n2⟩, by simp, List.nodup_nil, by simp⟩
    · rintro i m Hi ⟨Fi, Sli, envi, acc, rs, hil, hm, Ri, si, go, ra, dp, prs, nd, nw⟩
      cases hx : xs[i]? with
      | none =>
        have hge : xs.length ≤ i := List.getElem?_eq_none_iff.mp hx
        rw [List.drop_eq_nil_of_le hge] at go
        have go' : some (acc, envi) = some (rows, e9) := go
        cases go'
        refine .inl ⟨(hJ Fi Hi si.exF Ri.ex i).2 hx, ?_⟩
        refine q _ Fi Hi Sli (fun a => a = p ∨ a ∈ rs) (s1.trans si) Ri.unwipe ⟨⟨p, rs, rfl, .inl rfl, dp.h, prs, nd, ra.monoM fun row r _ hr ⟨ws, a, b⟩ => ⟨.inr hr, ws, a.h, b⟩⟩, fun j a z y => ?_, fun a z => ?_, fun a z => ?_⟩
        · rcases z with rfl | z
          · exact dp.s j y
          · obtain ⟨k, hk⟩ := List.mem_iff_getElem?.mp z
            obtain ⟨row, _, ws, sd, _⟩ := ra.getR hk
            exact sd.s j y
        · rcases z with rfl | z
          · exact ⟨dp.f, _, dp.h⟩
          · obtain ⟨k, hk⟩ := List.mem_iff_getElem?.mp z
            obtain ⟨row, _, ws, sd, _⟩ := ra.getR hk
            exact ⟨sd.f, _, sd.h⟩
        · rcases z with rfl | z
          · exact s1.tkb np
          · exact s1.tkb (nw a z)
      | some d =>
        have hlt : i < xs.length := (List.getElem?_eq_some_iff.mp hx).1
        have hd : xs.drop i = d :: xs.drop (i + 1) := by
          rw [List.drop_eq_getElem_cons hlt]
          have := (List.getElem?_eq_some_iff.mp hx).2
          rw [this]
        rw [hd] at go
        unfold mLc2Go at go
        obtain ⟨jg, jy⟩ := (hJ Fi Hi si.exF Ri.ex i).1 d hx
        refine .inr ⟨jg, fun H' => ∃ Fi Sli envi acc rs, i + 1 ≤ xs.length ∧ REnv Fi H' (wipe σ vs) envi Sli ∧ Step F1 H1 Sl1 Fi H' Sli ∧ mLc2Go mg mt mo vs (xs.drop (i + 1)) acc envi = some (rows, e9) ∧ Rows Fi H' Sli acc rs ∧ Sd Fi H' Sli p (rs.map V.ref) ∧ p ∉ rs ∧ rs.Nodup ∧ ∀ r ∈ rs, H1 r = none,
          fun H' ⟨Fj, Slj, envj, accj, rsj, z1, z2⟩ => ⟨xs.length - (i + 1), by omega, Fj, Slj, envj, accj, rsj, z1, rfl, z2⟩, fun x H' hy => ?_⟩
        obtain ⟨Fj, f1, f2, f3, f4, f5⟩ := jy x H' hy
        have Rj : REnv Fj H' (wipe σ vs) envi Sli := Ri.grow f1 f2 f3 f4
        have sg : Step Fi Hi Sli Fj H' Sli := Step.grow f1 f2 f4
        cases hg1 : mg d envi with
        | none => rw [hg1] at go; cases go
        | some e1 =>
          rw [hg1] at go
          refine hg Fj H' (wipe σ vs) envi Sli x d Rj f5 e1 hg1 _ fun σ2 Sl4 R4 k4 p4 l4 => ?_
          have hl4 : σ2.length = σ.length := by rw [l4, wipe_length]
          have weq : wipe σ2 vs = wipe σ vs := wipe_eq p4 hl4 hs
          refine ⟨weq, ?_⟩
          have sg4 : Step Fi Hi Sli Fj H' Sl4 := sg.trans (Step.fewer k4)
          cases ht1 : mt e1 with
          | none => simp only [ht1] at go; cases go
          | some tb =>
            obtain ⟨b, e2⟩ := tb
            simp only [ht1] at go
            refine ht Fj H' σ2 e1 Sl4 R4 b e2 ht1 _ fun b' F5 H5 Sl5 s5 pu5 R5 rb => ?_
            cases rb
            have s5' := sg4.trans s5
            cases b with
            | false =>
              rw [if_neg Bool.false_ne_true]
              obtain ⟨Sl6, R6, k6⟩ := step_wiped (σ := σ) (vs := vs) R5 weq
              have s6 := s5'.trans (Step.fewer k6)
              exact ⟨F5, Sl6, _, acc, rs, hlt, R6, si.trans s6, go, ra.step s6, dp.step s6, prs, nd, nw⟩
            | true =>
              rw [if_pos rfl]
              cases he1 : mo e2 with
              | none => simp only [he1] at go; cases go
              | some pe3 =>
                obtain ⟨oo, e3⟩ := pe3
                simp only [he1] at go
                cases oo with
                | fz _ => cases go
                | rg _ _ => cases go
                | sc _ _ => cases go
                | kt _ _ => cases go
                | ow2 _ => cases go
                | ow row =>
                  simp only at go
                  split at go
                  · rename_i hlen
                    refine he F5 H5 σ2 e2 Sl5 R5 _ e3 he1 _ fun v F6 H6 Sl6 T s6 R6 n6 => ?_
                    obtain ⟨a, ws, rfl, ta, ha, rr⟩ := n6.own
                    obtain ⟨Sl8, R8, k8⟩ := step_wiped (σ := σ) (vs := vs) R6 weq
                    have s8 := s5'.trans (s6.trans (Step.fewer k8))
                    have dp5 := dp.step s5'
                    have dp8 := dp.step s8
                    have na5 : H5 a = none := n6.nw a ta
                    have nap : a ≠ p := fun z => by rw [z, dp5.h] at na5; cases na5
                    have nar : a ∉ rs := fun z => by
                      obtain ⟨k, hk⟩ := List.mem_iff_getElem?.mp z
                      obtain ⟨row', _, ws', sd, _⟩ := (ra.step s5').getR hk
                      rw [sd.h] at na5
                      cases na5
                    have sda : Sd F6 H6 Sl8 a ws := ⟨(n6.tr a ta).1, ha, fun j z => n6.dj j a ta (k8 j a z)⟩
                    have ra8 : Rows F6 H6 Sl8 (acc ++ [row]) (rs ++ [a]) := (ra.step s8).snoc ⟨ws, sda, rr⟩
                    have prs8 : p ∉ rs ++ [a] := by
                      rw [List.mem_append]
                      rintro (z | z)
                      · exact prs z
                      · exact nap (List.mem_singleton.mp z).symm
                    refine ⟨rs.map V.ref, dp8.h, by rw [List.length_map, ← ra.len]; exact hlen, F6, Sl8, _, acc ++ [row], rs ++ [a], hlt, R8.side dp8.f dp8.s, (si.trans s8).side np, go, ra8.upd prs8, ⟨dp8.f, ?_, dp8.s⟩, prs8, ?_, fun r hr => ?_⟩
                    · rw [upd_same, List.map_append]; rfl
                    · exact List.nodup_append.mpr ⟨nd, by simp, fun x hx y hy => by
                        have : y = a := by simpa using hy
                        rw [this]
                        exact fun z => nar (z ▸ hx)⟩
                    · rcases List.mem_append.mp hr with z | z
                      · exact nw r z
                      · have : r = a := by simpa using z
                        rw [this]
                        exact si.tkb (s5'.tkb na5)
                  · cases go
/-! a loop that hands over the rows of a new list, one after the other -/
def mForMGo (i : Nat) (mb : MS) : List (List PyData) → MS
  | [], env => some (.nx, env)
  | row :: rows, env => match mb (env.set i (some (.ow row))) with
    | some (.nx, e2) => mForMGo i mb rows e2
    | some (.ct, e2) => mForMGo i mb rows e2
    | some (.bk, e2) => some (.nx, e2)
    | some (.rt o, e2) => some (.rt o, e2)
    | none => none
def mForM (mo : MO) (i : Nat) (mb : MS) : MS := bnd mo fun o e => match o with
  | .ow2 rows => mForMGo i mb rows e
  | _ => none
theorem rs_forM {K : PySem.W.Frag} {pn : Option Nat} {te : TE} {tb : TS} {mo : MO} {mb : MS} {i : Nat} (h : RO te mo) (hb : RS pn tb mb) (hp : pn ≠ some i := by decide) : RS pn (tFor (iList K te) (gName i) tb) (mForM mo i mb) := by
  intro F H σ env Sl R c env' e D q
  obtain ⟨o, e0, h1, h2⟩ := bnd_of e
  cases o with
  | fz _ => cases h2
  | rg _ _ => cases h2
  | sc _ _ => cases h2
  | kt _ _ => cases h2
  | ow _ => cases h2
  | ow2 rows =>
    refine h F H σ env Sl R _ _ h1 _ fun v F1 H1 Sl1 T s1 R1 n1 => ?_
    obtain ⟨a, rs, rfl, ta, ha, nar, nd, rr⟩ := n1.own
    refine ⟨a, rfl, ⟨_, SqL.of ha⟩, ?_⟩
    have sd : Sd F1 H1 Sl1 a (rs.map V.ref) := ⟨(n1.tr a ta).1, ha, fun j z => n1.dj j a ta z⟩
    have rw1 : Rows F1 H1 Sl1 rows rs := rr.mono fun row r ⟨tr, ws, hr, ra⟩ => ⟨ws, ⟨(n1.tr r tr).1, hr, fun j z => n1.dj j r tr z⟩, ra⟩
    have nw : ∀ r ∈ rs, H r = none := fun r hr => by
      obtain ⟨k, hk⟩ := List.mem_iff_getElem?.mp hr
      obtain ⟨row, _, tr, _⟩ := rr.getR hk
      exact n1.nw r tr
    have hlen := rr.len
    refine ⟨fun k m σi Hi => ∃ Fi Sli envi, k ≤ rows.length ∧ m = rows.length - k ∧ REnv Fi Hi σi envi Sli ∧ Step F H Sl Fi Hi Sli ∧ (∀ j, pn = some j → σi[j]? = σ[j]?) ∧ Sd Fi Hi Sli a (rs.map V.ref) ∧ Rows Fi Hi Sli (rows.drop k) (rs.drop k) ∧ mForMGo i mb (rows.drop k) envi = some (c, env'), ⟨rows.length, F1, Sl1, e0, Nat.zero_le _, by omega, R1, s1, fun _ _ => rfl, sd, rw1, h2⟩, ?_⟩
    rintro k m σi Hi ⟨Fi, Sli, envi, hk, hm, Ri, si, pi, sdi, rwi, go⟩
    have hs : SqL K Hi a (rs.map V.ref) := SqL.of sdi.h
    cases hx : rows[k]? with
    | none =>
      have hge : rows.length ≤ k := List.getElem?_eq_none_iff.mp hx
      rw [List.drop_eq_nil_of_le hge] at go
      have go' : some (Ctl.nx, envi) = some (c, env') := go
      cases go'
      exact .inl ⟨⟨_, hs, by rw [List.length_map, ← hlen]; exact hge⟩, q Fi Hi σi Sli si Ri pi⟩
    | some row =>
      have hlt : k < rows.length := (List.getElem?_eq_some_iff.mp hx).1
      have hltr : k < rs.length := by omega
      have hd : rows.drop k = row :: rows.drop (k + 1) := by
        rw [List.drop_eq_getElem_cons hlt]
        have := (List.getElem?_eq_some_iff.mp hx).2
        rw [this]
      have hdr : rs.drop k = rs[k] :: rs.drop (k + 1) := List.drop_eq_getElem_cons hltr
      rw [hd] at go
      unfold mForMGo at go
      rw [hd, hdr] at rwi
      cases rwi with
      | cons r0 rt =>
        obtain ⟨ws, sdr, rar⟩ := r0
        have gx : (rs.map V.ref)[k]? = some (.ref rs[k]) := by rw [List.getElem?_map, List.getElem?_eq_getElem hltr]; rfl
        refine .inr ⟨⟨_, _, hs, gx⟩, fun σ' H' => ∃ Fj Slj envj, k + 1 ≤ rows.length ∧ REnv Fj H' σ' envj Slj ∧ Step F H Sl Fj H' Slj ∧ (∀ j, pn = some j → σ'[j]? = σ[j]?) ∧ Sd Fj H' Slj a (rs.map V.ref) ∧ Rows Fj H' Slj (rows.drop (k + 1)) (rs.drop (k + 1)) ∧ mForMGo i mb (rows.drop (k + 1)) envj = some (c, env'),
          fun σ' H' ⟨Fj, Slj, envj, z1, z2⟩ => ⟨rows.length - (k + 1), by omega, Fj, Slj, envj, z1, rfl, z2⟩, fun x H' hy => ?_⟩
        obtain ⟨rfl, f⟩ := hy
        have ex : x = .ref rs[k] := Option.some.inj ((f _ hs).symm.trans gx)
        subst ex
        have R2 := Ri.put (i := i) (o := .ow row) (v := .ref rs[k]) (T := fun b => b = rs[k]) ⟨rs[k], ws, rfl, rfl, sdr.h, rar⟩ (fun j b z y => absurd (z ▸ y) (sdr.s j)) fun b z => by rw [z]; exact ⟨sdr.f, _, sdr.h⟩
        have hnr : H rs[k] = none := nw _ (List.getElem_mem hltr)
        have s2 : Step F H Sl Fi H' (fun j b => (j ≠ i ∧ Sli j b) ∨ (j = i ∧ b = rs[k])) :=
          ⟨si.exF, si.fr, si.tk, fun j b z => z.elim (fun y => si.own j b y.2) fun y => .inr (by rw [y.2]; exact hnr), si.fz⟩
        have p2 : ∀ j, pn = some j → (σi.set i (some (V.ref rs[k])))[j]? = σ[j]? := fun j z => (pin_set j (by simp; intro y; exact hp (z.trans (by rw [y])))).trans (pi j z)
        have nk : rs[k] ∉ rs.drop (k + 1) := fun z => by
          have := nd.sublist (List.drop_sublist k rs)
          rw [hdr] at this
          exact (List.nodup_cons.mp this).1 z
        have nka : rs[k] ≠ a := fun z => nar (by rw [← z]; exact List.getElem_mem hltr)
        have sd2 : Sd Fi H' (fun j b => (j ≠ i ∧ Sli j b) ∨ (j = i ∧ b = rs[k])) a (rs.map V.ref) := ⟨sdi.f, sdi.h, fun j z => z.elim (fun y => sdi.s j y.2) fun y => nka y.2.symm⟩
        have rt2 : Rows Fi H' (fun j b => (j ≠ i ∧ Sli j b) ∨ (j = i ∧ b = rs[k])) (rows.drop (k + 1)) (rs.drop (k + 1)) :=
          rt.monoM fun row' r' _ hr ⟨ws', z1, z2⟩ => ⟨ws', ⟨z1.f, z1.h, fun j z => z.elim (fun y => z1.s j y.2) fun y => nk (by rw [← y.2]; exact hr)⟩, z2⟩
        have q2 := q.step s2 p2
        cases hb1 : mb (envi.set i (some (.ow row))) with
        | none => simp only [hb1] at go; cases go
        | some ce =>
          obtain ⟨c1, e2⟩ := ce
          simp only [hb1] at go
          refine hb Fi H' _ _ _ R2 c1 e2 hb1 _ ?_
          cases c1 with
          | nx => exact fun F' H'' σ' Sl' s' R' p' => ⟨F', Sl', e2, hlt, R', s2.trans s', fun j z => (p' j z).trans (p2 j z), sd2.step s', rt2.step s', go⟩
          | ct => exact fun F' H'' σ' Sl' s' R' p' => ⟨F', Sl', e2, hlt, R', s2.trans s', fun j z => (p' j z).trans (p2 j z), sd2.step s', rt2.step s', go⟩
          | bk => cases go; exact q2
          | rt o => cases go; exact q2
/-! a cut of the script -/
open Classical in
noncomputable def mSlS (K : PySem.W.Frag) (i : Nat) (ml mh : MP) : ML := fun env => match env[i]? with
  | some (some (.sc _ _)) => (bnd ml fun lo e2 => bnd mh (fun hi e3 => match e3[i]? with
    | some (some (.sc K' ns)) => if K' = K then some (cutD (ns.map .int) lo hi, e3) else none
    | _ => none) e2) env
  | _ => none
theorem all_ints {F : Hp} : ∀ ns : List Int, All2 (Rp F) (ns.map .int) (ns.map V.int)
  | [] => .nil
  | n :: ns => .cons rfl (all_ints ns)
theorem cut_all {R : PyData → V → Prop} {ds : List PyData} {vs : List V} (r : All2 R ds vs) (lo hi : Option Int) : All2 R (cutD ds lo hi) (cutV vs lo hi) := by
  unfold cutD cutV
  rw [r.len]
  exact (r.drop _).take _
theorem rl_slS {K : PySem.W.Frag} {pv pw : Bool} {i : Nat} {tl th : TO} {ml mh : MP} (hl : RQ pv tl ml) (hh : RQ pw th mh) : RL false (tSl (rSlL K) (tVar i) tl th) (mSlS K i ml mh) := by
  intro F H σ env Sl R ds env' e Q q
  unfold mSlS at e
  split at e
  · rename_i K0 ns0 h0
    obtain ⟨v, hv, _⟩ := R.at_ i _ h0
    obtain ⟨lo, e2, h3, h4⟩ := bnd_of e
    obtain ⟨hi, e3, h5, h6⟩ := bnd_of h4
    split at h6
    · rename_i K' ns h7
      split at h6
      · rename_i hK
        subst hK
        cases h6
        refine ⟨v, hv, ?_⟩
        refine hl F H σ env Sl R lo _ h3 _ fun r' F2 H2 Sl2 s2 pu2 R2 r2 => ?_
        cases r2
        refine hh F2 H2 σ e2 Sl2 R2 hi _ h5 _ fun r'' F3 H3 Sl3 s3 pu3 R3 r3 => ?_
        cases r3
        obtain ⟨v', hv', a, rfl, hs⟩ := R3.at_ i _ h7
        rw [hv] at hv'
        cases hv'
        exact ⟨a, _, rfl, ex_sq R3.ex hs, fun b nb => q b _ F3 H3 Sl3 (s2.trans s3) (fun z => nomatch z) R3 (cut_all (all_ints ns) lo hi) nb⟩
      · cases h6
    · cases h6
  · cases e
/-! lists of lists that a name alone holds: read and written by two places -/
def mIx2 (j : Nat) (ma mb : ME) : ME := fun env => match env[j]? with
  | some (some (.ow2 _)) => (bnd ma fun p e => match p, e[j]? with
    | .val (.int a), some (some (.ow2 rows)) => match atI rows a with
      | some row => bnd mb (fun q e2 => match q with
        | .val (.int b) => (atI row b).map fun d => (.val d, e2)
        | _ => none) e
      | none => none
    | _, _ => none) env
  | _ => none
theorem re_ix2 {K : PySem.W.Frag} {pu : Bool} {j : Nat} {ta tb : TE} {ma mb : ME} (ha : RE pu ta ma) (hb : RE true tb mb) : RE false (tOp (rIx K) (tOp (rIx K) (tVar j) ta) tb) (mIx2 j ma mb) := by
  intro F H σ env Sl R p env' e Q q
  unfold mIx2 at e
  split at e
  · rename_i rows0 h0
    obtain ⟨v, hv, _⟩ := R.at_ j _ h0
    obtain ⟨p1, e1, h1, h2⟩ := bnd_of e
    split at h2
    · rename_i a rows h3
      split at h2
      · rename_i row h4
        obtain ⟨p2, e2, h5, h6⟩ := bnd_of h2
        split at h6
        · rename_i b
          cases h7 : atI row b with
          | none => rw [h7] at h6; cases h6
          | some d =>
            rw [h7] at h6
            cases h6
            refine ⟨v, hv, ?_⟩
            refine ha F H σ env Sl R _ _ h1 _ fun x F1 H1 Sl1 s1 pu1 R1 r1 => ?_
            obtain ⟨v', hv', ad, rs, rfl, _, hA, _, _, rr⟩ := R1.at_ j _ h3
            rw [hv] at hv'
            cases hv'
            obtain ⟨r, hr, sr, ws, hw, rw⟩ := atI_all rr h4
            have hr' : atI (rs.map V.ref) a = some (.ref r) := by
              unfold atI at hr ⊢
              rw [List.length_map]
              cases z : ixN rs.length a with
              | none => rw [z] at hr; cases hr
              | some k =>
                rw [z] at hr
                show (rs.map V.ref)[k]? = _
                rw [List.getElem?_map, show rs[k]? = some r from hr]
                rfl
            refine .inl ⟨ad, _, a, .ref r, rfl, pint r1, SqL.of hA, hr', ?_⟩
            refine hb F1 H1 σ e1 Sl1 R1 _ _ h5 _ fun y F2 H2 Sl2 s2 pu2 R2 r2 => ?_
            obtain ⟨_, exh, _⟩ := pu2 rfl
            obtain ⟨v2, hv2, rv2⟩ := atI_all rw h7
            exact .inl ⟨r, ws, b, v2, rfl, pint r2, SqL.of (exh _ _ hw), hv2, q _ F2 H2 Sl2 (s1.trans s2) (fun z => nomatch z) R2 (Rp.mono s2.exF rv2)⟩
        · cases h6
      · cases h2
    · cases h2
  · cases e
end Tr
namespace Tr
open PySem PySem.Spec PyProof.Rows L2

abbrev gMul : En → P → P → Option P := gI (fun i j => decide (i.natAbs.log2 + j.natAbs.log2 < 1000000)) fun i j => .int (i * j)
abbrev gFdiv : En → P → P → Option P := gI (fun _ j => decide (j ≠ 0 ∧ j.natAbs < 1073741824)) fun i j => .int (i.fdiv j)
abbrev gMod : En → P → P → Option P := gI (fun _ j => decide (j ≠ 0)) fun i j => .int (i.fmod j)
abbrev gPow : En → P → P → Option P := gI (fun i j => decide (0 ≤ j ∧ (Builtin.Int.intBits i : Int) * j ≤ 2 ^ 27)) fun i j => .int (i ^ j.toNat)
/-! list(range(..)), list(xs) -/
theorem rgV_all {F : Hp} {a b : Int} : All2 (Rp F) (rgD a (b - a).toNat) (rgV a b) := by
  unfold rgD rgV
  generalize List.range (b - a).toNat = l
  induction l with
  | nil => exact .nil
  | cons x t ih => exact .cons rfl ih
def okRg (a b : Int) : Bool := decide (-(2 ^ 62) ≤ a ∧ a < 2 ^ 62 ∧ -(2 ^ 62) ≤ b ∧ b < 2 ^ 62 ∧ (b - a).toNat ≤ 2 ^ 24)
theorem okRg_of {a b : Int} (h : okRg a b = true) : RgOk a b := show -(2 ^ 62) ≤ a ∧ a < 2 ^ 62 ∧ -(2 ^ 62) ≤ b ∧ b < 2 ^ 62 ∧ (b - a).toNat ≤ 2 ^ 24 from of_decide_eq_true h
def mLRg1 (ma : ME) : ML := bnd ma fun p e => match p with
  | .val (.int n) => if okRg 0 n then some (rgD 0 n.toNat, e) else none
  | _ => none
theorem rl_rg1 {pu : Bool} {ta : TE} {ma : ME} (h : RE pu ta ma) : RL pu (tLstRg (tRg1 ta)) (mLRg1 ma) := by
  intro F H σ env Sl R ds env' e Q q
  obtain ⟨p, e1, h1, h2⟩ := bnd_of e
  split at h2
  · rename_i n
    split at h2
    · rename_i ok
      cases h2
      refine h F H σ env Sl R _ _ h1 _ fun r F1 H1 Sl1 s1 pu1 R1 r1 => ?_
      refine ⟨n, pint r1, okRg_of ok, fun b nb => q b _ F1 H1 Sl1 s1 pu1 R1 ?_ nb⟩
      have := rgV_all (F := F1) (a := 0) (b := n)
      rw [Int.sub_zero] at this
      exact this
    · cases h2
  · cases h2
def mLRg2 (ma mb : ME) : ML := bnd ma fun p e => bnd mb (fun q e2 => match p, q with
  | .val (.int i), .val (.int j) => if okRg i j then some (rgD i (j - i).toNat, e2) else none
  | _, _ => none) e
theorem rl_rg2 {pu pv : Bool} {ta tb : TE} {ma mb : ME} (h : RE pu ta ma) (h' : RE pv tb mb) : RL (pu && pv) (tLstRg (tRg2 ta tb)) (mLRg2 ma mb) := by
  intro F H σ env Sl R ds env' e Q q
  obtain ⟨p, e1, h1, h2⟩ := bnd_of e
  obtain ⟨p2, e2, h3, h4⟩ := bnd_of h2
  split at h4
  · rename_i i j
    split at h4
    · rename_i ok
      cases h4
      refine h F H σ env Sl R _ _ h1 _ fun r F1 H1 Sl1 s1 pu1 R1 r1 => ?_
      refine h' F1 H1 σ e1 Sl1 R1 _ _ h3 _ fun r' F2 H2 Sl2 s2 pu2 R2 r2 => ?_
      exact ⟨i, j, pint (r1.mono s2.exF), pint r2, okRg_of ok, fun b nb => q b _ F2 H2 Sl2 (s1.trans s2) (pu_step (F := F) (F1 := F1) (F2 := F2) pu1 pu2) R2 rgV_all nb⟩
    · cases h4
  · cases h4
/-- a built-in that makes a list -/
def mFnL (g : En → List P → Option (List PyData)) (ma : MA) : ML := bnd ma fun p e => (g e p).map fun r => (r, e)
def FnL (k : List V → Hp → VK → Prop) (g : En → List P → Option (List PyData)) : Prop := ∀ F H σ env Sl xs ps ds, REnv F H σ env Sl → relA F σ xs ps → g env ps = some ds → ∀ Q : VK,
  (∀ p vs, All2 (Rp F) ds vs → H p = none → Q (.ref p) (upd H p (.lst vs))) → k xs H Q
theorem rl_fn {pu : Bool} {k : List V → Hp → VK → Prop} {g : En → List P → Option (List PyData)} {ta : TA} {ma : MA} (ha : RA pu ta ma) (hk : FnL k g) : RL pu (tCB k ta) (mFnL g ma) := by
  intro F H σ env Sl R ds env' e Q q
  obtain ⟨ps, e1, h1, h2⟩ := bnd_of e
  cases h3 : g e1 ps with
  | none => rw [h3] at h2; cases h2
  | some ds' =>
    rw [h3] at h2
    cases h2
    refine ha F H σ env Sl R ps _ h1 _ fun r F1 H1 Sl1 s1 pu1 R1 r1 => ?_
    exact hk F1 H1 σ _ Sl1 r ps ds R1 r1 h3 Q fun p vs rr np => q p vs F1 H1 Sl1 s1 pu1 R1 rr np
def gListOf : En → List P → Option (List PyData) := fun env ps => match ps with
  | [p] => sqT env p
  | _ => none
theorem l_list {K : PySem.W.Frag} : FnL (fun xs H Q => ∃ p ys, xs = [.ref p] ∧ (SqL K H p ys ∨ SqT K H p ys) ∧ ∀ l, H l = none → Q (.ref l) (upd H l (.lst ys))) gListOf := by
  intro F H σ env Sl xs ps ds R h e Q q
  unfold gListOf at e
  split at e
  · rename_i p1
    cases h with
    | cons a t =>
      cases t
      unfold sqT at e
      split at e
      · cases e
        obtain ⟨b, vs, rfl, hH, r⟩ := rp_tuple.mp (pr_val a)
        exact ⟨b, vs, rfl, .inr (SqT.of (R.ex _ _ hH)), fun l nl => q l vs r nl⟩
      · obtain ⟨b, vs, rfl, hH, r⟩ := sq_of R a e
        exact ⟨b, vs, rfl, .inl (SqL.of hH), fun l nl => q l vs r nl⟩
  · cases e
end Tr
namespace Tr
open PySem PySem.Spec PyProof.Rows L2
/-! the rules that speak of the written part, by its name -/
section
variable {X : Cx} {K : PySem.W.Frag}
theorem ixK (h : X.K = K := by rfl) : IxR X (rIx K) := by subst h; exact ix_seq
theorem slK (h : X.K = K := by rfl) : SlR X (rSlL K) := by subst h; exact sl_list
theorem inK (h : X.K = K := by rfl) : OpR X (compareOp .In) (rIn K false) := by subst h; exact op_in_seq
theorem notInK (h : X.K = K := by rfl) : OpR X (compareOp .NotIn) (rIn K true) := by subst h; exact op_notIn_seq
theorem eqK (hu : X.A.units + 64 < cLine) (h : X.K = K := by rfl) : OpR X (compareOp .Eq) (rEqD K) := by subst h; exact op_eqD hu
theorem neK (hu : X.A.units + 64 < cLine) (h : X.K = K := by rfl) : OpR X (compareOp .NotEq) (rNeD K) := by subst h; exact op_neD hu
theorem lenK (h : X.K = K := by rfl) : CallR X (.builtin "len") (fun xs H Q => ∃ p ys, xs = [.ref p] ∧ (SqL K H p ys ∨ SqT K H p ys) ∧ Q (.int ys.length) H) := by subst h; exact call_len_seq
theorem listK (h : X.K = K := by rfl) : CallR X (.type "list") (fun xs H Q => ∃ p ys, xs = [.ref p] ∧ (SqL K H p ys ∨ SqT K H p ys) ∧ ∀ l, H l = none → Q (.ref l) (upd H l (.lst ys))) := by subst h; exact call_list_of
theorem isiK (h : X.K = K := by rfl) : CallR X (.builtin "isinstance") (rIsi K) := by subst h; exact call_isi
theorem allK (hc : X.calm = true) (h : X.K = K := by rfl) : CallR X (.builtin "all") (rAll K) := by subst h; exact cr_all hc
theorem minK (hc : X.calm = true) (h : X.K = K := by rfl) : CallR X (.builtin "min") (rMin K) := by subst h; exact cr_min hc
theorem maxK (hc : X.calm = true) (h : X.K = K := by rfl) : CallR X (.builtin "max") (rMax K) := by subst h; exact cr_max hc
theorem sumK (hc : X.calm = true) (h : X.K = K := by rfl) : CallR X (.builtin "sum") (rSum K) := by subst h; exact cr_sum hc
variable {tg l e : Expr} {tl : TE} {ta : TA} {p pos tpos : Pos} {elts : List Expr} {kk : Nat}
theorem pi_listK (hl : PE X l tl) (h : X.K = K := by rfl) : PI X tg l (iList K tl) := by subst h; exact pi_list hl
theorem pi_tupK (hl : PE X l tl) (h : X.K = K := by rfl) : PI X tg l (iTup K tl) := by subst h; exact pi_tup hl
theorem pi_enumK (hg : Gl X "enumerate") (hm : X.mg "enumerate" = none) (ha : PA X [e] ta) (hs : starEach [e] X.env = [(false, eval e X.env)] := by rfl) (h : X.K = K := by rfl) : PI X (.Tuple elts kk tpos) (.Call (.Name "enumerate" p) [e] [] pos) (iEnum K ta) := by
  subst h; exact pi_enum hg hm ha hs
variable {k n : Nat} {t : TGs} {es : List Expr}
theorem pg_tupK (hc : X.calm = true) (h : PGs X es t) (hn : (assignEach es X.env).length = n := by rfl) (hst : (assignEach es X.env).findIdx? (·.1) = none := by rfl) (hK : X.K = K := by rfl) : PG X (.Tuple es k pos) (gTup K n t) := by
  subst hK; exact pg_tup hc h hn hst
variable {o : Expr} {es : List Expr} {to : TE} {t : TA} {name : Str} {apos cpos : Pos} {T id : String} {r : V → List V → Hp → VK → Prop}
theorem bmK {e : Expr} (h : PE X e (tBM X.K T r to t)) (hK : X.K = K := by rfl) : PE X e (tBM K T r to t) := by subst hK; exact h
theorem bm0K {e : Expr} (h : PE X e (tBM0 X.K T r to)) (hK : X.K = K := by rfl) : PE X e (tBM0 K T r to) := by subst hK; exact h
end
end Tr
namespace Tr
open PySem PySem.Spec PyProof.Rows L2
/-! ### range objects kept in a name -/
section
variable {X : Cx}
theorem rg1_call : CallR X (.type "range") (fun vs H Q => ∃ j, vs = [V.int j] ∧ ∀ p, H p = none → Q (.ref p) (upd H p (.rng 0 j))) := by
  intro pins s σ H vs us Q I r h
  obtain ⟨j, rfl, q⟩ := h
  cases r with
  | cons a t =>
    cases t
    obtain ⟨t, rfl⟩ := a
    refine call_range_1 ⟨.ref s.heap.objs.size, _, I.laid (o := .rng 0 j) (t' := s.toks + 1 + 1) (fun b o e => Heap.get?_push_of_some _ e) (Nat.le_refl _) ?_, rfl, q _ (I.hok.fresh (Nat.le_refl _))⟩
    exact ⟨s.toks, t, s.toks + 1, Heap.get?_push_size _ rfl⟩
/-- a name that holds a range is walked -/
def iRgv (i : Nat) : TI := fun σ H R => ∃ a lo hi, σ[i]? = some (some (.ref a)) ∧ H a = some (.rng lo hi) ∧ (-(2 ^ 62) ≤ lo ∧ lo < 2 ^ 62 ∧ -(2 ^ 62) ≤ hi ∧ hi < 2 ^ 62) ∧ R (Itr lo (hi - lo).toNat) H
theorem pi_rgv {tg : Expr} (i : Nat) {x : Str} {pos : Pos} (hN : X.N[i]? = some x := by rfl) (hv : Vis X.env.scope x := by first | exact Or.inl rfl | exact Or.inr (Or.inl rfl) | exact Or.inr (Or.inr rfl)) (hd : (x == ("__debug__" : Str)) = false := by decide)
    (hcd : (x == ("__classdict__" : Str)) = false := by decide) : PI X tg (.Name x pos) (iRgv i) := by
  refine ⟨fun pins s σ H R I h => ?_⟩
  obtain ⟨a, lo, hi, hs, hH, hb, q⟩ := h
  refine thn ((pe_var hN hv hd hcd).run pins s σ H (fun v H' => v = .ref a ∧ H' = H) I ⟨_, hs, rfl, rfl⟩) fun v s1 ⟨x1, H1, I1, r1, e1, e2⟩ => ?_
  subst e2
  subst e1
  cases r1
  obtain ⟨t, u, w, ho⟩ := I1.hok a _ hH
  refine wpAny_pyIter_range ho (small_one hb.1 hb.2.1 hb.2.2.1 hb.2.2.2) ?_
  refine ⟨s1.heap.objs.size, [s1.heap.objs.size], _, _, H1, rfl, I1.kept (t' := s1.toks) fun b o e => Heap.get?_push_of_some _ e, turn_range _ lo (hi - lo).toNat, ?_, fun b hb => ?_, q⟩
  · have e1 : lo + ((0 : Nat) : Int) * 1 = lo := by simp
    have e2 : (((hi - lo).toNat : Nat) : Int) - ((0 : Nat) : Int) = Builtin.Range.rangeSize lo hi 1 := by rw [rangeSize_one]; split <;> omega
    show IsRangeIter _ _ (lo + ((0 : Nat) : Int) * 1) ((((hi - lo).toNat : Nat) : Int) - ((0 : Nat) : Int)) 1
    rw [e1, e2]
    exact Heap.get?_push_size _ rfl
  · have e : b = s1.heap.objs.size := by simpa using hb
    subst e
    exact I1.fpOk (Nat.le_refl _) (I1.hok.fresh (Nat.le_refl _))
end
def mRg1 (ma : MA) : MO := bnd ma fun ps e => match ps with
  | [.val (.int j)] => some (.rg 0 j, e)
  | _ => none
theorem ro_rg1 {pu : Bool} {ta : TA} {ma : MA} (h : RA pu ta ma) : RO (tCB (fun vs H Q => ∃ j, vs = [V.int j] ∧ ∀ p, H p = none → Q (.ref p) (upd H p (.rng 0 j))) ta) (mRg1 ma) := by
  intro F H σ env Sl R o env' e Q q
  obtain ⟨ps, e1, h1, h2⟩ := bnd_of e
  split at h2
  · rename_i j
    cases h2
    refine h F H σ env Sl R _ _ h1 _ fun r F1 H1 Sl1 s1 pu1 R1 r1 => ?_
    cases r1 with
    | cons x t =>
      cases t
      refine ⟨j, by rw [pint x], fun p np => ?_⟩
      have fp := R1.ex.none np
      have n : ∀ b u, upd F1 p (.rng 0 j) b = some u → F1 b = some u ∨ H1 b = none := fun b u z => by
        by_cases hb : b = p
        · subst hb; exact .inr np
        · rw [upd_ne hb] at z; exact .inl z
      have ex : Ex (upd F1 p (.rng 0 j)) (upd H1 p (.rng 0 j)) := fun b u z => by
        by_cases hb : b = p
        · subst hb; rw [upd_same] at z ⊢; exact z
        · rw [upd_ne hb] at z ⊢; exact R1.ex b u z
      exact q _ _ _ Sl1 (fun _ => False) (s1.trans (Step.grow (Ex.new fp) (Ex.new np) n)) (R1.grow (Ex.new fp) (Ex.new np) ex n) ⟨⟨p, rfl, upd_same⟩, fun _ _ z => z.elim, fun _ z => z.elim, fun _ z => z.elim⟩
  · cases h2
def mRgv (i : Nat) : ML := fun env => match env[i]? with
  | some (some (.rg lo hi)) => if -(2 ^ 62) ≤ lo ∧ lo < 2 ^ 62 ∧ -(2 ^ 62) ≤ hi ∧ hi < 2 ^ 62 then some (rgD lo (hi - lo).toNat, env) else none
  | _ => none
theorem ri_rgv {i : Nat} : RI (iRgv i) (mRgv i) := by
  intro F H σ env Sl R ds env' e Q q
  unfold mRgv at e
  split at e
  · rename_i lo hi h0
    split at e
    · rename_i hb
      cases e
      obtain ⟨v, hv, a, rfl, ha⟩ := R.at_ i _ h0
      exact ⟨a, lo, hi, hv, R.ex _ _ ha, hb, q _ F H Sl Step.refl R it_r⟩
    · cases e
  · cases e
end Tr
namespace Tr
open PySem PySem.Spec PyProof.Rows L2
/-! ### defs that are called where no repr is under way -/
structure FnG (P : Program) (w : World) (K : PySem.W.Frag) (mg : Str → Option Value) (base : Heap) (k : Nat) (f : Addr) (fd : FuncData) (ps : List Str) (sp : Sp) : Prop where
  len : ∀ vs H Q E, sp vs H Q E → vs.length = ps.length
  go : ∀ (A : Around) (ou : List Env) (s : Shared) (H : Hp) (ar : Args) (us : List Value) (vs : List V) (Q : VK) (E : XK), Room k A → A.guards = some [] → Env0 P w K mg base A ou s H → BindsTo s fd ar (ps.zip us) → Vals vs us → sp vs H Q E →
    codeAny (model P w) A (.call (.ref f) ar) (CR CX0 ou P w H s Q E) s
section
variable {P : Program} {w : World} {K : PySem.W.Frag} {mg : Str → Option Value} {base : Heap}
theorem FnG.mono {j k : Nat} {f : Addr} {fd : FuncData} {ps : List Str} {sp : Sp} (F : FnG P w K mg base j f fd ps sp) (h : j ≤ k) : FnG P w K mg base k f fd ps sp :=
  ⟨F.len, fun A ou s H ar us vs Q E r => F.go A ou s H ar us vs Q E (r.mono h)⟩
theorem FnG.of {k : Nat} {f : Addr} {fd : FuncData} {ps : List Str} {sp : Sp} (F : FnOk P w K mg base CX0 k f fd ps sp) : FnG P w K mg base k f fd ps sp :=
  ⟨F.len, fun A ou s H ar us vs Q E r _ => F.run A ou s H ar us vs Q E r⟩
/-- a def by its body -/
theorem okG {x qual : Str} {st : Stmt} {f : Addr} {fd : FuncData} {N ps : List Str} {k : Nat} {sp : Sp} (F : Fun K x qual st f fd) (S : FnScope N ps (defScope st)) (len : ∀ vs H Q E, sp vs H Q E → vs.length = ps.length)
    (body : ∀ (cdv : Value) (A : Around) (ou : List Env) (s : Shared) (H : Hp) (vs : List V) (Q : VK) (E : XK), Room k (A.deeper (envOfC qual (defScope st) s.heap.objs.size f cdv)) → A.guards = some [] → sp vs H Q E →
      ∃ t, PSs (cxOf CX0 P w K mg base N qual (defScope st) f cdv A ou s H E).nox (defBody st) t ∧ t { nx := fun _ H' => Q .non H', rt := Q } (L2.start N vs) H) : FnG P w K mg base (k + 1) f fd ps sp := by
  obtain ⟨oc, od, kV, doc, pm, an, cdv, ct, osl, rfl, lk, hcd⟩ := F.ex
  constructor
  · exact len
  intro A ou s H ar us vs Q E room gu e0 bi rv want
  have hl := len vs H Q E want
  have here : ∀ b o, base.get? b = some o → s.heap.get? b = some o := fun b o z => (e0.bs b o z).1
  have inK : K.In s.heap := e0.mod.kin.keeps here
  have nol : s.heap.NoLimit := e0.mod.nolimit.keeps here
  have kinds : ∀ y ∈ ps.zip us, (defScope st).names.lookup y.1 = some .local ∨ ((defScope st).names.lookup y.1 = some .cell ∧ ((cellsFrom (s.heap.objs.size + 1) (defScope st).names []).lookup y.1).isSome = true) := by
    rintro ⟨nm, u⟩ hy
    cases S.par nm (List.of_mem_zip hy).1 with
    | inl z => exact .inl z
    | inr z => exact .inr ⟨z, PySem.W.cellsFrom_some _ _ _ (.inl z)⟩
  apply codeAny_call_function room.depth (inK _ _ lk) rfl S.co S.gen rfl (PySem.W.codeRec_of inK hcd)
  refine bi _ _ _ _ (wpAny_newFunctionEnv_cells S.kind kinds ?_)
  intro env eenv s1 made
  subst eenv
  refine ⟨nol.keeps made.toInCall.keep, ?_⟩
  apply codeAny_func
  obtain ⟨t, pt, qt⟩ := body cdv A ou s H vs Q E (room.deeper _) gu want
  have inv0 : Inv (cxOf CX0 P w K mg base N qual (defScope st) f cdv A ou s H E) [] (L2.start N vs) H s1 := inv_start S room.hd e0 hl rv made
  have done : ∀ {σ1 : L2.St} {H1 : Hp} {v : V} {u : Value} {s2 : Shared}, Inv (cxOf CX0 P w K mg base N qual (defScope st) f cdv A ou s H E) [] σ1 H1 s2 → RelV v u → Q v H1 → CE ou P w H s Q u s2 := by
    intro σ1 H1 v u s2 J r q
    exact ⟨v, H1, J.os, J.bare, J.base, J.hok, r, q⟩
  refine wpAny_mono (PSs.run (PSs.nox pt) [] s1 (L2.start N vs) H _ inv0 qt) ?_ fun e s2 z => z
  intro fl s2 z
  match fl, z with
  | .ret u, ⟨v, σ1, H1, J, r, q⟩ => exact done J r q
  | .next, ⟨σ1, H1, J, q⟩ => exact done (v := V.non) (u := Value.none) J rfl q
  | .brk, ⟨_, _, _, q⟩ => exact False.elim q
  | .cont, ⟨_, _, _, q⟩ => exact False.elim q
end
section
variable {X : Cx} {k n : Nat} {f : Addr} {fd : FuncData} {ps ks : List Str} {sp : Sp} {x : Str} {p pos : Pos} {e : Expr} {es : List Expr} {t tk : TA} {ds : List Value} {dvs : List V} {kws : List Keyword} {g : List Value → List Value → List Value} {gV : List V → List V → List V}
/-- behind the call: nothing but a value comes back -/
theorem backG {pins : List (Addr × Obj)} {σ : L2.St} {H : Hp} {s : Shared} {Q : VK} {u : List Value} {v : List V} {ar : Args} (F : FnG X.prog X.w X.K X.mg X.base k f fd ps sp) (room : Room k X.A) (gu : X.A.guards = some []) (I : Inv X pins σ H s)
    (bi : BindsTo s fd ar (ps.zip u)) (rv : Vals v u) (want : sp v H Q E0) : codeAny (model X.prog X.w) X.A (.call (.ref f) ar) (fun r s' => match r with | .ok (.ret u) => EP X pins σ Q u s' | .ok _ => False | .error _ => False) s := by
  refine codeAny_mono (F.go X.A X.stack s H ar u v Q E0 room gu I.env0 bi rv want) ?_
  intro r s' z
  match r, z with
  | .ok (.ret _), z => exact I.after z
  | .ok .next, z => exact z
  | .ok .brk, z => exact z
  | .ok .cont, z => exact z
  | .error _, z => exact z
theorem pe_callG (F : FnG X.prog X.w X.K X.mg X.base k f fd ps sp) (room : Room k X.A) (gu : X.A.guards = some []) (hg : Gl X x) (hm : X.mg x = some (.ref f)) (hk : PySem.W.keepIn X.K (.ref f) = true) (hb : Binds X.K fd ps ds) (hd : Vals dvs ds)
    (ha : PA X (e :: es) t) (nd : (x == ("__debug__" : Str)) = false := by decide) (st : starEach (e :: es) X.env = (false, eval e X.env) :: starEach es X.env := by rfl) (pl : (backTo pos (starEach es X.env)).any (·.1) = false := by rfl) :
    PE X (.Call (.Name x p) (e :: es) [] pos) (tCall sp dvs E0 t) := by
  constructor
  intro pins s σ H Q I h
  apply wpAny_Call_Name_kw
  refine ld_glob I hg hm ?_ nd
  refine PySem.W.callWith_K (h₀ := X.base) I.ok.mod.kin hk (thn (ha.run pos pins s σ H _ I h) ?_) st pl
  rintro us s1 ⟨vs, H1, I1, rv, q⟩
  have rv2 := Vals.append rv hd
  have len2 : (us ++ ds).length = ps.length := rv2.length.symm.trans (F.len _ _ _ _ q)
  refine ⟨I1.kIn, wpAny_call (codeAny_mono (backG F room gu I1 (hb s1 us I1.kIn len2) rv2 q) ?_)⟩
  intro r s' z
  match r, z with
  | .ok (.ret _), z => exact z
  | .ok .next, z => exact z.elim
  | .ok .brk, z => exact z.elim
  | .ok .cont, z => exact z.elim
  | .error _, z => exact z.elim
/-- f(k = v, ..); f(e, .., k = v, ..) -/
theorem pe_callGK0 (F : FnG X.prog X.w X.K X.mg X.base k f fd ps sp) (room : Room k X.A) (gu : X.A.guards = some []) (hg : Gl X x) (hm : X.mg x = some (.ref f)) (hk : PySem.W.keepIn X.K (.ref f) = true) (hb : KBn X.K fd ps 0 ks g gV)
    (hkw : PK X kws tk) (al : (backToKw pos (keywordEach kws X.env)).all (·.1.isSome) = true := by rfl) (nm : (backToKw pos (keywordEach kws X.env)).filterMap (·.1) = ks := by rfl) (nd : (x == ("__debug__" : Str)) = false := by decide)
    (pl : ((backTo pos (starEach [] X.env)).any (·.1) || (backToKw pos (keywordEach kws X.env)).any (·.1.isNone)) = false := by rfl) : PE X (.Call (.Name x p) [] kws pos) (tCallN 0 ks.length sp gV E0 tNil tk) := by
  constructor
  intro pins s σ H Q I h
  apply wpAny_Call_Name_kw
  refine ld_glob I hg hm ?_ nd
  refine PySem.W.callWith_KW0 (h₀ := X.base) I.ok.mod.kin hk al ?_ pl
  refine thn (hkw.run pos pins s σ H _ I h) ?_
  rintro ws s1 ⟨zs, H1, I1, rz, l1, l2, q⟩
  rw [nm]
  refine ⟨I1.kIn, wpAny_call (codeAny_mono (backG F room gu I1 (hb.to s1 [] ws I1.kIn rfl (rz.length.symm.trans l2)) (hb.rel .nil rz) q) ?_)⟩
  intro r s' z
  match r, z with
  | .ok (.ret _), z => exact z
  | .ok .next, z => exact z.elim
  | .ok .brk, z => exact z.elim
  | .ok .cont, z => exact z.elim
  | .error _, z => exact z.elim
theorem pe_callGK (F : FnG X.prog X.w X.K X.mg X.base k f fd ps sp) (room : Room k X.A) (gu : X.A.guards = some []) (hg : Gl X x) (hm : X.mg x = some (.ref f)) (hk : PySem.W.keepIn X.K (.ref f) = true) (hb : KBn X.K fd ps n ks g gV)
    (ha : PA X (e :: es) t) (hkw : PK X kws tk) (al : (backToKw pos (keywordEach kws X.env)).all (·.1.isSome) = true := by rfl) (nm : (backToKw pos (keywordEach kws X.env)).filterMap (·.1) = ks := by rfl) (nd : (x == ("__debug__" : Str)) = false := by decide)
    (st : starEach (e :: es) X.env = (false, eval e X.env) :: starEach es X.env := by rfl) (pl : ((backTo pos (starEach (e :: es) X.env)).any (·.1) || (backToKw pos (keywordEach kws X.env)).any (·.1.isNone)) = false := by rfl) :
    PE X (.Call (.Name x p) (e :: es) kws pos) (tCallN n ks.length sp gV E0 t tk) := by
  constructor
  intro pins s σ H Q I h
  apply wpAny_Call_Name_kw
  refine ld_glob I hg hm ?_ nd
  refine PySem.W.callWith_KW (h₀ := X.base) I.ok.mod.kin hk al (thn (ha.run pos pins s σ H _ I h) ?_) pl st
  rintro us s1 ⟨vs, H1, I1, rv, q1⟩
  refine thn (hkw.run pos pins s1 σ H1 _ I1 q1) ?_
  rintro ws s2 ⟨zs, H2, I2, rz, l1, l2, q⟩
  rw [nm]
  refine ⟨I2.kIn, wpAny_call (codeAny_mono (backG F room gu I2 (hb.to s2 us ws I2.kIn (rv.length.symm.trans l1) (rz.length.symm.trans l2)) (hb.rel rv rz) q) ?_)⟩
  intro r s' z
  match r, z with
  | .ok (.ret _), z => exact z
  | .ok .next, z => exact z.elim
  | .ok .brk, z => exact z.elim
  | .ok .cont, z => exact z.elim
  | .error _, z => exact z.elim
/-- no defaults: the values by their places among those given by place, then by name -/
def permV {α : Type} (ix : List Nat) (d : α) (us ws : List α) : List α := ix.map fun i => (us ++ ws).getD i d
theorem perm_vals {ix : List Nat} {us ws : List Value} {vs zs : List V} (r : Vals vs us) (rz : Vals zs ws) : Vals (permV ix .non vs zs) (permV ix .none us ws) := by
  have h := Vals.append r rz
  unfold permV
  induction ix with
  | nil => exact .nil
  | cons i t ih =>
    refine .cons ?_ ih
    show L2.RelV ((vs ++ zs).getD i V.non) ((us ++ ws).getD i Value.none)
    rw [List.getD_eq_getElem?_getD, List.getD_eq_getElem?_getD]
    cases q : (vs ++ zs)[i]? with
    | none => rw [h.none_of q]; rfl
    | some v =>
      obtain ⟨u, e, rr⟩ := h.get q
      rw [e]
      exact rr
theorem kb_of {K : PySem.W.Frag} {x qual : Str} {st : Stmt} (F : Fun K x qual st f fd) (ix : List Nat)
    (h : ∀ (kV doc pm : Value) (an : Option Addr) (cdv ct : Value) (us ws : List Value), us.length = n → ws.length = ks.length → bindArgs (PySem.W.fnOf x qual (defArgs st) (defBody st) (defScope st) .none kV doc pm an cdv ct) ⟨us, ks.zip ws⟩ = pure (ps.zip (permV ix .none us ws))) : KBn K fd ps n ks (permV ix .none) (permV ix .non) := by
  obtain ⟨oc, od, kV, doc, pm, an, cdv, ct, osl, rfl, lk, hcd⟩ := F.ex
  exact ⟨fun s us ws _ l1 l2 => .of_eq (h kV doc pm an cdv ct us ws l1 l2), perm_vals⟩
end
/-! the same over trees -/
theorem call_core {F H : Hp} {σ : L2.St} {e1 e2 : En} {Sl : Nat → Addr → Prop} {vs : List V} {ps : List P} {os os' : List O} {mf : MF} {r : O} {E : XK} (R1 : REnv F H σ e1 Sl) (r1 : relA F σ vs ps) (h3 : prepA none ps e1 = some (os, e2)) (h4 : mf os = some (r, os')) (Q : VK)
    (q : ∀ v F' H' Sl' T, Step F H Sl F' H' Sl' → REnv F' H' σ e2 Sl' → New F' H H' Sl' r v T → Q v H') : spOf none mf vs H Q E := by
  obtain ⟨F2, Sl2, s2, R2, l2, r2⟩ := prepA_ok R1 r1 h3
  refine ⟨F2, os, fun _ _ => False, _, os', ⟨R2.ex, by rw [List.length_map, List.length_map, l2], fun i u hu => ?_, fun _ _ _ z => z.elim, fun _ _ z => z.elim⟩, fun _ _ z => z.elim, fun k u hu n => ?_, h4, fun v F3 H3 Sl3 T s3 R3 hs3 n3 => ?_⟩
  · have hi := args_at hu
    have hv : i < vs.length := by rw [← l2]; exact (List.getElem?_eq_some_iff.mp hi).1
    obtain ⟨rp, rr⟩ := r2 i u vs[i] hi (List.getElem?_eq_getElem hv) (fun z => nomatch z)
    exact ⟨vs[i], by rw [List.getElem?_map, List.getElem?_eq_getElem hv]; rfl, rr _ _⟩
  · have hv : k < vs.length := by rw [← l2]; exact (List.getElem?_eq_some_iff.mp hu).1
    obtain ⟨rp, rr⟩ := r2 k u vs[k] hu (List.getElem?_eq_getElem hv) (fun z => nomatch z)
    exact rp
  · have gr : ∀ b u, F3 b = some u → F2 b = some u ∨ H b = none := fun b u z => (s3.fz b u z).elim .inl fun y => y.elim .inr fun ⟨_, w⟩ => w.elim
    have s4 : Step F2 H Sl2 F3 H3 Sl2 := Step.grow s3.exF (fun b u z => s3.fr b u z fun _ y => y) gr
    have R4 : REnv F3 H3 σ e2 Sl2 := R2.grow s3.exF (fun b u z => s3.fr b u z fun _ y => y) R3.ex gr
    refine q v F3 H3 Sl2 T (s2.trans s4) R4 ⟨n3.own, fun i a x y => ?_, n3.tr, fun a x => s2.tkb (n3.nw a x)⟩
    obtain ⟨_, u, z⟩ := R2.tr i a y
    rw [n3.nw a x] at z
    cases z
def permP (ix : List Nat) (us ws : List P) : List P := ix.map fun i => (us ++ ws).getD i (.val .none)
theorem perm_rel {F : Hp} {σ : L2.St} {ix : List Nat} {vs zs : List V} {ps qs : List P} (r : relA F σ vs ps) (rz : relA F σ zs qs) : relA F σ (permV ix .non vs zs) (permP ix ps qs) := by
  have h := All2.app r rz
  unfold permV permP
  induction ix with
  | nil => exact .nil
  | cons i t ih =>
    refine .cons ?_ ih
    show RP F σ ((vs ++ zs).getD i V.non) ((ps ++ qs).getD i (.val .none))
    rw [List.getD_eq_getElem?_getD, List.getD_eq_getElem?_getD]
    cases q : (ps ++ qs)[i]? with
    | none =>
      have : (vs ++ zs)[i]? = none := by
        rw [List.getElem?_eq_none_iff, ← h.len]
        exact List.getElem?_eq_none_iff.mp q
      rw [this]
      rfl
    | some p =>
      obtain ⟨v, e, rr⟩ := h.get q
      rw [e]
      exact rr
/-- f(e, .., k = v, ..) -/
def mCallN (ix : List Nat) (mf : MF) (ma mk : MA) : MO := bnd ma fun ps e => bnd mk (fun qs e1 => match prepA none (permP ix ps qs) e1 with
  | some (os, e2) => match mf os with
    | some (r, _) => some (r, e2)
    | none => none
  | none => none) e
theorem ro_callN {pu pv : Bool} {ta tk : TA} {ma mk : MA} {mf : MF} {ix : List Nat} {n m : Nat} {E : XK} (h : RA pu ta ma) (h' : RA pv tk mk) (l1 : LenA n ma) (l2 : LenA m mk) : RO (tCallN n m (spOf none mf) (permV ix .non) E ta tk) (mCallN ix mf ma mk) := by
  intro F H σ env Sl R o env' e Q q
  obtain ⟨ps, e1, h1, h2⟩ := bnd_of e
  obtain ⟨qs, e2, h3, h4⟩ := bnd_of h2
  split at h4
  · rename_i os e3 h5
    split at h4
    · rename_i r os' h6
      cases h4
      refine h F H σ env Sl R ps _ h1 _ fun vs F1 H1 Sl1 s1 pu1 R1 r1 => ?_
      refine h' F1 H1 σ e1 Sl1 R1 qs _ h3 _ fun zs F2 H2 Sl2 s2 pu2 R2 r2 => ?_
      have r1' := monoA _ _ _ _ _ s2.exF r1
      refine ⟨by rw [← r1.len, l1 _ _ _ h1], by rw [← r2.len, l2 _ _ _ h3], call_core R2 (perm_rel r1' r2) h5 h6 Q fun v F' H' Sl' T s R' n => q v F' H' Sl' T (s1.trans (s2.trans s)) R' (n.mono0 fun _ z => s1.tkb (s2.tkb z))⟩
    · cases h4
  · cases h4
end Tr
namespace Tr
open PySem PySem.Spec PyProof.Rows L2
/-! ### repr of data -/
mutual
def reprD : PyData → Str
  | .none => "None"
  | .bool b => if b then "True" else "False"
  | .int i => toString i
  | .str s => reprText s
  | .list ds => listText (reprDs ds)
  | .tuple ds => tupleText (reprDs ds)
  | .dict _ => ""
def reprDs : List PyData → List Str
  | [] => []
  | d :: ds => reprD d :: reprDs ds
end
mutual
/-- what repr is asked of each part -/
def reprOk : PyData → Bool
  | .none => true
  | .bool _ => true
  | .int i => decide (i.natAbs.log2 < 1920)
  | .str s => decide ((reprText s).length ≤ sizeLine)
  | .list ds => reprOks ds
  | .tuple ds => reprOks ds
  | .dict _ => false
def reprOks : List PyData → Bool
  | [] => true
  | d :: ds => reprOk d && reprOks ds
end
mutual
/-- how deep -/
def deepD : PyData → Nat
  | .list ds => deepDs ds + 1
  | .tuple ds => deepDs ds + 1
  | _ => 0
def deepDs : List PyData → Nat
  | [] => 0
  | d :: ds => max (deepD d) (deepDs ds)
end
theorem reprDs_len : ∀ ds : List PyData, (reprDs ds).length = ds.length
  | [] => rfl
  | d :: ds => by show (reprDs ds).length + 1 = ds.length + 1; rw [reprDs_len ds]
theorem reprDs_get : ∀ (ds : List PyData) (i : Nat), (reprDs ds)[i]? = (ds[i]?).map reprD
  | [], i => by simp [reprDs]
  | d :: ds, 0 => rfl
  | d :: ds, i + 1 => by
    show (reprDs ds)[i]? = _
    rw [reprDs_get ds i, List.getElem?_cons_succ]
theorem reprOks_get : ∀ {ds : List PyData} {i : Nat} {d : PyData}, reprOks ds = true → ds[i]? = some d → reprOk d = true
  | [], _, _, _, h => by simp at h
  | x :: ds, 0, d, h, e => by
    cases e
    have h' : (reprOk x && reprOks ds) = true := h
    rw [Bool.and_eq_true] at h'
    exact h'.1
  | x :: ds, i + 1, d, h, e => by
    rw [List.getElem?_cons_succ] at e
    have h' : (reprOk x && reprOks ds) = true := h
    rw [Bool.and_eq_true] at h'
    exact reprOks_get h'.2 e
theorem deepDs_get : ∀ {ds : List PyData} {i : Nat} {d : PyData}, ds[i]? = some d → deepD d ≤ deepDs ds
  | [], _, _, h => by simp at h
  | x :: ds, 0, d, e => by
    cases e
    exact Nat.le_max_left _ _
  | x :: ds, i + 1, d, e => by
    rw [List.getElem?_cons_succ] at e
    exact Nat.le_trans (deepDs_get e) (Nat.le_max_right _ _)
/-! one value is one datum -/
mutual
theorem rp_inj {F : Hp} : ∀ {d d' : PyData} {v : V}, Rp F d v → Rp F d' v → d = d'
  | .none, d', v, h, h' => by
    have e : v = .non := h
    subst e
    cases d' with
    | none => rfl
    | bool _ => exact nomatch (show V.non = V.bl _ from h')
    | int _ => exact nomatch (show V.non = V.int _ from h')
    | str _ => exact nomatch (show V.non = V.str _ from h')
    | list _ => obtain ⟨_, _, z, _⟩ := h'; exact nomatch z
    | tuple _ => obtain ⟨_, _, z, _⟩ := h'; exact nomatch z
    | dict _ => obtain ⟨_, _, z, _⟩ := h'; exact nomatch z
  | .bool b, d', v, h, h' => by
    have e : v = .bl b := h
    subst e
    cases d' with
    | none => exact nomatch (show V.bl b = V.non from h')
    | bool _ => rw [V.bl.inj (show V.bl b = V.bl _ from h')]
    | int _ => exact nomatch (show V.bl b = V.int _ from h')
    | str _ => exact nomatch (show V.bl b = V.str _ from h')
    | list _ => obtain ⟨_, _, z, _⟩ := h'; exact nomatch z
    | tuple _ => obtain ⟨_, _, z, _⟩ := h'; exact nomatch z
    | dict _ => obtain ⟨_, _, z, _⟩ := h'; exact nomatch z
  | .int b, d', v, h, h' => by
    have e : v = .int b := h
    subst e
    cases d' with
    | none => exact nomatch (show V.int b = V.non from h')
    | bool _ => exact nomatch (show V.int b = V.bl _ from h')
    | int _ => rw [V.int.inj (show V.int b = V.int _ from h')]
    | str _ => exact nomatch (show V.int b = V.str _ from h')
    | list _ => obtain ⟨_, _, z, _⟩ := h'; exact nomatch z
    | tuple _ => obtain ⟨_, _, z, _⟩ := h'; exact nomatch z
    | dict _ => obtain ⟨_, _, z, _⟩ := h'; exact nomatch z
  | .str b, d', v, h, h' => by
    have e : v = .str b := h
    subst e
    cases d' with
    | none => exact nomatch (show V.str b = V.non from h')
    | bool _ => exact nomatch (show V.str b = V.bl _ from h')
    | int _ => exact nomatch (show V.str b = V.int _ from h')
    | str _ => rw [V.str.inj (show V.str b = V.str _ from h')]
    | list _ => obtain ⟨_, _, z, _⟩ := h'; exact nomatch z
    | tuple _ => obtain ⟨_, _, z, _⟩ := h'; exact nomatch z
    | dict _ => obtain ⟨_, _, z, _⟩ := h'; exact nomatch z
  | .list ds, d', v, h, h' => by
    obtain ⟨a, vs, rfl, hF, hr⟩ := h
    cases d' with
    | none => exact nomatch (show V.ref a = V.non from h')
    | bool _ => exact nomatch (show V.ref a = V.bl _ from h')
    | int _ => exact nomatch (show V.ref a = V.int _ from h')
    | str _ => exact nomatch (show V.ref a = V.str _ from h')
    | list ds' =>
      obtain ⟨a', vs', e, hF', hr'⟩ := h'
      cases e
      rw [hF] at hF'
      cases hF'
      rw [rps_inj hr hr']
    | tuple _ =>
      obtain ⟨a', vs', e, hF', hr'⟩ := h'
      cases e
      rw [hF] at hF'
      cases hF'
    | dict _ =>
      obtain ⟨_, a', e, hF'⟩ := h'
      cases e
      rw [hF] at hF'
      cases hF'
  | .tuple ds, d', v, h, h' => by
    obtain ⟨a, vs, rfl, hF, hr⟩ := h
    cases d' with
    | none => exact nomatch (show V.ref a = V.non from h')
    | bool _ => exact nomatch (show V.ref a = V.bl _ from h')
    | int _ => exact nomatch (show V.ref a = V.int _ from h')
    | str _ => exact nomatch (show V.ref a = V.str _ from h')
    | tuple ds' =>
      obtain ⟨a', vs', e, hF', hr'⟩ := h'
      cases e
      rw [hF] at hF'
      cases hF'
      rw [rps_inj hr hr']
    | list _ =>
      obtain ⟨a', vs', e, hF', hr'⟩ := h'
      cases e
      rw [hF] at hF'
      cases hF'
    | dict _ =>
      obtain ⟨_, a', e, hF'⟩ := h'
      cases e
      rw [hF] at hF'
      cases hF'
  | .dict ks, d', v, h, h' => by
    obtain ⟨rfl, a, rfl, hF⟩ := h
    cases d' with
    | none => exact nomatch (show V.ref a = V.non from h')
    | bool _ => exact nomatch (show V.ref a = V.bl _ from h')
    | int _ => exact nomatch (show V.ref a = V.int _ from h')
    | str _ => exact nomatch (show V.ref a = V.str _ from h')
    | list _ =>
      obtain ⟨a', vs', e, hF', hr'⟩ := h'
      cases e
      rw [hF] at hF'
      cases hF'
    | tuple _ =>
      obtain ⟨a', vs', e, hF', hr'⟩ := h'
      cases e
      rw [hF] at hF'
      cases hF'
    | dict _ =>
      obtain ⟨rfl, _⟩ := h'
      rfl
theorem rps_inj {F : Hp} : ∀ {ds ds' : List PyData} {vs : List V}, Rps F ds vs → Rps F ds' vs → ds = ds'
  | [], ds', vs, h, h' => by
    have e : vs = [] := h
    subst e
    cases ds' with
    | nil => rfl
    | cons _ _ => obtain ⟨_, _, z, _⟩ := h'; exact nomatch z
  | d :: ds, ds', vs, h, h' => by
    obtain ⟨v, r, rfl, h1, h2⟩ := h
    cases ds' with
    | nil => exact nomatch (show v :: r = [] from h')
    | cons d' ds' =>
      obtain ⟨v', r', e, h1', h2'⟩ := h'
      cases e
      rw [rp_inj h1 h1', rps_inj h2 h2']
end
/-! what repr says of data that stand in the heap -/
mutual
theorem repr_ok {prog : Program} {w : World} {H : Hp} {h₀ : Heap} (ok : HOk prog w H h₀) : ∀ (d : PyData) (v : V) (u : Value), Rp H d v → L2.RelV v u → reprOk d = true →
    ∃ as : List Addr, (∀ b ∈ as, ∃ d', Rp H d' (.ref b) ∧ sizeOf d' ≤ sizeOf d) ∧ ReprK prog w as h₀ (deepD d) u (reprD d)
  | .none, v, u, h, r, k => by
    have e : v = .non := h
    subst e
    cases (show u = Value.none from r)
    exact ⟨[], fun _ z => by simp at z, ReprK.of_is ReprIs.none _ _ _⟩
  | .bool b, v, u, h, r, k => by
    have e : v = .bl b := h
    subst e
    cases (show u = Value.bool b from r)
    refine ⟨[], fun _ z => by simp at z, ?_⟩
    have := ReprK.of_is (prog := prog) (w := w) (ReprIs.bool b) [] h₀ 0
    cases b <;> exact this
  | .int i, v, u, h, r, k => by
    have e : v = .int i := h
    subst e
    obtain ⟨t, rfl⟩ := (show ∃ t, u = Value.int i t from r)
    exact ⟨[], fun _ z => by simp at z, ReprK.of_is (ReprIs.int t (of_decide_eq_true k)) _ _ _⟩
  | .str x, v, u, h, r, k => by
    have e : v = .str x := h
    subst e
    obtain ⟨t, rfl⟩ := (show ∃ t, u = Value.str x t from r)
    exact ⟨[], fun _ z => by simp at z, ReprK.of_is (ReprIs.str x t (of_decide_eq_true k)) _ _ _⟩
  | .list ds, v, u, h, r, k => by
    have h0 := h
    obtain ⟨a, vs, rfl, hF, hr⟩ := h
    cases (show u = Value.ref a from r)
    obtain ⟨z, its, n, rv, hg⟩ := ok a _ hF
    cases its with
    | nil =>
      have e1 : vs = [] := by cases rv; rfl
      subst e1
      have e2 : ds = [] := by
        cases ds with
        | nil => rfl
        | cons _ _ => obtain ⟨_, _, y, _⟩ := hr; exact nomatch y
      subst e2
      have : reprD (.list []) = ("[]" : Str) := by kernel_rfl
      rw [this]
      exact ⟨[], fun _ z => by simp at z, ReprK.listEmpty hg rfl rfl⟩
    | cons x l =>
      obtain ⟨as, has, hT⟩ := repr_oks ok ds vs (x :: l) hr rv k
      have hlen : (reprDs ds).length = (x :: l).toArray.size := by
        rw [reprDs_len, ← (rps_iff.mp hr).len.symm, rv.length]
        simp
      have na : a ∉ as := fun y => by
        obtain ⟨d', r', hs⟩ := has a y
        have := rp_inj r' h0
        rw [this] at hs
        simp at hs
        omega
      refine ⟨a :: as, fun b hb => ?_, ReprK.list hg rfl rfl na hlen fun i y hy => hT i y (by simpa using hy)⟩
      rcases List.mem_cons.mp hb with rfl | hb
      · exact ⟨_, h0, Nat.le_refl _⟩
      · obtain ⟨d', r', hs⟩ := has b hb
        exact ⟨d', r', by simp; omega⟩
  | .tuple ds, v, u, h, r, k => by
    have h0 := h
    obtain ⟨a, vs, rfl, hF, hr⟩ := h
    cases (show u = Value.ref a from r)
    obtain ⟨z, its, rv, o, hg, hc, n, hd⟩ := ok a _ hF
    obtain ⟨as, has, hT⟩ := repr_oks ok ds vs its hr rv k
    have na : a ∉ as := fun y => by
      obtain ⟨d', r', hs⟩ := has a y
      have := rp_inj r' h0
      rw [this] at hs
      simp at hs
      omega
    have hlen : (reprDs ds).length = its.length := by rw [reprDs_len, (rps_iff.mp hr).len, rv.length]
    refine ⟨a :: as, fun b hb => ?_, ReprK.tuple hg hc hd na ?_⟩
    · rcases List.mem_cons.mp hb with rfl | hb
      · exact ⟨_, h0, Nat.le_refl _⟩
      · obtain ⟨d', r', hs⟩ := has b hb
        exact ⟨d', r', by simp; omega⟩
    · show ReprAllK prog w as h₀ (deepDs ds) its.toArray.toList (reprDs ds)
      have all : ∀ (us : List Value) (ts : List Str), ts.length = us.length → (∀ (i : Nat) (y : Value), us[i]? = some y → ∃ t, ts[i]? = some t ∧ ReprK prog w as h₀ (deepDs ds) y t) → ReprAllK prog w as h₀ (deepDs ds) us ts := by
        intro us
        induction us with
        | nil => intro ts hl _; cases ts with
          | nil => exact .nil
          | cons _ _ => simp at hl
        | cons y us ih =>
          intro ts hl hx
          cases ts with
          | nil => simp at hl
          | cons t ts =>
            obtain ⟨t', e, k1⟩ := hx 0 y rfl
            cases e
            exact .cons k1 (ih ts (by simpa using hl) fun i y hy => by
              obtain ⟨t', e, k2⟩ := hx (i + 1) y (by rw [List.getElem?_cons_succ]; exact hy)
              rw [List.getElem?_cons_succ] at e
              exact ⟨t', e, k2⟩)
      exact all _ _ (by simpa using hlen) fun i y hy => hT i y (by simpa using hy)
  | .dict _, _, _, _, _, ok => nomatch ok
theorem repr_oks {prog : Program} {w : World} {H : Hp} {h₀ : Heap} (ok : HOk prog w H h₀) : ∀ (ds : List PyData) (vs : List V) (us : List Value), Rps H ds vs → L2.Vals vs us → reprOks ds = true →
    ∃ as : List Addr, (∀ b ∈ as, ∃ d', Rp H d' (.ref b) ∧ sizeOf d' < sizeOf ds) ∧ ∀ (i : Nat) (y : Value), us[i]? = some y → ∃ t, (reprDs ds)[i]? = some t ∧ ReprK prog w as h₀ (deepDs ds) y t
  | [], vs, us, h, r, k => by
    have e : vs = [] := h
    subst e
    cases r
    exact ⟨[], fun _ z => by simp at z, fun i y z => by simp at z⟩
  | d :: ds, vs, us, h, r, k => by
    obtain ⟨v, rest, rfl, h1, h2⟩ := h
    cases r with
    | cons a b =>
      have k' : (reprOk d && reprOks ds) = true := k
      rw [Bool.and_eq_true] at k'
      obtain ⟨as, x1, x2⟩ := repr_ok ok d v _ h1 a k'.1
      obtain ⟨bs, y1, y2⟩ := repr_oks ok ds rest _ h2 b k'.2
      refine ⟨as ++ bs, fun c hc => ?_, fun i y hy => ?_⟩
      · rcases List.mem_append.mp hc with hc | hc
        · obtain ⟨d', r', hs⟩ := x1 c hc
          exact ⟨d', r', by simp; omega⟩
        · obtain ⟨d', r', hs⟩ := y1 c hc
          exact ⟨d', r', by simp; omega⟩
      · cases i with
        | zero =>
          cases hy
          exact ⟨_, rfl, (x2.more fun c hc => List.mem_append.mpr (.inl hc)).level_le (Nat.le_max_left _ _)⟩
        | succ i =>
          rw [List.getElem?_cons_succ] at hy
          obtain ⟨t, e, z⟩ := y2 i y hy
          exact ⟨t, e, (z.more fun c hc => List.mem_append.mpr (.inr hc)).level_le (Nat.le_max_right _ _)⟩
end
end Tr
namespace Tr
open PySem PySem.Spec PyProof.Rows L2
section
variable {X : Cx}
def isTup : PyData → Bool
  | .tuple _ => true
  | _ => false
/-- repr(x) of data that is no tuple itself, where no repr is under way -/
def rRepr : List V → Hp → VK → Prop := fun xs H Q => ∃ x d, xs = [x] ∧ Rp H d x ∧ isTup d = false ∧ reprOk d = true ∧ deepD d ≤ 60 ∧ (reprD d).length ≤ sizeLine ∧ Q (.str (reprD d)) H
/-- the built-in over a class's own __repr__ -/
theorem repr_by {T id : String} {v : Value} {Q : Value → Shared → Prop} {E : Value → Shared → Prop} {s : Shared} {A : Around} {prog : Program} {w : World} (hu : A.units + 1 < cLine) (ty : s.TypeIs v T) (sl : Slot T "__repr__" id)
    (core : wpAny (model prog w) A.in1 (call (.builtin id) [v]) (fun u s' => ∃ x t, u = .str x t ∧ Q u s') E s) : wpAny (model prog w) A (call (.builtin "repr") [v]) Q E s := by
  apply Calls.call_function_entry F.kind_repr F.plain_repr F.entry_repr (F.args_repr1 v)
  unfold Builtin.«repr»; apply wpAny_bind (m := oneArg "repr" _); apply wpAny_pure
  apply wpAny_bind; apply wpAny_cRoomFor (show A.in1.units < cLine from hu)
  apply wpAny_bind; apply wpAny_specialOf (name := Str.ofString "__repr__") ty sl.lookup
  apply wpAny_bind (m := callSpecialIfBound? v (Str.ofString "__repr__")); apply wpAny_callSpecialIfBound?_slot (name := Str.ofString "__repr__") ty sl
  refine wpAny_mono core ?_ fun _ _ z => z
  rintro u s' ⟨x, t, rfl, q⟩
  apply wpAny_bind; apply wpAny_isInstance (T := "str") (b := true) (typeIs_str _ _ _) isSubtype_str_str
  exact wpAny_pure ⟨_, rfl, q⟩
theorem call_repr (gu : X.A.guards = some []) (hu : X.A.units + 64 < cLine) : CallR X (.builtin "repr") rRepr := by
  intro pins s σ H xs us Q I r h
  obtain ⟨x, d, rfl, hd, nt, ok, dp, sz, q⟩ := h
  obtain ⟨u, rfl, ru⟩ := vals1 r
  have fin : ∀ (h' : Heap) (tk : Nat) (t : Tok), (∀ b o, s.heap.get? b = some o → h'.get? b = some o) → EP X pins σ Q (.str (reprD d) t) { s with heap := h', toks := tk } :=
    fun h' tk t k => ⟨.str (reprD d), H, I.kept k, ⟨t, rfl⟩, q⟩
  cases d with
  | none =>
    have e : x = .non := hd
    subst e
    cases (show u = Value.none from ru)
    exact PySem.P.repr_of_none (fin s.heap _ _ fun _ _ z => z)
  | bool b =>
    have e : x = .bl b := hd
    subst e
    cases (show u = Value.bool b from ru)
    refine PySem.P.repr_of_bool ?_
    have := fin s.heap (s.toks + 1) s.toks fun _ _ z => z
    cases b <;> exact this
  | int i =>
    have e : x = .int i := hd
    subst e
    obtain ⟨t, rfl⟩ := (show ∃ t, u = Value.int i t from ru)
    exact PySem.P.repr_of_int (of_decide_eq_true ok) (fin s.heap _ _ fun _ _ z => z)
  | str y =>
    have e : x = .str y := hd
    subst e
    obtain ⟨t, rfl⟩ := (show ∃ t, u = Value.str y t from ru)
    exact PySem.P.repr_of_str (fin s.heap _ _ fun _ _ z => z) (of_decide_eq_true ok)
  | list ds =>
    have hd0 := hd
    obtain ⟨a, vs, rfl, hF, hr⟩ := hd
    cases (show u = Value.ref a from ru)
    obtain ⟨z, its, n, rv, hg⟩ := I.hok a _ hF
    refine repr_by (by omega) ⟨_, hg, rfl⟩ F.slot_list_repr ?_
    cases its with
    | nil =>
      have e1 : vs = [] := by cases rv; rfl
      subst e1
      have e2 : ds = [] := by
        cases ds with
        | nil => rfl
        | cons _ _ => obtain ⟨_, _, y, _⟩ := hr; exact nomatch y
      subst e2
      have e3 : reprD (.list []) = ("[]" : Str) := by kernel_rfl
      refine call_list_repr_empty ⟨_, hg, rfl⟩ hg rfl ?_
      rw [← e3]
      exact ⟨_, _, rfl, fin s.heap _ _ fun _ _ z => z⟩
    | cons y l =>
      obtain ⟨as, has, hT⟩ := repr_oks I.hok ds vs (y :: l) hr rv ok
      have hlen : (reprDs ds).length = (y :: l).toArray.size := by
        rw [reprDs_len, ← (rps_iff.mp hr).len.symm, rv.length]
        simp
      have na : a ∉ as := fun y => by
        obtain ⟨d', r', hs⟩ := has a y
        have := rp_inj r' hd0
        rw [this] at hs
        simp at hs
        omega
      have dp' : deepDs ds + 1 ≤ 60 := dp
      refine call_list_reprK hg rfl rfl na hlen (fun i y hy => hT i y (by simpa using hy)) (A := X.A.in1) gu (fun b _ => Clear.nil b) ?_ (fun _ _ z => z) (fun h' t tk k => ⟨_, _, rfl, fin h' tk t k⟩) sz
      show X.A.units + 1 + (deepDs ds + 1) < cLine
      omega
  | tuple ds => exact nomatch nt
  | dict _ => exact nomatch ok
end
def gRepr : En → List P → Option P := fun env ps => match ps with
  | [p] => match vw env p with
    | some d => if isTup d = false ∧ reprOk d = true ∧ deepD d ≤ 60 ∧ (reprD d).length ≤ sizeLine then some (.val (.str (reprD d))) else none
    | none => none
  | _ => none
theorem f_repr : FnK rRepr gRepr := by
  intro F H σ env Sl xs ps p R h e Q q
  unfold gRepr at e
  split at e
  · rename_i p1
    cases h with
    | cons a t =>
      cases t
      split at e
      · rename_i d h1
        split at e
        · rename_i hd
          cases e
          exact ⟨_, d, rfl, vw_rp R a h1, hd.1, hd.2.1, hd.2.2.1, hd.2.2.2, q _ F H (Ex.refl F) (Ex.refl H) R.ex (fun _ _ z => .inl z) rfl⟩
        · cases e
      · cases e
  · cases e
end Tr
namespace Tr
open PySem PySem.Spec PyProof.Rows L2
/-! ### the law's call behind the top -/
section
variable {P : Program} {w : World} {K : PySem.W.Frag} {mg mb : Str → Option Value} {k : Nat} {fa a : Addr} {fd : FuncData} {x : Str} {sp : Sp} {s1 : Shared} {vs : List Value} {ns : List Int}
/-- from an abstract heap that tracks the script at most -/
theorem from_heap {H : Hp} (KX : K.In s1.heap) (hns : s1.heap.Ns mainGlobals mg) (hb : s1.heap.Ns builtinsNs mb) (hbb : ∀ x : Str, x ≠ "__name__" → mb x = bootBuiltins x) (hlim : s1.heap.NoLimit) (hg : s1.gens = #[])
    (ha : s1.heap.get? a = some { cls := .type "list", data := .seq vs.toArray }) (room : Room k callerA) (F : ∀ base : Heap, K.In base → base.Ns mainGlobals mg → FnG P w K mg base k fa fd [x] sp)
    (bi : ∀ (s : Shared) (u : Value), BindsTo s fd ⟨[u], []⟩ [(x, u)]) (only : Only H) (want : sp [.ref a] H (fun v _ => v = .bl true) fun _ _ _ => False) (hok : HOk P w H s1.heap) (hA : ∀ b, H b ≠ none → b = a) (hK : H a ≠ none → K.lookup a = none) :
    codeAny (model P w) callerA (.call (.ref fa) ⟨[.ref a], []⟩) (fun r s' => r = .ok (.ret (.bool true)) ∧ OldK s1.heap s'.heap ∧ s'.os = s1.os ∧ AllBare s'.gens) s1 := by
  -- the base: what is not tracked
  have low : ∀ {b : Addr} {o : Obj}, s1.heap.get? b = some o → H b = none → (hidT s1.heap H).get? b = some o := fun e n => hidT_get e n
  have nsLow : ∀ {b : Addr} {m : Str → Option Value}, s1.heap.Ns b m → (hidT s1.heap H).Ns b m := by
    rintro b m ⟨o, es, ep, e, d, r⟩
    refine ⟨o, es, ep, low e ?_, d, r⟩
    cases q : H b with
    | none => rfl
    | some u =>
      have eb : b = a := hA b (by simp [q])
      rw [eb, ha] at e
      cases e
      cases (show Data.seq vs.toArray _ = Data.dict es ep from d)
  have KL : K.In (hidT s1.heap H) := by
    intro b o e
    refine low (KX b o e) ?_
    cases q : H b with
    | none => rfl
    | some u =>
      have eb : b = a := hA b (by simp [q])
      subst eb
      have := hK (by simp [q])
      rw [this] at e
      cases e
  have md : Mod K mg (hidT s1.heap H) := by
    obtain ⟨mc, h1, h2⟩ := hlim
    exact ⟨KL, nsLow hns, ⟨mb, nsLow hb, hbb⟩, ⟨mc, nsLow h1, h2⟩⟩
  have en : Env0 P w K mg (hidT s1.heap H) callerA [] s1 H := by
    refine ⟨rfl, md, fun b o e => of_hidT e, Nat.le_of_eq (hidT_size _ _), trivial, ?_, hok, .of_eq hg⟩
    intro b hb
    exact absurd (show b ∈ ([] : List Addr) from hb) (by simp)
  refine codeAny_mono ((F _ KL (nsLow hns)).go callerA [] s1 H ⟨[.ref a], []⟩ [.ref a] [.ref a] _ _ room rfl en (bi s1 (.ref a)) (.cons rfl .nil) want) ?_
  intro r s' z
  match r, z with
  | .error _, z => exact False.elim z
  | .ok .next, z => exact False.elim z
  | .ok .brk, z => exact False.elim z
  | .ok .cont, z => exact False.elim z
  | .ok (.ret u), z =>
    obtain ⟨v, H2, os, bare, un, hok2, rel, q⟩ := z
    cases (show v = .bl true from q)
    cases (show u = Value.bool true from rel)
    refine ⟨rfl, OldK.of_keep ?_, os, bare⟩
    intro b o e
    cases q : H b with
    | none => exact un.keep b o e q (fun z => absurd (show b ∈ ([] : List Addr) from z) (by simp)) (by simp)
    | some u =>
      cases only b with
      | inl z => rw [q] at z; cases z
      | inr z =>
        obtain ⟨ob, xs, z⟩ := z
        have y1 := (hok b _ z).1
        have y2 := (hok2 b _ (un.frzs b ob _ z)).1
        rw [e] at y1
        cases y1
        exact y2
/-- the law's def, called with the script -/
theorem law_go (KX : K.In s1.heap) (hns : s1.heap.Ns mainGlobals mg) (hb : s1.heap.Ns builtinsNs mb) (hbb : ∀ x : Str, x ≠ "__name__" → mb x = bootBuiltins x) (hlim : s1.heap.NoLimit) (hg : s1.gens = #[])
    (ha : s1.heap.get? a = some { cls := .type "list", data := .seq vs.toArray }) (hi : IntsAre vs ns) (hl : ns.length ≤ sizeLine) (room : Room k callerA) (F : ∀ base : Heap, K.In base → base.Ns mainGlobals mg → FnG P w K mg base k fa fd [x] sp)
    (bi : ∀ (s : Shared) (u : Value), BindsTo s fd ⟨[u], []⟩ [(x, u)]) (want : ∀ H : Hp, Only H → SqL K H a (ns.map V.int) → sp [.ref a] H (fun v _ => v = .bl true) fun _ _ _ => False) :
    codeAny (model P w) callerA (.call (.ref fa) ⟨[.ref a], []⟩) (fun r s' => r = .ok (.ret (.bool true)) ∧ OldK s1.heap s'.heap ∧ s'.os = s1.os ∧ AllBare s'.gens) s1 := by
  have rv : Vals (ns.map V.int) vs := vals_ints hi
  have lv : vs.length = ns.length := hi.length
  by_cases hk : K.lookup a = none
  · have at_ : ∀ {b : Addr} {u : HO}, (if b = a then some (HO.frz { cls := .type "list", data := .seq vs.toArray } (.lst (ns.map V.int))) else none) = some u → b = a ∧ u = HO.frz { cls := .type "list", data := .seq vs.toArray } (.lst (ns.map V.int)) := by
      intro b u z
      split at z
      · rename_i e; exact ⟨e, (Option.some.inj z).symm⟩
      · cases z
    refine from_heap (H := fun b => if b = a then some (.frz { cls := .type "list", data := .seq vs.toArray } (.lst (ns.map V.int))) else none) KX hns hb hbb hlim hg ha room F bi ?_ (want _ ?_ (.inl (.inr ⟨_, if_pos rfl⟩))) ?_ ?_ fun _ => hk
    · intro b
      by_cases e : b = a
      · exact .inr ⟨_, _, if_pos e⟩
      · exact .inl (if_neg e)
    · intro b
      by_cases e : b = a
      · exact .inr ⟨_, _, if_pos e⟩
      · exact .inl (if_neg e)
    · intro b u z
      obtain ⟨e1, e2⟩ := at_ z
      rw [e1, e2]
      exact ⟨ha, by rw [List.length_map]; exact hl, vs, _, rv, ha⟩
    · intro b z
      by_cases e : b = a
      · exact e
      · exact absurd (if_neg e) z
  · obtain ⟨o, ho⟩ := Option.ne_none_iff_exists'.mp hk
    have ho2 := KX a o ho
    rw [ha] at ho2
    cases ho2
    have no : ∀ b, ((fun _ => none : Hp) b) = none := fun _ => rfl
    refine from_heap (H := fun _ => none) KX hns hb hbb hlim hg ha room F bi (fun b => .inl rfl) (want _ (fun b => .inl rfl) (.inr ⟨_, vs.toArray, _, ho, rfl, rfl, rfl, by rw [List.size_toArray, lv]; exact hl, by simpa using rv⟩)) ?_ (fun b z => absurd rfl z) fun z => absurd rfl z
    intro b u z
    cases (show (none : Option HO) = some u from z)
end
/-- what k_head leaves, from the law's def as a plain function -/
theorem walkG {l : PySem.W.OpenLaw} {n k : Nat} {q : Program} {loose : List Str} {XP : (Str → Option Value) → Heap → Prop} {YP : World → Heap → Prop} {d : DefRec} {K : Params → PySem.W.Frag} {x : Str} {mf : PySem.W.Frag → MF}
    (hn : l.most = some n) (hn2 : n ≤ sizeLine) (hdf : d.params.defaults = []) (room : Room k callerA) (hY : ∀ (w : World) (h : Heap), YP w h → (K w.params).In h)
    (F : ∀ (w : World) (mg : Str → Option Value) (fa : Addr) (h : Heap), (K w.params).In h → h.Ns mainGlobals mg → mg d.name = some (.ref fa) →
      ∃ fd : FuncData, (∀ (s : Shared) (u : Value), BindsTo s fd ⟨[u], []⟩ [(x, u)]) ∧ ∀ base : Heap, (K w.params).In base → base.Ns mainGlobals mg → FnG l.prog w (K w.params) mg base k fa fd [x] (spOf none (mf (K w.params))))
    (true_ : ∀ (K : PySem.W.Frag) (ns : List Int), ns.length ≤ n → ∃ os, mf K [.sc K ns] = some (.fz (.bool true), os)) : PySem.W.WalkO q loose XP YP l.row.toRowW d [] (fun f vs => PySem.call f vs) := by
  refine Att.attach_call hn hdf ?_
  intro w s₀ s1 mg mb fa o pm cd doc a vs ns G Y ho hd hcd hmg hobj hints hlen hg
  have KX := hY w _ Y
  obtain ⟨fd, bi, hF⟩ := F w mg fa _ KX G.T.g hmg
  refine law_go KX G.T.g G.T.b G.T.builtins G.T.nolimit hg hobj hints (Nat.le_trans hlen hn2) room hF bi ?_
  intro H only hS
  obtain ⟨os, e⟩ := true_ (K w.params) ns hlen
  refine ⟨H, [.sc (K w.params) ns], fun _ _ => False, _, os, ⟨Ex.refl H, rfl, fun i u z => ?_, fun _ _ _ z => z.elim, fun _ _ z => z.elim⟩, fun _ _ z => z.elim, fun j u z _ => ?_, e, ?_⟩
  · cases i with
    | zero => cases z; exact ⟨_, rfl, a, rfl, hS⟩
    | succ i => simp at z
  · cases j with
    | zero => cases z; rfl
    | succ j => simp at z
  · intro v F' H' Sl' T s R' hs' new
    exact new.own
end Tr
namespace Tr
open PySem PySem.Spec L2
/-! ### loops as plain functions: invariants by the turn -/
theorem forGo_inv {mg : PyData → En → Option En} {mb : MS} : ∀ {ds : List PyData} (J : Nat → En → Prop), (∀ i d, ds[i]? = some d → ∀ env, J i env → ∃ e1, mg d env = some e1 ∧ ∃ e2, mb e1 = some (.nx, e2) ∧ J (i + 1) e2) → ∀ env, J 0 env →
    ∃ e', mForGo mg mb ds env = some (.nx, e') ∧ J ds.length e'
  | [], J, h, env, h0 => ⟨env, rfl, h0⟩
  | d :: ds, J, h, env, h0 => by
    obtain ⟨e1, h1, e2, h2, h3⟩ := h 0 d rfl env h0
    obtain ⟨e', h4, h5⟩ := forGo_inv (ds := ds) (fun i => J (i + 1)) (fun i x hx => h (i + 1) x (by rw [List.getElem?_cons_succ]; exact hx)) e2 h3
    refine ⟨e', ?_, h5⟩
    unfold mForGo
    simp only [h1, h2]
    exact h4
/-- a search: the first item that hits ends it -/
theorem forGo_find {mg : PyData → En → Option En} {mb : MS} {I : En → Prop} {hit : PyData → Option O} : ∀ {ds : List PyData}, (∀ d ∈ ds, ∀ env, I env → ∃ e1, mg d env = some e1 ∧ match hit d with | none => ∃ e2, mb e1 = some (.nx, e2) ∧ I e2 | some o => ∃ e2, mb e1 = some (.rt o, e2)) → ∀ env, I env →
    match ds.findSome? hit with | none => ∃ e2, mForGo mg mb ds env = some (.nx, e2) ∧ I e2 | some o => ∃ e2, mForGo mg mb ds env = some (.rt o, e2)
  | [], h, env, h0 => ⟨env, rfl, h0⟩
  | d :: ds, h, env, h0 => by
    obtain ⟨e1, h1, h2⟩ := h d (by simp) env h0
    rw [List.findSome?_cons]
    cases hd : hit d with
    | some o =>
      rw [hd] at h2
      obtain ⟨e2, h3⟩ := h2
      refine ⟨e2, ?_⟩
      unfold mForGo
      simp only [h1, h3]
    | none =>
      rw [hd] at h2
      obtain ⟨e2, h3, h4⟩ := h2
      have ih := forGo_find (ds := ds) (fun x hx => h x (by simp [hx])) e2 h4
      have e : mForGo mg mb (d :: ds) env = mForGo mg mb ds e2 := by
        conv => lhs; unfold mForGo
        simp only [h1, h3]
      simp only [e]
      exact ih
theorem lcGo_inv {mg : PyData → En → Option En} {mt : MT} {me : ME} {vs : List Nat} : ∀ {ds : List PyData} (J : Nat → List PyData → En → Prop), (∀ i d, ds[i]? = some d → ∀ acc env, J i acc env → ∃ e1, mg d env = some e1 ∧ ∃ e2, mt e1 = some (true, e2) ∧ ∃ p e3, me e2 = some (p, e3) ∧ ∃ y e4, fzP e3 p = some (y, e4) ∧ J (i + 1) (acc ++ [y]) (wipeE e4 vs)) →
    ∀ acc env, J 0 acc env → acc.length + ds.length ≤ sizeLine → ∃ acc' e', mLcGo mg mt me vs ds acc env = some (acc', e') ∧ J ds.length acc' e'
  | [], J, h, acc, env, h0, _ => ⟨acc, env, rfl, h0⟩
  | d :: ds, J, h, acc, env, h0, hz => by
    rw [List.length_cons] at hz
    obtain ⟨e1, h1, e2, h2, p, e3, h3, y, e4, h4, h5⟩ := h 0 d rfl acc env h0
    obtain ⟨acc', e', h6, h7⟩ := lcGo_inv (ds := ds) (fun i => J (i + 1)) (fun i x hx => h (i + 1) x (by rw [List.getElem?_cons_succ]; exact hx)) (acc ++ [y]) _ h5 (by rw [List.length_append, List.length_singleton]; omega)
    refine ⟨acc', e', ?_, h7⟩
    unfold mLcGo
    simp only [h1, h2, h3, h4]
    rw [if_pos (by omega)]
    exact h6
/-- every item gives its own, and nothing changes -/
theorem lcGo_map {i : Nat} {me : ME} {ds : List PyData} {E : En} (y : PyData → PyData) (h : ∀ d ∈ ds, ∃ p e3, me (E.set i (some (.fz d))) = some (p, e3) ∧ ∃ e4, fzP e3 p = some (y d, e4) ∧ wipeE e4 [i] = E) (hz : ds.length ≤ sizeLine) :
    mLcGo (mgN i) mYes me [i] ds [] E = some (ds.map y, E) := by
  obtain ⟨acc', e', h1, h2, h3⟩ := lcGo_inv (ds := ds) (mg := mgN i) (mt := mYes) (me := me) (vs := [i]) (fun k acc env => acc = (ds.take k).map y ∧ env = E) (fun k d hd acc env hj => by
    obtain ⟨rfl, rfl⟩ := hj
    obtain ⟨p, e3, h1, e4, h2, h3⟩ := h d (List.mem_of_getElem? hd)
    refine ⟨_, rfl, _, rfl, p, e3, h1, y d, e4, h2, ?_, h3⟩
    rw [List.take_add_one, hd, List.map_append]
    rfl) [] E ⟨rfl, rfl⟩ (by simpa using hz)
  subst h3
  rw [h1, h2, List.take_length]
theorem while_inv {mc : MT} {mb : MS} {R : En → Prop} (J : Nat → En → Prop) (h0 : ∀ env, J 0 env → ∃ e1, mc env = some (false, e1) ∧ R e1) (h : ∀ k env, J (k + 1) env → ∃ e1, mc env = some (true, e1) ∧ ∃ e2, mb e1 = some (.nx, e2) ∧ J k e2) :
    ∀ (k n : Nat) env, k < n → J k env → ∃ e', mWhile mc mb n env = some (.nx, e') ∧ R e'
  | _, 0, _, hn, _ => absurd hn (by omega)
  | 0, n + 1, env, _, hj => by
    obtain ⟨e1, h1, h2⟩ := h0 env hj
    exact ⟨e1, by unfold mWhile; simp only [h1], h2⟩
  | k + 1, n + 1, env, hn, hj => by
    obtain ⟨e1, h1, e2, h2, h3⟩ := h k env hj
    obtain ⟨e', h4, h5⟩ := while_inv J h0 h k n e2 (by omega) h3
    refine ⟨e', ?_, h5⟩
    unfold mWhile
    simp only [h1, h2]
    exact h4
end Tr
namespace Tr
open PySem PySem.Spec PyProof.Rows L2
/-! ### sum, max and min of a list of whole numbers -/
def gSum : En → List P → Option P := fun env ps => match ps with
  | [p] => ((sq env p).bind allI).map fun ns => .val (.int ns.sum)
  | _ => none
theorem f_sum {K : PySem.W.Frag} : FnK (rSum K) gSum := by
  intro F H σ env Sl xs ps p R h e Q q
  unfold gSum at e
  split at e
  · rename_i p1
    cases h with
    | cons a t =>
      cases t
      cases h1 : sq env p1 with
      | none => rw [h1] at e; cases e
      | some ds =>
        cases h2 : allI ds with
        | none => simp only [h1, Option.bind_some, h2] at e; cases e
        | some ns =>
          simp only [h1, Option.bind_some, h2, Option.map_some] at e
          cases e
          obtain ⟨l, vs, rfl, hl, r⟩ := sq_of R a h1
          have e2 := allI_ok r h2
          exact ⟨l, ns, rfl, SqL.of (by rw [← e2]; exact hl), q _ F H (Ex.refl F) (Ex.refl H) R.ex (fun _ _ z => .inl z) rfl⟩
  · cases e
/-- the one with nothing above it -/
def topI : List Int → Option Int
  | [] => none
  | n :: ns => some (ns.foldl (fun a b => if a < b then b else a) n)
def lowI : List Int → Option Int
  | [] => none
  | n :: ns => some (ns.foldl (fun a b => if b < a then b else a) n)
theorem top_fold : ∀ (ns : List Int) (n : Int), (∀ m ∈ ns, m ≤ ns.foldl (fun a b => if a < b then b else a) n) ∧ n ≤ ns.foldl (fun a b => if a < b then b else a) n ∧ (ns.foldl (fun a b => if a < b then b else a) n = n ∨ ns.foldl (fun a b => if a < b then b else a) n ∈ ns)
  | [], n => ⟨fun _ h => (List.not_mem_nil h).elim, Int.le_refl _, Or.inl rfl⟩
  | m :: ns, n => by
    obtain ⟨h1, h2, h3⟩ := top_fold ns (if n < m then m else n)
    rw [List.foldl_cons]
    refine ⟨fun x hx => ?_, ?_, ?_⟩
    · rcases List.mem_cons.mp hx with rfl | hx
      · refine Int.le_trans ?_ h2
        split <;> omega
      · exact h1 x hx
    · refine Int.le_trans ?_ h2
      split <;> omega
    · rcases h3 with h3 | h3
      · rw [h3]
        split
        · exact .inr (by simp)
        · exact .inl rfl
      · exact .inr (by simp [h3])
theorem low_fold : ∀ (ns : List Int) (n : Int), (∀ m ∈ ns, ns.foldl (fun a b => if b < a then b else a) n ≤ m) ∧ ns.foldl (fun a b => if b < a then b else a) n ≤ n ∧ (ns.foldl (fun a b => if b < a then b else a) n = n ∨ ns.foldl (fun a b => if b < a then b else a) n ∈ ns)
  | [], n => ⟨fun _ h => (List.not_mem_nil h).elim, Int.le_refl _, Or.inl rfl⟩
  | m :: ns, n => by
    obtain ⟨h1, h2, h3⟩ := low_fold ns (if m < n then m else n)
    rw [List.foldl_cons]
    refine ⟨fun x hx => ?_, ?_, ?_⟩
    · rcases List.mem_cons.mp hx with rfl | hx
      · refine Int.le_trans h2 ?_
        split <;> omega
      · exact h1 x hx
    · refine Int.le_trans h2 ?_
      split <;> omega
    · rcases h3 with h3 | h3
      · rw [h3]
        split
        · exact .inr (by simp)
        · exact .inl rfl
      · exact .inr (by simp [h3])
theorem top_is {ns : List Int} {m : Int} (h : topI ns = some m) : 0 < ns.length ∧ m ∈ ns ∧ ∀ y, y ∈ ns → y ≤ m := by
  cases ns with
  | nil => cases h
  | cons n ns =>
    cases h
    obtain ⟨h1, h2, h3⟩ := top_fold ns n
    refine ⟨by simp, ?_, fun y hy => ?_⟩
    · rcases h3 with h3 | h3
      · rw [h3]; simp
      · simp [h3]
    · rcases List.mem_cons.mp hy with rfl | hy
      · exact h2
      · exact h1 y hy
theorem low_is {ns : List Int} {m : Int} (h : lowI ns = some m) : 0 < ns.length ∧ m ∈ ns ∧ ∀ y, y ∈ ns → m ≤ y := by
  cases ns with
  | nil => cases h
  | cons n ns =>
    cases h
    obtain ⟨h1, h2, h3⟩ := low_fold ns n
    refine ⟨by simp, ?_, fun y hy => ?_⟩
    · rcases h3 with h3 | h3
      · rw [h3]; simp
      · simp [h3]
    · rcases List.mem_cons.mp hy with rfl | hy
      · exact h2
      · exact h1 y hy
def gTop (pick : List Int → Option Int) : En → List P → Option P := fun env ps => match ps with
  | [p] => ((sq env p).bind allI).bind fun ns => (pick ns).map fun m => .val (.int m)
  | _ => none
theorem top_ok {F H : Hp} {σ : L2.St} {env : En} {Sl : Nat → Addr → Prop} {xs : List V} {ps : List P} {p : P} {pick : List Int → Option Int} (R : REnv F H σ env Sl) (h : relA F σ xs ps) (e : gTop pick env ps = some p) :
    ∃ (l : Addr) (ns : List Int) (m : Int), xs = [V.ref l] ∧ H l = some (.lst (ns.map V.int)) ∧ pick ns = some m ∧ p = .val (.int m) := by
  unfold gTop at e
  split at e
  · rename_i p1
    cases h with
    | cons a t =>
      cases t
      cases h1 : sq env p1 with
      | none => rw [h1] at e; cases e
      | some ds =>
        cases h2 : allI ds with
        | none => simp only [h1, Option.bind_some, h2] at e; cases e
        | some ns =>
          simp only [h1, Option.bind_some, h2] at e
          cases h3 : pick ns with
          | none => rw [h3] at e; cases e
          | some m =>
            rw [h3] at e
            cases e
            obtain ⟨l, vs, rfl, hl, r⟩ := sq_of R a h1
            have e2 := allI_ok r h2
            exact ⟨l, ns, m, rfl, by rw [← e2]; exact hl, h3, rfl⟩
  · cases e
theorem f_max {K : PySem.W.Frag} : FnK (rMax K) (gTop topI) := by
  intro F H σ env Sl xs ps p R h e Q q
  obtain ⟨l, ns, m, rfl, hl, h3, rfl⟩ := top_ok R h e
  obtain ⟨a, b, c⟩ := top_is h3
  refine ⟨l, ns, rfl, SqL.of hl, a, fun m' hm' hy => ?_⟩
  have e1 : m' = m := Int.le_antisymm (c m' hm') (hy m b)
  subst e1
  exact q _ F H (Ex.refl F) (Ex.refl H) R.ex (fun _ _ z => .inl z) rfl
theorem f_min {K : PySem.W.Frag} : FnK (rMin K) (gTop lowI) := by
  intro F H σ env Sl xs ps p R h e Q q
  obtain ⟨l, ns, m, rfl, hl, h3, rfl⟩ := top_ok R h e
  obtain ⟨a, b, c⟩ := low_is h3
  refine ⟨l, ns, rfl, SqL.of hl, a, fun m' hm' hy => ?_⟩
  have e1 : m' = m := Int.le_antisymm (hy m b) (c m' hm')
  subst e1
  exact q _ F H (Ex.refl F) (Ex.refl H) R.ex (fun _ _ z => .inl z) rfl
/-! ### sorted, whole numbers -/
def srtI (ns : List Int) : List Int := ns.mergeSort fun a b => decide (a ≤ b)
theorem srtI_perm (ns : List Int) : (srtI ns).Perm ns := List.mergeSort_perm _ _
theorem srtI_up (ns : List Int) : (srtI ns).Pairwise (· ≤ ·) := by
  have := List.pairwise_mergeSort (le := fun a b : Int => decide (a ≤ b)) (fun a b c h1 h2 => by
    have := of_decide_eq_true h1
    have := of_decide_eq_true h2
    exact decide_eq_true (by omega)) (fun a b => by
    by_cases h : a ≤ b
    · simp [h]
    · simp [h]; omega) ns
  exact this.imp fun h => of_decide_eq_true h
theorem srtI_uniq {ns ns' : List Int} (h1 : ns'.Perm ns) (h2 : ns'.Pairwise (· ≤ ·)) : ns' = srtI ns :=
  List.Perm.eq_of_pairwise (fun a b _ _ x y => Int.le_antisymm x y) h2 (srtI_up ns) (h1.trans (srtI_perm ns).symm)
def gSortI : En → List P → Option (List PyData) := fun env ps => match ps with
  | [p] => ((sq env p).bind allI).map fun ns => (srtI ns).map .int
  | _ => none
theorem l_sortI {K : PySem.W.Frag} : FnL (rSortedI K) gSortI := by
  intro F H σ env Sl xs ps ds R h e Q q
  unfold gSortI at e
  split at e
  · rename_i p1
    cases h with
    | cons a t =>
      cases t
      cases h1 : sq env p1 with
      | none => rw [h1] at e; cases e
      | some ds0 =>
        cases h2 : allI ds0 with
        | none => simp only [h1, Option.bind_some, h2] at e; cases e
        | some ns =>
          simp only [h1, Option.bind_some, h2, Option.map_some] at e
          cases e
          obtain ⟨l, vs, rfl, hl, r⟩ := sq_of R a h1
          have e2 := allI_ok r h2
          refine ⟨l, ns, rfl, SqL.of (by rw [← e2]; exact hl), fun ns' p pm up np => ?_⟩
          rw [srtI_uniq pm up]
          exact q p _ (all_ints _) np
  · cases e
theorem sortedIK {X : Cx} {K : PySem.W.Frag} (h : X.K = K := by rfl) : CallR X (.builtin "sorted") (rSortedI K) := by subst h; exact cr_sortedI
end Tr
namespace Tr
open PySem PySem.Spec PyProof.Rows L2
/-! ### xs[i][j] = e, where xs holds lists of its own -/
theorem all_at {α β : Type} {R R' : α → β → Prop} : ∀ {l1 : List α} {l2 : List β}, All2 R l1 l2 → (∀ (i : Nat) a b, l2[i]? = some b → R a b → R' a b) → All2 R' l1 l2
  | _, _, .nil, _ => .nil
  | _, _, .cons r t, h => .cons (h 0 _ _ rfl r) (all_at t fun i a b e x => h (i + 1) a b (by rw [List.getElem?_cons_succ]; exact e) x)
theorem all_put {α β : Type} {R R' : α → β → Prop} : ∀ {l1 : List α} {l2 : List β}, All2 R l1 l2 → ∀ (n : Nat) (x : α) (y : β), l2[n]? = some y → R' x y → (∀ (i : Nat) a b, i ≠ n → l2[i]? = some b → R a b → R' a b) → All2 R' (l1.set n x) l2
  | _, _, .nil, _, _, _, h, _, _ => by simp at h
  | _, _, .cons _ t, 0, _, _, h, h2, h3 => by
    cases h
    exact .cons h2 (all_at t fun i a b e r => h3 (i + 1) a b (by omega) (by rw [List.getElem?_cons_succ]; exact e) r)
  | _, _, .cons r t, n + 1, x, y, h, h2, h3 => .cons (h3 0 _ _ (by omega) rfl r) (all_put t n x y (by rw [List.getElem?_cons_succ] at h; exact h) h2 fun i a b ne e r => h3 (i + 1) a b (by omega) (by rw [List.getElem?_cons_succ]; exact e) r)
theorem refs_inj : ∀ {xs ys : List Addr}, xs.map V.ref = ys.map V.ref → xs = ys
  | [], [], _ => rfl
  | [], _ :: _, h => by cases h
  | _ :: _, [], h => by cases h
  | x :: xs, y :: ys, h => by
    rw [List.map_cons, List.map_cons] at h
    have h1 := List.cons.inj h
    rw [V.ref.inj h1.1, refs_inj h1.2]
theorem REnv.held2 {F H : Hp} {σ : L2.St} {env : En} {Sl : Nat → Addr → Prop} {j : Nat} {rows : List (List PyData)} (R : REnv F H σ env Sl) (hj : env[j]? = some (some (.ow2 rows))) :
    ∃ a rs, σ[j]? = some (some (.ref a)) ∧ H a = some (.lst (rs.map V.ref)) ∧ a ∉ rs ∧ rs.Nodup ∧ Sl j a ∧ All2 (fun row r => Sl j r ∧ ∃ vs, H r = some (.lst vs) ∧ All2 (Rp F) row vs) rows rs := by
  obtain ⟨v, e1, a, rs, e2, sa, hH, n, nd, r⟩ := R.at_ j _ hj
  subst e2
  exact ⟨a, rs, e1, hH, n, nd, sa, r⟩
theorem REnv.write2 {F H : Hp} {σ : L2.St} {env : En} {Sl : Nat → Addr → Prop} {j n : Nat} {a r : Addr} {rows : List (List PyData)} {row' : List PyData} {rs : List Addr} {vs' : List V} (R : REnv F H σ env Sl) (hj : env[j]? = some (some (.ow2 rows)))
    (hv : σ[j]? = some (some (.ref a))) (hH : H a = some (.lst (rs.map V.ref))) (na : a ∉ rs) (nd : rs.Nodup) (sa : Sl j a) (all : All2 (fun row r => Sl j r ∧ ∃ vs, H r = some (.lst vs) ∧ All2 (Rp F) row vs) rows rs) (hn : rs[n]? = some r) (w : All2 (Rp F) row' vs') :
    Step F H Sl F (upd H r (.lst vs')) Sl ∧ REnv F (upd H r (.lst vs')) σ (env.set j (some (.ow2 (rows.set n row')))) Sl := by
  obtain ⟨row0, _, sr, vs0, hr0, _⟩ := all.getR hn
  have ar : a ≠ r := fun z => na (by rw [z]; exact List.mem_of_getElem? hn)
  have ns : ∀ i, i ≠ j → ¬ Sl i r := fun i n z => n (R.dj i j r z sr)
  have fr := (R.tr j r sr).1
  refine ⟨⟨Ex.refl F, fun b o h n => ?_, fun b o h => ?_, fun _ _ z => .inl z, fun _ _ z => .inl z⟩, ⟨fun b o h => ?_, by rw [List.length_set]; exact R.len, fun i o h => ?_, R.dj, fun i b z => ?_⟩⟩
  · rw [upd_ne (fun z => n j (by rw [z]; exact sr))]; exact h
  · by_cases z : b = r
    · subst z; exact ⟨_, upd_same⟩
    · exact ⟨o, by rw [upd_ne z]; exact h⟩
  · rw [upd_ne (fun z => by rw [z, fr] at h; cases h)]; exact R.ex b o h
  · rcases set_at h with ⟨rfl, e2, _⟩ | ⟨ne, h'⟩
    · cases e2
      refine ⟨_, hv, a, rs, rfl, sa, by rw [upd_ne ar]; exact hH, na, nd, all_put all n row' r hn ⟨sr, vs', upd_same, w⟩ fun k x y kn hy hx => ?_⟩
      obtain ⟨s1, vs, h1, h2⟩ := hx
      have yr : y ≠ r := fun z => kn ((List.getElem?_inj (List.getElem?_eq_some_iff.mp hy).1 nd).mp (by rw [hy, hn, z]))
      exact ⟨s1, vs, by rw [upd_ne yr]; exact h1, h2⟩
    · obtain ⟨v2, e2, w2⟩ := R.at_ i o h'
      exact ⟨v2, e2, w2.ext (Ex.refl F) fun b u s q => by rw [upd_ne (fun z => ns i ne (by rw [← z]; exact s))]; exact q⟩
  · obtain ⟨y1, u, y2⟩ := R.tr i b z
    refine ⟨y1, ?_⟩
    by_cases e : b = r
    · subst e; exact ⟨_, upd_same⟩
    · exact ⟨u, by rw [upd_ne e]; exact y2⟩
/-- xs[i][k] = e -/
def mSet2 (j : Nat) (mi mk me : ME) : MS := bnd me fun p e1 => match fzP e1 p with
  | some (d, e2) => match e2[j]? with
    | some (some (.ow2 rows)) => match mi e2 with
      | some (.val (.int x), _) => match ixN rows.length x with
        | some n => match mk e2 with
          | some (.val (.int y), _) => match rows[n]? with
            | some row => match ixN row.length y with
              | some m => some (.nx, e2.set j (some (.ow2 (rows.set n (row.set m d)))))
              | none => none
            | none => none
          | _ => none
        | none => none
      | _ => none
    | _ => none
  | none => none
theorem rs_set2 {K : PySem.W.Frag} {pn : Option Nat} {pu : Bool} {te ti tk : TE} {me mi mk : ME} {j : Nat} (h : RE pu te me) (hi : RE true ti mi) (hk : RE true tk mk) : RS pn (tAsg te (gSub (tOp (rIx K) (tVar j) ti) tk rSetL)) (mSet2 j mi mk me) := by
  intro F H σ env Sl R c env' e D q
  obtain ⟨p, e1, h1, h2⟩ := bnd_of e
  split at h2
  · rename_i d e2 h3
    split at h2
    · rename_i rows h0
      split at h2
      · rename_i x e3 h4
        split at h2
        · rename_i n h5
          split at h2
          · rename_i y e4 h6
            split at h2
            · rename_i row h7
              split at h2
              · rename_i m h8
                cases h2
                refine h F H σ env Sl R p _ h1 _ fun r F1 H1 Sl1 s1 pu1 R1 r1 => ?_
                obtain ⟨F2, Sl2, s2, R2, r2⟩ := fz_ok R1 r1 h3
                obtain ⟨a, rs, ha, hH, na, nd, sa, all⟩ := R2.held2 h0
                refine ⟨_, ha, ?_⟩
                refine hi F2 H1 σ e2 Sl2 R2 _ _ h4 _ fun r' F3 H3 Sl3 s3 pu3 R3 r3 => ?_
                obtain ⟨rfl, x3, rfl⟩ := pu3 rfl
                have hl : rows.length = rs.length := all.len
                obtain ⟨r0, hr0, sr0, vs, hv0, rr0⟩ := all.get h7
                have at0 : atI (rs.map V.ref) x = some (.ref r0) := by
                  unfold atI
                  rw [List.length_map, ← hl, h5]
                  show (rs.map V.ref)[n]? = _
                  rw [List.getElem?_map, hr0]
                  rfl
                refine .inl ⟨a, rs.map V.ref, x, .ref r0, rfl, pint r3, SqL.of (x3 _ _ hH), at0, ?_⟩
                refine hk F3 H3 σ e3 Sl3 R3 _ _ h6 _ fun r' F4 H4 Sl4 s4 pu4 R4 r4 => ?_
                obtain ⟨rfl, x4, rfl⟩ := pu4 rfl
                obtain ⟨a', rs', ha', hH', na', nd', sa', all'⟩ := R4.held2 h0
                rw [ha] at ha'
                cases ha'
                have hH4 := x4 _ _ (x3 _ _ hH)
                rw [hH4] at hH'
                have ers : rs = rs' := refs_inj (HO.lst.inj (Option.some.inj hH'))
                subst ers
                obtain ⟨r1', hr1, sr1, vs1, hv1, rr1⟩ := all'.get h7
                rw [hr0] at hr1
                cases hr1
                have w := rr1.set m (Rp.mono (s3.exF.trans s4.exF) r2)
                obtain ⟨s5, R5⟩ := R4.write2 h0 ha hH4 na nd sa' all' hr0 w
                refine ⟨r0, vs1, y, m, rfl, pint r4, hv1, by rw [← rr1.len]; exact h8, ?_⟩
                exact q _ _ σ _ (s1.trans (s2.trans (s3.trans (s4.trans s5)))) R5 fun _ _ => rfl
              · cases h2
            · cases h2
          · cases h2
        · cases h2
      · cases h2
    · cases h2
  · cases h2
/-! ### y = xs[i]; y.append(e), where xs holds lists of its own and y is not read again -/
theorem REnv.other {F H : Hp} {σ : L2.St} {env : En} {Sl : Nat → Addr → Prop} {i : Nat} (v : Option V) (R : REnv F H σ env Sl) : REnv F H (σ.set i v) (env.set i none) (lose Sl i) := by
  refine ⟨R.ex, by rw [List.length_set, List.length_set]; exact R.len, fun j u h => ?_, fun j k a x y => R.dj j k a x.2 y.2, fun j a x => R.tr j a x.2⟩
  rcases set_at h with ⟨rfl, e2, _⟩ | ⟨ne, h'⟩
  · cases e2
  · obtain ⟨v2, e2, w2⟩ := R.at_ j u h'
    refine ⟨v2, ?_, w2.sub fun a s => ⟨ne, s⟩⟩
    rw [List.getElem?_set_ne (Ne.symm ne)]
    exact e2
def mAlias (j l : Nat) (mi : ME) (ma : MA) (m : MS) : MS := fun env => match env[j]? with
  | some (some (.ow2 rows)) => match mi env with
    | some (.val (.int x), _) => match ixN rows.length x with
      | some n => match rows[n]? with
        | some row => match ma (env.set l none) with
          | some ([.val d], _) => if l < env.length ∧ row.length < sizeLine then m ((env.set l none).set j (some (.ow2 (rows.set n (row ++ [d]))))) else none
          | _ => none
        | none => none
      | none => none
    | _ => none
  | _ => none
theorem rs_alias {K : PySem.W.Frag} {pn : Option Nat} {ti : TE} {ta : TA} {mi : ME} {ma : MA} {t : TS} {m : MS} {j l : Nat} (hi : RE true ti mi) (ha : RA true ta ma) (h : RS pn t m) (hl : l ≠ j := by decide) (hp : pn ≠ some l := by decide) :
    RS pn (tSeq (tAsg (tOp (rIx K) (tVar j) ti) (gName l)) (tSeq (tDrop (tBM K "list" rAppend (tVar l) ta)) t)) (mAlias j l mi ma m) := by
  intro F H σ env Sl R c env' e D q
  unfold mAlias at e
  split at e
  · rename_i rows h0
    split at e
    · rename_i x e3 h4
      split at e
      · rename_i n h5
        split at e
        · rename_i row h7
          split at e
          · rename_i d e4 h6
            split at e
            · rename_i hs
              obtain ⟨a, rs, ea, hH, na, nd, sa, all⟩ := R.held2 h0
              refine ⟨_, ea, ?_⟩
              refine hi F H σ env Sl R _ _ h4 _ fun r' F3 H3 Sl3 s3 pu3 R3 r3 => ?_
              obtain ⟨rfl, x3, rfl⟩ := pu3 rfl
              have hl2 : rows.length = rs.length := all.len
              obtain ⟨r0, hr0, sr0, vs, hv0, rr0⟩ := all.get h7
              have at0 : atI (rs.map V.ref) x = some (.ref r0) := by
                unfold atI
                rw [List.length_map, ← hl2, h5]
                show (rs.map V.ref)[n]? = _
                rw [List.getElem?_map, hr0]
                rfl
              refine .inl ⟨a, rs.map V.ref, x, .ref r0, rfl, pint r3, SqL.of (x3 _ _ hH), at0, ?_⟩
              have R4 := R3.other (i := l) (some (V.ref r0))
              have ll : l < σ.length := by rw [R.len]; exact hs.1
              have s4 : Step F3 H3 Sl3 F3 H3 (lose Sl3 l) := ⟨Ex.refl _, fun _ _ h _ => h, fun _ _ h => ⟨_, h⟩, fun _ _ z => .inl z.2, fun _ _ h => .inl h⟩
              refine ⟨_, List.getElem?_set_self ll, ?_, ?_⟩
              · exact Or.inl ⟨rfl, vs, SqL.of (x3 _ _ hv0)⟩
              refine ha F3 H3 _ _ _ R4 _ _ h6 _ fun r5 F5 H5 Sl5 s5 pu5 R5 r5' => ?_
              obtain ⟨rfl, x5, rfl⟩ := pu5 rfl
              cases r5' with
              | cons y ty =>
                cases ty
                rename_i v
                have h0' := show (e3.set l none)[j]? = some (some (.ow2 rows)) from by rw [List.getElem?_set_ne hl]; exact h0
                obtain ⟨a', rs', ea', hH', na', nd', sa', all'⟩ := R5.held2 h0'
                rw [List.getElem?_set_ne hl, ea] at ea'
                cases ea'
                have hH5 := x5 _ _ (x3 _ _ hH)
                rw [hH5] at hH'
                have ers : rs = rs' := refs_inj (HO.lst.inj (Option.some.inj hH'))
                subst ers
                obtain ⟨r1', hr1, sr1, vs1, hv1, rr1⟩ := all'.get h7
                rw [hr0] at hr1
                cases hr1
                obtain ⟨s6, R6⟩ := R5.write2 h0' (by rw [List.getElem?_set_ne hl]; exact ea) hH5 na nd sa' all' hr0 (rr1.snoc (pr_val y))
                refine ⟨r0, vs1, v, rfl, rfl, hv1, by rw [← rr1.len]; exact hs.2, ?_⟩
                exact h _ _ _ _ _ R6 c env' e D (q.step (s3.trans (s4.trans (s5.trans s6))) fun i z => by rw [List.getElem?_set_ne (fun w => hp (by rw [z, w]))])
            · cases e
          · cases e
        · cases e
      · cases e
    · cases e
  · cases e
end Tr
/-! Defs that may raise an own exception with one field. -/
namespace Tr
open PySem PySem.Spec PyProof.Rows L2

/-! ### what a def gives: a thing, or an exception of the n-th class with the field d -/
inductive Xr where | ok (o : O) | ex (n : Nat) (d : PyData)
abbrev XF := List O → Option Xr
inductive Xc where | c (c : Ctl) | ex (n : Nat) (d : PyData)
abbrev MX := En → Option (Xc × En)
/-- classes: where they stand, and their field -/
abbrev Cl := Nat → Addr × Str
def XEnds (cl : Cl) (D : Ends) (W : WX) (F0 H0 : Hp) (Sl0 : Nat → Addr → Prop) (σ0 : L2.St) (c : Xc) (env' : En) : Prop := match c with
  | .c c => EndsAt none D F0 H0 Sl0 σ0 c env'
  | .ex n d => ∀ F' H' σ' Sl' dx v, Step F0 H0 Sl0 F' H' Sl' → Ex F' H' → Rp F' d v → F' dx = none → H0 dx = none → H' dx = some (.xd [((cl n).2, v)]) → W (.ref (cl n).1) (some dx) σ' H'
def RX (cl : Cl) (W : WX) (t : TS) (m : MX) : Prop := ∀ F H σ env Sl, REnv F H σ env Sl → ∀ c env', m env = some (c, env') → ∀ D : Ends, XEnds cl D W F H Sl σ c env' → t D σ H
section
variable {cl : Cl} {W : WX}
theorem XEnds.step {D : Ends} {F H F1 H1 : Hp} {Sl Sl1 : Nat → Addr → Prop} {σ σ1 : L2.St} {c : Xc} {env' : En} (h : XEnds cl D W F H Sl σ c env') (s : Step F H Sl F1 H1 Sl1) : XEnds cl D W F1 H1 Sl1 σ1 c env' := by
  cases c with
  | c c => exact EndsAt.step (pn := none) h s fun _ z => nomatch z
  | ex n d => exact fun F' H' σ' Sl' dx v s' e r f n0 hd => h F' H' σ' Sl' dx v (s.trans s') e r f (s.tkb n0) hd
def xLift (m : MS) : MX := fun env => (m env).map fun r => (.c r.1, r.2)
theorem rx_lift {t : TS} {m : MS} (h : RS none t m) : RX cl W t (xLift m) := by
  intro F H σ env Sl R c env' e D q
  unfold xLift at e
  cases h1 : m env with
  | none => rw [h1] at e; cases e
  | some r =>
    rw [h1] at e
    cases e
    exact h F H σ env Sl R r.1 r.2 h1 D q
def xSeq (m n : MX) : MX := fun env => match m env with
  | some (.c .nx, e) => n e
  | r => r
theorem rx_seq {t u : TS} {m n : MX} (h : RX cl W t m) (h' : RX cl W u n) : RX cl W (tSeq t u) (xSeq m n) := by
  intro F H σ env Sl R c env' e D q
  unfold xSeq at e
  split at e
  · rename_i e1 h1
    refine h F H σ env Sl R (.c .nx) e1 h1 _ fun F' H' σ' Sl' s R' p => ?_
    exact h' F' H' σ' e1 Sl' R' c env' e D (q.step s)
  · rename_i hn
    refine h F H σ env Sl R c env' e _ ?_
    cases c with
    | ex n d => exact q
    | c c =>
      cases c with
      | nx => exact absurd e (hn env')
      | bk => exact q
      | ct => exact q
      | rt o => exact q
theorem rx_if {pu : Bool} {tc : TT} {t u : TS} {mc : MT} {m n : MX} (h : RT pu tc mc) (h1 : RX cl W t m) (h2 : RX cl W u n) : RX cl W (tIfS tc t u) (mIf mc m n) := by
  intro F H σ env Sl R c env' e D q
  obtain ⟨b1, e1, x1, x2⟩ := bnd_of e
  refine h F H σ env Sl R b1 _ x1 _ fun r F1 H1 Sl1 s1 pu1 R1 r1 => ?_
  cases r1
  cases b1 with
  | true =>
    rw [if_pos rfl]
    exact h1 F1 H1 σ e1 Sl1 R1 c _ x2 D (q.step s1)
  | false =>
    rw [if_neg Bool.false_ne_true]
    exact h2 F1 H1 σ e1 Sl1 R1 c _ x2 D (q.step s1)
def xForGo (mg : PyData → En → Option En) (mb : MX) : List PyData → MX
  | [], env => some (.c .nx, env)
  | d :: ds, env => match mg d env with
    | some e1 => match mb e1 with
      | some (.c .nx, e2) => xForGo mg mb ds e2
      | some (.c .ct, e2) => xForGo mg mb ds e2
      | some (.c .bk, e2) => some (.c .nx, e2)
      | some (.c (.rt o), e2) => some (.c (.rt o), e2)
      | some (.ex n d, e2) => some (.ex n d, e2)
      | none => none
    | none => none
def xFor (mi : ML) (mg : PyData → En → Option En) (mb : MX) : MX := bnd mi fun ds e => xForGo mg mb ds e
theorem rx_for {wi : TI} {g : TG} {tb : TS} {is : List Nat} {mi : ML} {mg : PyData → En → Option En} {mb : MX} (hi : RI wi mi) (hg : RT' is g mg) (hb : RX cl W tb mb) : RX cl W (tFor wi g tb) (xFor mi mg mb) := by
  intro F H σ env Sl R c env' e D q
  obtain ⟨xs, e0, h1, h2⟩ := bnd_of e
  refine hi F H σ env Sl R xs _ h1 _ fun J F1 H1 Sl1 s1 R1 hJ => ?_
  have q1 := q.step (σ1 := σ) s1
  refine ⟨fun i m σi Hi => ∃ Fi Sli envi, i ≤ xs.length ∧ m = xs.length - i ∧ Ex F1 Fi ∧ REnv Fi Hi σi envi Sli ∧ XEnds cl D W Fi Hi Sli σi c env' ∧ xForGo mg mb (xs.drop i) envi = some (c, env'), ⟨xs.length, F1, Sl1, e0, Nat.zero_le _, by omega, Ex.refl F1, R1, q1, h2⟩, ?_⟩
  rintro i m σi Hi ⟨Fi, Sli, envi, hil, hm, exi, Ri, qi, go⟩
  cases hx : xs[i]? with
  | none =>
    have hge : xs.length ≤ i := List.getElem?_eq_none_iff.mp hx
    rw [List.drop_eq_nil_of_le hge] at go
    have go' : some (Xc.c Ctl.nx, envi) = some (c, env') := go
    cases go'
    exact .inl ⟨(hJ Fi Hi exi Ri.ex i).2 hx, qi Fi Hi σi Sli Step.refl Ri fun _ _ => rfl⟩
  | some d =>
    have hlt : i < xs.length := (List.getElem?_eq_some_iff.mp hx).1
    have hd : xs.drop i = d :: xs.drop (i + 1) := by
      rw [List.drop_eq_getElem_cons hlt]
      have := (List.getElem?_eq_some_iff.mp hx).2
      rw [this]
    rw [hd] at go
    unfold xForGo at go
    obtain ⟨jg, jy⟩ := (hJ Fi Hi exi Ri.ex i).1 d hx
    refine .inr ⟨jg, fun σ' H' => ∃ Fj Slj envj, i + 1 ≤ xs.length ∧ Ex F1 Fj ∧ REnv Fj H' σ' envj Slj ∧ XEnds cl D W Fj H' Slj σ' c env' ∧ xForGo mg mb (xs.drop (i + 1)) envj = some (c, env'), fun σ' H' ⟨Fj, Slj, envj, z1, z2, z3, z4, z5⟩ => ⟨xs.length - (i + 1), by omega, Fj, Slj, envj, z1, rfl, z2, z3, z4, z5⟩, fun x H' hy => ?_⟩
    obtain ⟨Fj, f1, f2, f3, f4, f5⟩ := jy x H' hy
    have Rj : REnv Fj H' σi envi Sli := Ri.grow f1 f2 f3 f4
    have qj := qi.step (σ1 := σi) (Step.grow (Sl := Sli) f1 f2 f4)
    cases hg1 : mg d envi with
    | none => rw [hg1] at go; cases go
    | some e1 =>
      rw [hg1] at go
      refine hg Fj H' σi envi Sli x d Rj f5 e1 hg1 _ fun σ2 Sl4 R4 k4 p4 l4 => ?_
      have q4 := qj.step (σ1 := σ2) (Step.fewer k4)
      cases hb1 : mb e1 with
      | none => simp only [hb1] at go; cases go
      | some ce =>
        obtain ⟨c1, e2⟩ := ce
        simp only [hb1] at go
        refine hb Fj H' σ2 e1 Sl4 R4 c1 e2 hb1 _ ?_
        cases c1 with
        | ex n d => cases go; exact q4
        | c c1 =>
          cases c1 with
          | nx => exact fun F' H'' σ' Sl' s' R' p' => ⟨F', Sl', e2, hlt, exi.trans (f1.trans s'.exF), R', q4.step s', go⟩
          | ct => exact fun F' H'' σ' Sl' s' R' p' => ⟨F', Sl', e2, hlt, exi.trans (f1.trans s'.exF), R', q4.step s', go⟩
          | bk => cases go; exact q4
          | rt o => cases go; exact q4

/-! ### raise X(e) -/
/-- X's own __init__: self.f = e -/
def spI (f : Str) (C : Addr) : Sp := fun vs H Q _ => ∃ a v, vs = [.ref a, v] ∧ H a = some (exo a C none) ∧ ∀ d, H d = none → Q .non (upd (upd H d (exd d [(f, v)])) a (exo a C (some d)))
def xRaise (n : Nat) (ma : MA) : MX := bnd ma fun ps e => match fzPs e ps with
  | some ([d], e2) => some (.ex n d, e2)
  | _ => none
theorem made_heap {H : Hp} {a d : Addr} {C : Addr} {f : Str} {v : V} {o : HO} (na : H a = none) (nd : d ≠ a) :
    upd (del (upd (upd (upd H a o) d (exd d [(f, v)])) a (exo a C (some d))) a) d (.xd [(f, v)]) = upd H d (.xd [(f, v)]) := by
  funext b
  by_cases hd : b = d
  · rw [hd, upd_same, upd_same]
  · rw [upd_ne hd, upd_ne hd]
    by_cases ha : b = a
    · rw [ha, del_same, na]
    · rw [del_ne ha, upd_ne ha, upd_ne hd, upd_ne ha]
theorem rx_raise {pu : Bool} {ta : TA} {ma : MA} {C : Addr} {f : Str} {n : Nat} (hcl : cl n = (C, f)) (h : RA pu ta ma) : RX cl W (fun _ σ H => tMkO C (spI f C) [] ta σ H fun cls d H' => W cls d σ H') (xRaise n ma) := by
  intro F H σ env Sl R c env' e D q
  obtain ⟨ps, e1, h1, h2⟩ := bnd_of e
  split at h2
  · rename_i d e2 h3
    cases h2
    refine h F H σ env Sl R ps _ h1 _ fun vs F1 H1 Sl1 s1 pu1 R1 r1 => ?_
    obtain ⟨F2, Sl2, s2, R2, r2⟩ := fzPs_ok R1 r1 h3
    cases r2 with
    | cons rv rn =>
      cases rn
      rename_i v
      refine ⟨by simp, fun a na => ⟨a, v, rfl, upd_same, fun dx hdx => ⟨rfl, dx, [(f, v)], upd_same, ?_, ?_, ?_⟩⟩⟩
      · have nd : dx ≠ a := fun z => by rw [z, upd_same] at hdx; cases hdx
        rw [upd_ne nd, upd_same]
      · have nd : dx ≠ a := fun z => by rw [z, upd_same] at hdx; cases hdx
        rw [upd_ne nd] at hdx
        exact hdx
      · have nd : dx ≠ a := fun z => by rw [z, upd_same] at hdx; cases hdx
        rw [upd_ne nd] at hdx
        rw [made_heap na nd]
        have fd : F2 dx = none := R2.ex.none hdx
        have s3 : Step F2 H1 Sl2 F2 (upd H1 dx (.xd [(f, v)])) Sl2 := Step.grow (Ex.refl F2) (fun b o z => by rw [upd_ne (ne_of_none z hdx)]; exact z) fun b o z => .inl z
        have q' := q F2 (upd H1 dx (.xd [(f, v)])) σ Sl2 dx v (s1.trans (s2.trans s3)) (R2.ex.trans (Ex.new hdx)) rv fd (s1.tkb hdx) (by rw [hcl]; exact upd_same)
        rw [hcl] at q'
        exact q'
  · cases h2
end
end Tr
namespace Tr
open PySem PySem.Spec PyProof.Rows L2
/-! ### defs that may raise -/
structure FnX (P : Program) (w : World) (K : PySem.W.Frag) (mg : Str → Option Value) (base : Heap) (k : Nat) (f : Addr) (fd : FuncData) (ps : List Str) (sp : Sp) : Prop where
  len : ∀ vs H Q E, sp vs H Q E → vs.length = ps.length
  go : ∀ (A : Around) (ou : List Env) (s : Shared) (H : Hp) (ar : Args) (us : List Value) (vs : List V) (Q : VK) (E : XK), Room k A → A.guards = some [] → Env0 P w K mg base A ou s H → BindsTo s fd ar (ps.zip us) → Vals vs us → sp vs H Q E →
    codeAny (model P w) A (.call (.ref f) ar) (CR (L2.CX P w) ou P w H s Q E) s
section
variable {P : Program} {w : World} {K : PySem.W.Frag} {mg : Str → Option Value} {base : Heap}
theorem FnX.mono {j k : Nat} {f : Addr} {fd : FuncData} {ps : List Str} {sp : Sp} (F : FnX P w K mg base j f fd ps sp) (h : j ≤ k) : FnX P w K mg base k f fd ps sp :=
  ⟨F.len, fun A ou s H ar us vs Q E r => F.go A ou s H ar us vs Q E (r.mono h)⟩
theorem okX {x qual : Str} {st : Stmt} {f : Addr} {fd : FuncData} {N ps : List Str} {k : Nat} {sp : Sp} (F : Fun K x qual st f fd) (S : FnScope N ps (defScope st)) (len : ∀ vs H Q E, sp vs H Q E → vs.length = ps.length)
    (body : ∀ (cdv : Value) (A : Around) (ou : List Env) (s : Shared) (H : Hp) (vs : List V) (Q : VK) (E : XK), Room k (A.deeper (envOfC qual (defScope st) s.heap.objs.size f cdv)) → A.guards = some [] → sp vs H Q E →
      ∃ t, PSs (cxOf (L2.CX P w) P w K mg base N qual (defScope st) f cdv A ou s H E) (defBody st) t ∧ t { nx := fun _ H' => Q .non H', rt := Q } (L2.start N vs) H) : FnX P w K mg base (k + 1) f fd ps sp := by
  obtain ⟨oc, od, kV, doc, pm, an, cdv, ct, osl, rfl, lk, hcd⟩ := F.ex
  constructor
  · exact len
  intro A ou s H ar us vs Q E room gu e0 bi rv want
  have hl := len vs H Q E want
  have here : ∀ b o, base.get? b = some o → s.heap.get? b = some o := fun b o z => (e0.bs b o z).1
  have inK : K.In s.heap := e0.mod.kin.keeps here
  have nol : s.heap.NoLimit := e0.mod.nolimit.keeps here
  have kinds : ∀ y ∈ ps.zip us, (defScope st).names.lookup y.1 = some .local ∨ ((defScope st).names.lookup y.1 = some .cell ∧ ((cellsFrom (s.heap.objs.size + 1) (defScope st).names []).lookup y.1).isSome = true) := by
    rintro ⟨nm, u⟩ hy
    cases S.par nm (List.of_mem_zip hy).1 with
    | inl z => exact .inl z
    | inr z => exact .inr ⟨z, PySem.W.cellsFrom_some _ _ _ (.inl z)⟩
  apply codeAny_call_function room.depth (inK _ _ lk) rfl S.co S.gen rfl (PySem.W.codeRec_of inK hcd)
  refine bi _ _ _ _ (wpAny_newFunctionEnv_cells S.kind kinds ?_)
  intro env eenv s1 made
  subst eenv
  refine ⟨nol.keeps made.toInCall.keep, ?_⟩
  apply codeAny_func
  obtain ⟨t, pt, qt⟩ := body cdv A ou s H vs Q E (room.deeper _) gu want
  have inv0 : Inv (cxOf (L2.CX P w) P w K mg base N qual (defScope st) f cdv A ou s H E) [] (L2.start N vs) H s1 := inv_start S room.hd e0 hl rv made
  have done : ∀ {σ1 : L2.St} {H1 : Hp} {v : V} {u : Value} {s2 : Shared}, Inv (cxOf (L2.CX P w) P w K mg base N qual (defScope st) f cdv A ou s H E) [] σ1 H1 s2 → RelV v u → Q v H1 → CE ou P w H s Q u s2 := by
    intro σ1 H1 v u s2 J r q
    exact ⟨v, H1, J.os, J.bare, J.base, J.hok, r, q⟩
  refine wpAny_mono (PSs.run pt [] s1 (L2.start N vs) H _ inv0 qt) ?_ fun e s2 z => z
  intro fl s2 z
  match fl, z with
  | .ret u, ⟨v, σ1, H1, J, r, q⟩ => exact done J r q
  | .next, ⟨σ1, H1, J, q⟩ => exact done (v := V.non) (u := Value.none) J rfl q
  | .brk, ⟨_, _, _, q⟩ => exact False.elim q
  | .cont, ⟨_, _, _, q⟩ => exact False.elim q
end
section
variable {X : Cx} {k : Nat} {f : Addr} {fd : FuncData} {ps : List Str} {sp : Sp} {x : Str} {p pos : Pos} {e : Expr} {es : List Expr} {t : TA} {E : L2.St → XK}
theorem pe_callX (F : FnX X.prog X.w X.K X.mg X.base k f fd ps sp) (room : Room k X.A) (gu : X.A.guards = some []) (hg : Gl X x) (hm : X.mg x = some (.ref f)) (hk : PySem.W.keepIn X.K (.ref f) = true) (hb : Binds X.K fd ps [])
    (hx : ∀ σ, PassesAt (L2.CX X.prog X.w) X σ (E σ))
    (ha : PA X (e :: es) t) (nd : (x == ("__debug__" : Str)) = false := by decide) (st : starEach (e :: es) X.env = (false, eval e X.env) :: starEach es X.env := by rfl) (pl : (backTo pos (starEach es X.env)).any (·.1) = false := by rfl) :
    PE X (.Call (.Name x p) (e :: es) [] pos) (tCallS sp E t) := by
  constructor
  intro pins s σ H Q I h
  apply wpAny_Call_Name_kw
  refine ld_glob I hg hm ?_ nd
  refine PySem.W.callWith_K (h₀ := X.base) I.ok.mod.kin hk (thn (ha.run pos pins s σ H _ I h) ?_) st pl
  rintro us s1 ⟨vs, H1, I1, rv, q⟩
  have hl : us.length = ps.length := by rw [← rv.length]; exact F.len _ _ _ _ q
  have b := hb s1 us I1.kIn (by rw [List.append_nil]; exact hl)
  rw [List.append_nil] at b
  refine ⟨I1.kIn, wpAny_call (codeAny_mono (F.go X.A X.stack s1 H1 _ us vs Q (E σ) room gu I1.env0 b rv q) ?_)⟩
  intro r s' z
  match r, z with
  | .ok (.ret _), z => exact I1.after z
  | .ok .next, z => exact z.elim
  | .ok .brk, z => exact z.elim
  | .ok .cont, z => exact z.elim
  | .error e, z => exact hx σ pins H1 s1 e s' I1 z
end

def spX (cl : Cl) (xf : XF) : Sp := fun vs H Q E => ∃ (F : Hp) (os : List O) (Sl : Nat → Addr → Prop) (r : Xr), REnv F H (vs.map some) (os.map some) Sl ∧ (∀ (k : Nat) (b : Addr), ¬ Sl k b) ∧ (∀ (k : Nat) (o : O), os[k]? = some o → plainO o = true) ∧ xf os = some r ∧
  match r with
  | .ok o => ∀ v F' H' Sl' T, Step F H Sl F' H' Sl' → REnv F' H' (vs.map some) (os.map some) Sl' → (∀ k b, ¬ Sl' k b) → New F' H H' Sl' o v T → Q v H'
  | .ex n d => ∀ F' H' dx v, Step F H Sl F' H' (fun _ _ => False) → Ex F' H' → Rp F' d v → F' dx = none → H dx = none → H' dx = some (.xd [((cl n).2, v)]) → E (.ref (cl n).1) (some dx) H'
def xDef (n np : Nat) (m : MX) : XF := fun os => if os.length = np then match m (os.map some ++ List.replicate (n - os.length) none) with
  | some (.c (.rt r), _) => some (.ok r)
  | some (.c .nx, _) => some (.ok (.fz .none))
  | some (.ex n d, _) => some (.ex n d)
  | _ => none else none
theorem byX_len {cl : Cl} {n np : Nat} {m : MX} {vs : List V} {H : Hp} {Q : VK} {E : XK} (h : spX cl (xDef n np m) vs H Q E) : vs.length = np := by
  obtain ⟨F, os, Sl, r, R, _, _, hm, _⟩ := h
  have hl := R.len
  rw [List.length_map, List.length_map] at hl
  unfold xDef at hm
  split at hm
  · rename_i hn
    rw [hl, hn]
  · cases hm
theorem def_okX {cl : Cl} {t : TS} {m : MX} {N : List Str} {vs : List V} {H : Hp} {Q : VK} {E : XK} (h : RX cl (fun cls d _ H => E cls d H) t m) {np : Nat} (hsp : spX cl (xDef N.length np m) vs H Q E) : t { nx := fun _ H' => Q .non H', rt := Q } (L2.start N vs) H := by
  obtain ⟨F, os, Sl, r, R, hs, pl, hm, q⟩ := hsp
  have hs' : ∀ k b, Sl k b → (none : Option Nat) = some k := fun k b z => (hs k b z).elim
  have pl' : ∀ k o, os[k]? = some o → (none : Option Nat) ≠ some k → plainO o = true := fun k o z _ => pl k o z
  unfold xDef at hm
  split at hm
  case isFalse => cases hm
  split at hm
  · rename_i o env' h1
    cases hm
    refine h F H _ _ Sl R.enter (.c (.rt o)) env' h1 _ fun v F' H' σ' Sl' T s R' p w dj tr nw => ?_
    obtain ⟨_, Sl'', s'', R'', hs'', k⟩ := leave (N := N) (pn := none) (r' := o) (r := o) R pl' hs' s R' (fun i z => nomatch z) rfl
    refine q v F' H' Sl'' T s'' R'' (fun k b z => nomatch hs'' k b z) ⟨w, fun i a x y => dj i a x (k i a y), tr, fun a z => ?_⟩
    rcases nw a z with y | ⟨i, hi, y⟩
    · exact y
    · exact (hs i a y).elim
  · rename_i env' h1
    cases hm
    refine h F H _ _ Sl R.enter (.c .nx) env' h1 _ fun F' H' σ' Sl' s R' p => ?_
    obtain ⟨_, Sl'', s'', R'', hs'', k⟩ := leave (N := N) (pn := none) (r' := O.fz .none) (r := O.fz .none) R pl' hs' s R' (fun i z => nomatch z) rfl
    exact q .non F' H' Sl'' (fun _ => False) s'' R'' (fun k b z => nomatch hs'' k b z) ⟨rfl, fun _ _ z => z.elim, fun _ z => z.elim, fun _ z => z.elim⟩
  · rename_i n d env' h1
    cases hm
    refine h F H _ _ Sl R.enter (.ex n d) env' h1 _ fun F' H' σ' Sl' dx v s e rv fd hd0 hd => ?_
    exact q F' H' dx v (s.trans (Step.fewer fun _ _ z => z.elim)) e rv fd hd0 hd
  · cases hm
/-- f(..) as a statement -/
def xCall (xf : XF) (ma : MA) : MX := bnd ma fun ps e => match prepA none ps e with
  | some (os, e2) => match xf os with
    | some (.ok _) => some (.c .nx, e2)
    | some (.ex n d) => some (.ex n d, e2)
    | none => none
  | none => none
/-- what a call of such a def leaves for its caller -/
theorem callX_any {cl : Cl} {pu : Bool} {ta : TA} {ma : MA} {xf : XF} {F H : Hp} {σ : L2.St} {env : En} {Sl : Nat → Addr → Prop} {ps : List P} {e1 e2 : En} {os : List O} {r : Xr} (h : RA pu ta ma) (R : REnv F H σ env Sl) (h1 : ma env = some (ps, e1)) (h3 : prepA none ps e1 = some (os, e2)) (h4 : xf os = some r)
    {Q : VK} {E : L2.St → XK}
    (ok : ∀ o, r = .ok o → ∀ v F' H' Sl' T, Step F H Sl F' H' Sl' → REnv F' H' σ e2 Sl' → New F' H H' Sl' o v T → Q v H')
    (ex : ∀ n d, r = .ex n d → ∀ F' H' Sl' dx v, Step F H Sl F' H' Sl' → REnv F' H' σ e2 Sl' → Rp F' d v → F' dx = none → H dx = none → H' dx = some (.xd [((cl n).2, v)]) → E σ (.ref (cl n).1) (some dx) H') : tCallS (spX cl xf) E ta σ H Q := by
  refine h F H σ env Sl R ps _ h1 _ fun vs F1 H1 Sl1 s1 pu1 R1 r1 => ?_
  obtain ⟨F2, Sl2, s2, R2, l2, r2⟩ := prepA_ok R1 r1 h3
  refine ⟨F2, os, fun _ _ => False, r, ⟨R2.ex, by rw [List.length_map, List.length_map, l2], fun i u hu => ?_, fun _ _ _ z => z.elim, fun _ _ z => z.elim⟩, fun _ _ z => z, fun k u hu => ?_, h4, ?_⟩
  · have hi := args_at hu
    have hv : i < vs.length := by rw [← l2]; exact (List.getElem?_eq_some_iff.mp hi).1
    obtain ⟨rp, rr⟩ := r2 i u vs[i] hi (List.getElem?_eq_getElem hv) (fun z => nomatch z)
    exact ⟨vs[i], by rw [List.getElem?_map, List.getElem?_eq_getElem hv]; rfl, rr _ _⟩
  · have hv : k < vs.length := by rw [← l2]; exact (List.getElem?_eq_some_iff.mp hu).1
    obtain ⟨rp, rr⟩ := r2 k u vs[k] hu (List.getElem?_eq_getElem hv) (fun z => nomatch z)
    exact rp
  · cases r with
    | ok o =>
      intro v F3 H3 Sl3 T s3 R3 hs3 n3
      have s4 : Step F2 H1 Sl2 F3 H3 Sl2 := Step.grow s3.exF (fun b u z => s3.fr b u z fun _ y => y) fun b u z => (s3.fz b u z).elim .inl fun y => y.elim .inr fun ⟨_, w⟩ => w.elim
      have R4 : REnv F3 H3 σ e2 Sl2 := R2.grow s3.exF (fun b u z => s3.fr b u z fun _ y => y) R3.ex fun b u z => (s3.fz b u z).elim .inl fun y => y.elim .inr fun ⟨_, w⟩ => w.elim
      refine ok o rfl v F3 H3 Sl2 T (s1.trans (s2.trans s4)) R4 ⟨n3.own, fun i a x y => ?_, n3.tr, fun a x => s1.tkb (s2.tkb (n3.nw a x))⟩
      obtain ⟨_, u, z⟩ := R2.tr i a y
      rw [n3.nw a x] at z
      cases z
    | ex n d =>
      intro F3 H3 dx v s3 e3 rv fd hd0 hd
      have s4 : Step F2 H1 Sl2 F3 H3 Sl2 := Step.grow s3.exF (fun b u z => s3.fr b u z fun _ y => y) fun b u z => (s3.fz b u z).elim .inl fun y => y.elim .inr fun ⟨_, w⟩ => w.elim
      have R4 : REnv F3 H3 σ e2 Sl2 := R2.grow s3.exF (fun b u z => s3.fr b u z fun _ y => y) e3 fun b u z => (s3.fz b u z).elim .inl fun y => y.elim .inr fun ⟨_, w⟩ => w.elim
      exact ex n d rfl F3 H3 Sl2 dx v (s1.trans (s2.trans s4)) R4 rv fd (s1.tkb (s2.tkb hd0)) hd
theorem rx_call {cl : Cl} {W : WX} {pu : Bool} {ta : TA} {ma : MA} {xf : XF} (h : RA pu ta ma) : RX cl W (tDrop (tCallS (spX cl xf) (WE W) ta)) (xCall xf ma) := by
  intro F H σ env Sl R c env' e D q
  obtain ⟨ps, e1, h1, h2⟩ := bnd_of e
  split at h2
  · rename_i os e2 h3
    split at h2
    · rename_i o h4
      cases h2
      exact callX_any h R h1 h3 h4 (fun o' eo v F' H' Sl' T s R' n => q F' H' σ Sl' s R' fun _ _ => rfl) fun n d z => nomatch z
    · rename_i n d h4
      cases h2
      refine callX_any h R h1 h3 h4 (fun o z => nomatch z) fun n' d' z F' H' Sl' dx v s R' rv fd hd0 hd => ?_
      cases z
      exact q F' H' σ Sl' dx v s R'.ex rv fd hd0 hd
    · cases h2
  · cases h2
end Tr
namespace Tr
open PySem PySem.Spec PyProof.Rows L2
/-! ### an exception that is kept behind its except suite -/
def ExK (a : Addr) (cls : Value) (d : Option Addr) : HO := .ext fun h => ∃ (oe : Obj) (vs : Array Value), h.get? a = some oe ∧ Zc cls d oe ∧ oe.data = .fields vs
theorem exK_ok {P : Program} {w : World} {H : Hp} {h : Heap} {a : Addr} {cls : Value} {d : Option Addr} {oe : Obj} {vs : Array Value} (e : h.get? a = some oe) (z : Zc cls d oe) (q : oe.data = .fields vs) : ObjOk P w H h a (ExK a cls d) :=
  ⟨⟨oe, vs, e, z, q⟩, ⟨oe, e⟩, fun _ _ ⟨o, v, x, r⟩ k => ⟨o, v, k o x, r⟩⟩
section
variable {X : Cx} {pins : List (Addr × Obj)} {σ : L2.St} {H : Hp} {s : Shared}
theorem Inv.track {a : Addr} {oe : Obj} {vs : Array Value} {cls : Value} {d : Option Addr} (I : Inv X pins σ H s) (ha : s.heap.get? a = some oe) (hz : Zc cls d oe) (hd : oe.data = .fields vs) (na : H a = none) (n0 : X.s_0.heap.get? a = none) (nL : a ≠ X.env.locals)
    (nc : ∀ x c, X.env.cells.lookup x = some c → c ≠ a) (np : ∀ p ∈ X.pn ++ pins, p.1 ≠ a) : Inv X pins σ (upd H a (ExK a cls d)) s := by
  have old : ∀ b o, X.s_0.heap.get? b = some o → b ≠ a := fun b o e z => by rw [z, n0] at e; cases e
  have neT : ∀ {b : Addr} {o : HO}, H b = some o → b ≠ a := fun {b o} e z => by rw [z, na] at e; cases e
  refine ⟨I.ok, I.os, I.bare, ⟨I.base.keep, I.base.slot, fun b o e n hx => ?_, I.base.there, fun b xs e => ?_, fun b o u e => ?_, fun b ps e => ?_⟩, I.loc, I.cell, ?_, fun x c e => ?_, fun p hp => ?_, fun b u e => ?_, I.len⟩
  · rw [upd_ne (old b o e)]; exact I.base.free b o e n hx
  · have q := I.base.tups b xs e
    rw [upd_ne (neT q)]; exact q
  · have q := I.base.frzs b o u e
    rw [upd_ne (neT q)]; exact q
  · obtain ⟨m, q⟩ := I.base.tbls b ps e
    exact ⟨m, by rw [upd_ne (neT q)]; exact q⟩
  · rw [upd_ne (Ne.symm nL)]; exact I.free
  · rw [upd_ne (nc x c e)]; exact I.freeC x c e
  · obtain ⟨e, n, r⟩ := I.pin p hp
    exact ⟨e, by rw [upd_ne (np p hp)]; exact n, r⟩
  · by_cases hb : b = a
    · subst hb
      rw [upd_same] at e
      cases e
      exact exK_ok ha hz hd
    · rw [upd_ne hb] at e
      exact (I.hok b u e).stay (fun c v _ q => q) (fun c q => by rw [upd_ne (neT q)]; exact q) fun c xs q => by rw [upd_ne (neT q)]; exact q
end
/-- what the clause wishes; behind it the exception may be spoken of -/
def wKp (K : PySem.W.Frag) (c : Value) (i : Nat) (ts : Addr → Value → Option Addr → TS) (Wout : WX) (D : Ends) : WX := fun cls d σ H =>
  ∃ b, PySem.W.exmOne K cls c = some b ∧ (b = true → ∀ a, H a = none → ts a cls d { nx := fun σ' H' => H' a = none → D.nx (σ'.set i none) (upd H' a (ExK a cls d)), rt := fun _ _ => False, bk := fun _ _ => False, ct := fun _ _ => False } (σ.set i (some (.ref a))) H) ∧
    (b = false → Wout cls d σ H)
section
variable {X : Cx} {x n : Str} {c : Value} {i : Nat} {body suite : List Stmt} {b₀ : Stmt} {np pos pos' : Pos} {tb : WX → TS} {ts : Addr → Value → Option Addr → TS} {Wout : WX}
theorem ps_try_keep (hs : X.stack = X.env :: X.outer) (hf : X.env.frame = some X.env.locals) (hex : X.ex = []) (hN : X.N.Nodup) (hi : X.N[i]? = some n) (hln : X.env.kindOf n = some .local) (hc : Names X x c) (tk : Takes X Wout)
    (hb : ∀ (W : WX) (pn : List (Addr × Obj)) (xe : Value → Shared → Prop), Takes (X.tr pn xe) W → PassesOwn (model X.prog X.w) X.A X.env xe → PSs (X.tr pn xe) body (tb W))
    (hsu : ∀ (a : Addr) (oe : Obj) (cls : Value) (d : Option Addr) (pn : List (Addr × Obj)), Zc cls d oe → (∃ vs, oe.data = .fields vs) → PSs (X.suite a ((a, oe) :: pn)) (b₀ :: suite) (ts a cls d)) :
    PS X (.Try body [.ExceptHandler (some (.Name x np)) (some n) (b₀ :: suite) pos'] [] [] pos) (fun D σ H => tb (wKp X.K c i ts Wout D) D σ H) := by
  refine ⟨fun pins s σ H D I h => ?_⟩
  have ok := I.ok
  have hfr : X.A.frames = some (X.env :: X.outer) := by rw [ok.frames, hs]
  have hloc : Loc X.env.scope n := .inl hln
  refine wpAny_Try_except ?_
  refine wpAny_mono ((hb (wKp X.K c i ts Wout D) (X.pn ++ pins) (fun e s₁ => wpAny (model X.prog X.w) X.A (noteFrame e X.env) (fun _ s₂ => wpAny (model X.prog X.w) X.A (setFlight e none) (fun _ s₃ =>
    wpAny (model X.prog X.w) X.A (handleBy e X.env [.ExceptHandler (some (.Name x np)) (some n) (b₀ :: suite) pos']) (SP X pins D) X.xe s₃) X.xe s₂) X.xe s₁) (fun u s' xx => ?_) PassesOwn.looking).run [] s σ H D (I.toTry _) h) (fun f s1 hsp => ?_) (fun e s1 he => he)
  · -- the catch
    obtain ⟨a, B, sI, pins', σ', H', cls, d, rfl, J', nb, up, sky, na, os, ag, b, hb1, hyes, hno⟩ := xx
    have J : Inv X pins σ' H' sI := J'.ofTry ok
    have sky' : Sky B (X.env :: X.outer) a (Zc cls d) X.env.locals s'.heap := by rw [← hs]; exact sky
    show wpAny (model X.prog X.w) X.A (noteFrame (.ref a) X.env) _ _ _
    refine Sky.land Zc.steady hfr hf sky' fun h3 fl3 up3 => ?_
    have J3 : Inv X pins σ' H' { s' with heap := h3 } := J.landed nb fl3.1 (up.trans up3) os ag
    obtain ⟨oe3, vs3, he3, hz3, hd3⟩ := fl3.there
    have notFr : ∀ {h : Heap} {o : Obj} {vs : Array Value}, h.FunFrames B (X.env :: X.outer) → h.get? a = some o → o.data = .fields vs → a ∉ frs (X.env :: X.outer) := fun {h o vs} ff e dd hm => by
      obtain ⟨_, o', e', hnf⟩ := ff.mem hm
      rw [e] at e'; cases e'
      exact hnf _ dd
    have nfr := notFr fl3.2.2.1 he3 hd3
    have nL : a ≠ X.env.locals := fun z => nfr (List.mem_filterMap.mpr ⟨X.env, List.mem_cons_self, by rw [hf, z]⟩)
    have nF : a ∉ X.fs := fun hm => by
      obtain ⟨e, he, q⟩ := List.mem_filterMap.mp hm
      exact nfr (List.mem_filterMap.mpr ⟨e, List.mem_cons_of_mem _ he, q⟩)
    have nB : B.get? a = none := fl3.2.1
    have nI : sI.heap.get? a = none := by
      cases e : sI.heap.get? a with
      | none => rfl
      | some o =>
        have z := nb a o e (by rw [hs]; exact nfr)
        rw [nB] at z
        cases z
    have n0 : X.s_0.heap.get? a = none := by
      cases e : X.s_0.heap.get? a with
      | none => rfl
      | some o =>
        obtain ⟨o', z⟩ := J.base.there a o e (by rw [hex]; exact fun z => nomatch z)
        rw [nI] at z
        cases z
    have nc : ∀ y c, X.env.cells.lookup y = some c → c ≠ a := fun y c e z => by
      obtain ⟨v, o, q, _⟩ := J.cell y c e
      rw [z, nI] at q
      cases q
    have npn : ∀ p ∈ X.pn ++ pins, p.1 ≠ a := fun p hp z => by
      have q := (J.pin p hp).1
      rw [z, nI] at q
      cases q
    have S3 := J3.suite he3 hd3 na nL nF
    refine wpAny_handleBy_cons (codeAny_handlers_test ?_) (by intro q; cases q)
    have LT : PySem.W.Looks (model X.prog X.w) h3 (typeOf (.ref a)) cls := fun A Q E s k q => wpAny_typeOf_ref (k _ _ he3) (by rw [hz3.1]; exact q)
    have LM := PySem.W.exm_one (M := model X.prog X.w) (J3.kIn) LT hb1
    have test : ∀ {Q : Value → Shared → Prop} {E : Value → Shared → Prop}, Q c { s' with heap := h3 } → wpAny (model X.prog X.w) (X.A.mark (some (.ref a))) (eval (.Name x np) X.env) Q E { s' with heap := h3 } := fun {Q E} q => by
      obtain ⟨hg, hdbg, hm | ⟨hm, hv, hnn⟩⟩ := hc
      · exact ld_glob (X := X.suite a ((a, oe3) :: (X.pn ++ pins))) S3 hg hm q hdbg
      · exact ld_blt (X := X.suite a ((a, oe3) :: (X.pn ++ pins))) S3 hg hm hv q hnn hdbg
    refine test (LM.here ?_)
    cases b with
    | true =>
      refine codeAny_handlers_suite_as ?_
      refine HandSPX.lands_againZ fl3 fun h4 fl4 up4 => ?_
      have J4 : Inv X pins σ' H' { s' with heap := h4 } := J.landed nb fl4.1 ((up.trans up3).trans up4) os ag
      obtain ⟨oe4, vs4, he4, hz4, hd4⟩ := fl4.there
      have S4 := J4.suite he4 hd4 na nL nF
      refine store_ok (X := X.suite a ((a, oe4) :: (X.pn ++ pins))) (v := .ref a) S4 hN hi hloc rfl (fun s5 S5 => ?_) (.inr hln)
      refine wpAny_mono ((hsu a oe4 cls d (X.pn ++ pins) hz4 ⟨_, hd4⟩).run [] s5 _ H' _ S5 (hyes rfl a na)) (fun f s6 hsp => ?_) (fun _ _ z => False.elim z)
      cases f with
      | next =>
        obtain ⟨σ6, H6, S6, q6⟩ := hsp
        obtain ⟨ha6, na6, _⟩ := S6.pin (a, oe4) (List.mem_append_left _ List.mem_cons_self)
        exact gone_ok (Inv.track (S6.unsuite ok) ha6 hz4 hd4 na6 n0 nL nc npn) hN hi hln fun s7 J7 => ⟨_, _, J7, q6 na6⟩
      | brk =>
        obtain ⟨σ6, H6, S6, q6⟩ := hsp
        exact q6.elim
      | cont =>
        obtain ⟨σ6, H6, S6, q6⟩ := hsp
        exact q6.elim
      | ret u =>
        obtain ⟨v6, σ6, H6, S6, r6, q6⟩ := hsp
        exact q6.elim
    | false =>
      show wpAny _ X.A (handleBy (.ref a) X.env []) _ _ _
      refine wpAny_handleBy_nil ?_
      obtain ⟨k1, k2, k3, oe, vs, T, oT, ts', he, hz, hd, h1, hr⟩ := id fl3
      unfold PySem.passOn
      refine wpAny_bind (wpAny_field he hd h1 ?_)
      rw [if_neg (show ¬ ((Value.ref T == Value.none) = true) from by simp)]
      have fin : wpAny (model X.prog X.w) X.A (setFlight (.ref a) X.env.frame) (fun _ s4 => wpAny (model X.prog X.w) X.A (throw (.ref a) : Sem Flow) (SP X pins D) X.xe s4) X.xe { s' with heap := h3 } := by
        rw [hf]
        refine HandSPX.setFlight_upZ fl3 fun h4 hh4 up4 => wpAny_throw (tk _ _ ?_)
        exact ⟨a, B, sI, pins, σ', H', cls, d, rfl, J, nb, (up.trans up3).trans up4, .inr (.inr (by rw [hs]; exact hh4)), na, os, ag, hno rfl⟩
      first
        | exact wpAny_bind (wpAny_pure (wpAny_bind fin))
        | exact wpAny_bind fin
  · cases f with
    | next =>
      obtain ⟨σ', H', J', q⟩ := hsp
      exact wpAny_execs_nil ⟨σ', H', J'.ofTry ok, q⟩
    | brk =>
      obtain ⟨σ', H', J', q⟩ := hsp
      exact ⟨σ', H', J'.ofTry ok, q⟩
    | cont =>
      obtain ⟨σ', H', J', q⟩ := hsp
      exact ⟨σ', H', J'.ofTry ok, q⟩
    | ret u =>
      obtain ⟨v, σ', H', J', r, q⟩ := hsp
      exact ⟨v, σ', H', J'.ofTry ok, r, q⟩
end
/-! ### kept.f; isinstance(kept, T) -/
/-- what the written part says of the class -/
structure KcC (K : PySem.W.Frag) (C : Addr) (f : Str) : Prop where
  ga : PySem.W.findIn K (.ref C) "__getattribute__" = some (some (.builtin "BaseException.__getattribute__"))
  gg : PySem.W.findIn K (.ref C) "__getattr__" = some none
  exC : PySem.W.subIn K (.ref C) (.type "BaseException") = some true
  hdC : PySem.W.hasDictIn K C = true
  noF : PySem.W.findIn K (.ref C) f = some none
  clC : (PySem.W.clsIn K C).isSome = true
  ca : PySem.W.findIn K (.ref C) "__class__" = some (some (.builtin "object.__class__"))
  cn : PySem.W.specialIn K (.builtin "object.__class__") "__get__" = some (some (.builtin "getset_descriptor.__get__"))
  ct : PySem.W.takesIn K (.builtin "object.__class__") = some true
  cm : PySem.W.mroIn K C (.type "object") = some true
def tKf (K : PySem.W.Frag) (f : Str) (te : TE) : TE := fun σ H Q => te σ H fun x H1 => ∃ a C d v, x = .ref a ∧ H1 a = some (ExK a (.ref C) (some d)) ∧ H1 d = some (.xd [(f, v)]) ∧ KcC K C f ∧ Q v H1
theorem kept_at {P : Program} {w : World} {H : Hp} {h : Heap} {a C d : Addr} {f : Str} {v : V} (hok : HOk P w H h) (ea : H a = some (ExK a (.ref C) (some d))) (ed : H d = some (.xd [(f, v)])) : ∃ (oe : Obj) (od : Obj) (u : Value), PySem.W.InstAt h a oe C (some od) ∧ RelV v u ∧ PySem.W.lookIn f od = some (some u) := by
  obtain ⟨⟨oe, vs, e, z, q⟩, _⟩ := hok a _ ea
  obtain ⟨mA, hns, hr⟩ := hok d _ ed
  obtain ⟨od, ho, hl⟩ := lookIn_ns hns
  have l : List.lookup f [(f, v)] = some v := by simp [List.lookup]
  obtain ⟨u, hu, ru⟩ := RelO.some_of (v := v) (o := mA f) (by rw [← l]; exact hr f)
  exact ⟨oe, od, u, ⟨e, z.1, by unfold PySem.W.notCls; rw [q] <;> rfl, by rw [z.2]; exact ho⟩, ru, by rw [hl, hu]⟩
theorem pe_kf {X : Cx} {e : Expr} {te : TE} {pos : Pos} {f : Str} (he : PE X e te) (hb : attributeBase e f X.env (eval e X.env) = eval e X.env := by rfl) : PE X (.Attribute e f pos) (tKf X.K f te) := by
  refine ⟨fun pins s σ H Q I h => ?_⟩
  refine attr_of hb (thn (he.run pins s σ H _ I h) fun u s1 hh => ?_)
  obtain ⟨x, H1, I1, rx, a, C, d, v, ex, ea, ed, T, q⟩ := hh
  subst ex
  obtain rfl : u = Value.ref a := rx
  obtain ⟨oe, od, u, J, ru, hl⟩ := kept_at I1.hok ea ed
  exact HandSPX.exc_get I1.kIn J T.ga T.gg T.exC (PySem.W.findObj_own T.hdC T.noF rfl hl) (handed_of ru) ⟨v, H1, I1.tok _, ru, q⟩
/-- isinstance(kept, T) -/
def rIsK (K : PySem.W.Frag) : List V → Hp → VK → Prop := fun xs H Q => ∃ (a C d : Addr) (f : Str) (v c : V) (cv : Value) (b : Bool), xs = [.ref a, c] ∧ H a = some (ExK a (.ref C) (some d)) ∧ H d = some (.xd [(f, v)]) ∧ KcC K C f ∧ ClsV c cv ∧ PySem.W.kitOne K (.ref C) cv = some b ∧ Q (.bl b) H
theorem call_isK {X : Cx} : CallR X (.builtin "isinstance") (rIsK X.K) := by
  intro pins s σ H xs us Q I r h
  obtain ⟨a, C, d, f, v, c, cv, b, rfl, ea, ed, T, k, e, q⟩ := h
  obtain ⟨u1, u2, rfl, r1, r2⟩ := vals2 r
  have e2 := k.eq r2
  subst e2
  cases (show u1 = Value.ref a from r1)
  obtain ⟨oe, od, u, J, ru, hl⟩ := kept_at I.hok ea ed
  exact PySem.W.kia_one (PySem.W.kitx_exc (gt := none) T.clC T.ga T.gg T.exC T.ca T.cn T.ct T.cm) I.kIn J e (fun z => nomatch z) fun tk => ⟨.bl b, H, I.tok tk, rfl, q⟩
end Tr
namespace Tr
open PySem PySem.Spec PyProof.Rows L2
/-- try: f(..) except X as error: kept = error; return told if kept is None or not isinstance(kept, T) else repr(kept.f): i error's place, j kept's -/
def mTryRet (i j n : Nat) (told : Str) (xf : XF) (ma : MA) : MS := bnd ma fun ps e => match prepA none ps e with
  | some (os, e2) => match e2[j]? with
    | some (some (.fz .none)) => match xf os with
      | some (.ok _) => some (.rt (.fz (.str told)), e2)
      | some (.ex m d) => if m = n ∧ i ≠ j ∧ i < e2.length ∧ isTup d = false ∧ reprOk d = true ∧ deepD d ≤ 60 ∧ (reprD d).length ≤ sizeLine then some (.rt (.fz (.str (reprD d))), (e2.set i none).set j none) else none
      | none => none
    | _ => none
  | none => none
def tKeep (K : PySem.W.Frag) (cl : Cl) (c : Value) (i j : Nat) (xf : XF) (ta : TA) : TS := fun D σ H => tDrop (tCallS (spX cl xf) (WE (wKp K c i (fun _ _ _ => tAsg (tVar i) (gName j)) (fun _ _ _ _ => False) D)) ta) D σ H
def tTold (K : PySem.W.Frag) (j : Nat) (f told : Str) (T : String) : TS := tRet (tIf (tOr (tTest (tOp (fun x y H Q => y = .non ∧ Q (.bl (decide (x = .non))) H) (tVar j) (tC .non))) (tNot (tB (tCB (rIsK K) (tCons (tVar j) (tCons (tC (.ty T)) tNil)))))) (tC (.str told)) (tCB rRepr (tCons (tKf K f (tVar j)) tNil)))
theorem rs_tryRet {K : PySem.W.Frag} {cl : Cl} {C : Addr} {f told : Str} {T : String} {i j n : Nat} {pu : Bool} {ta : TA} {ma : MA} {xf : XF} (h : RA pu ta ma) (hcl : cl n = (C, f)) (kc : KcC K C f) (ex : PySem.W.exmOne K (.ref C) (.ref C) = some true) (hk : PySem.W.kitOne K (.ref C) (.type T) = some true) :
    RS none (tSeq (tKeep K cl (.ref C) i j xf ta) (tTold K j f told T)) (mTryRet i j n told xf ma) := by
  intro F H σ env Sl R c env' e D q
  obtain ⟨ps, e1, h1, h2⟩ := bnd_of e
  split at h2
  · rename_i os e2 h3
    split at h2
    · rename_i h5
      split at h2
      · rename_i o h4
        cases h2
        refine callX_any h R h1 h3 h4 (fun o' eo v F' H' Sl' T s R' nn => ?_) fun n d z => nomatch z
        obtain ⟨w, hw, rw'⟩ := R'.at_ j _ h5
        cases (show w = .non from rw')
        refine ⟨.non, hw, rfl, true, rfl, ?_⟩
        exact q (.str told) F' H' σ Sl' (fun _ => False) s R' (fun _ _ => rfl) rfl (fun _ _ z => z.elim) (fun _ z => z.elim) fun _ z => z.elim
      · rename_i m d h4
        split at h2
        · rename_i hh
          obtain ⟨rfl, hij, hil, nt, ok, dp, sz⟩ := hh
          cases h2
          refine callX_any h R h1 h3 h4 (fun o z => nomatch z) fun n' d' z F' H' Sl' dx v s R' rv fd hd0 hd => ?_
          cases z
          rw [hcl] at hd ⊢
          refine ⟨true, ex, fun _ a na => ?_, fun z => nomatch z⟩
          have hjl : j < e2.length := (List.getElem?_eq_some_iff.mp h5).1
          have hl : σ.length = e2.length := R'.len
          refine ⟨.ref a, List.getElem?_set_self (by rw [hl]; exact hil), fun na2 => ?_⟩
          have hdxa : dx ≠ a := fun z => by rw [z, na] at hd; cases hd
          have hj : (((σ.set i (some (.ref a))).set j (some (.ref a))).set i none)[j]? = some (some (.ref a)) := by
            rw [List.getElem?_set_ne hij, List.getElem?_set_self (by rw [List.length_set, hl]; exact hjl)]
          have hd3 : (upd H' a (ExK a (.ref C) (some dx))) dx = some (.xd [(f, v)]) := by rw [upd_ne hdxa]; exact hd
          refine ⟨.ref a, hj, rfl, false, rfl, ?_⟩
          refine ⟨.ref a, hj, a, C, dx, f, v, .ty T, .type T, true, rfl, upd_same, hd3, kc, .ty T, hk, ?_⟩
          refine ⟨true, rfl, ?_⟩
          refine ⟨.ref a, hj, a, C, dx, v, rfl, upd_same, hd3, kc, ?_⟩
          have exn : Ex H' (upd H' a (ExK a (.ref C) (some dx))) := Ex.new na
          refine ⟨v, d, rfl, Rp.mono (R'.ex.trans exn) rv, nt, ok, dp, sz, ?_⟩
          have s2 : Step F' H' Sl' F' (upd H' a (ExK a (.ref C) (some dx))) Sl' := Step.grow (Ex.refl F') (fun b o z => exn b o z) fun b o z => .inl z
          refine q (.str (reprD d)) F' _ (((σ.set i (some (.ref a))).set j (some (.ref a))).set i none) Sl' (fun _ => False) (s.trans s2) ⟨R'.ex.trans exn, by simp [hl], fun k o hk => ?_, R'.dj, fun k b z => ?_⟩ (fun _ z => nomatch z) rfl (fun _ _ z => z.elim) (fun _ z => z.elim) fun _ z => z.elim
          · rcases set_at' hk with ⟨nk, hk2⟩
            rcases set_at' hk2 with ⟨nk2, hk3⟩
            obtain ⟨v2, e2', w2⟩ := R'.at_ k o hk3
            refine ⟨v2, ?_, w2.ext (Ex.refl F') fun b u _ y => exn b u y⟩
            rw [List.getElem?_set_ne (Ne.symm nk2), List.getElem?_set_ne (Ne.symm nk), List.getElem?_set_ne (Ne.symm nk2)]
            exact e2'
          · obtain ⟨y1, u, y2⟩ := R'.tr k b z
            exact ⟨y1, u, exn b u y2⟩
        · cases h2
      · cases h2
    · cases h2
  · cases h2
where
  set_at' {env : En} {j k : Nat} {o : O} (h : (env.set j none)[k]? = some (some o)) : k ≠ j ∧ env[k]? = some (some o) := by
    by_cases e : k = j
    · subst e
      by_cases hl : k < env.length
      · rw [List.getElem?_set_self hl] at h; cases h
      · rw [List.getElem?_eq_none (by simpa using hl)] at h; cases h
    · exact ⟨e, by rw [List.getElem?_set_ne (Ne.symm e)] at h; exact h⟩
end Tr
namespace Tr
open PySem PySem.Spec PyProof.Rows L2
/-! ### {} -/
def mDict : ME := fun env => some (.val (.dict []), env)
theorem re_dict : RE false tDNewK mDict := by
  intro F H σ env Sl R p env' e Q q
  cases e
  intro a na
  have fa := R.ex.none na
  have x : Ex F (upd F a (.dK [])) := Ex.new fa
  have y : Ex H (upd H a (.dK [])) := Ex.new na
  have z : Ex (upd F a (.dK [])) (upd H a (.dK [])) := fun b o h => by
    by_cases e : b = a
    · subst e; rw [upd_same] at h ⊢; exact h
    · rw [upd_ne e] at h ⊢; exact R.ex _ _ h
  have w : ∀ b o, upd F a (.dK []) b = some o → F b = some o ∨ H b = none := fun b o h => by
    by_cases e : b = a
    · subst e; exact .inr na
    · rw [upd_ne e] at h; exact .inl h
  exact q _ _ _ Sl (Step.grow x y w) (fun z => nomatch z) (R.grow x y z w) ⟨rfl, a, rfl, upd_same⟩
/-! ### tuple(xs), str(n) -/
theorem tupleK {X : Cx} {K : PySem.W.Frag} (h : X.K = K := by rfl) : CallR X (.type "tuple") (fun xs H Q => ∃ p ys, xs = [.ref p] ∧ ((SqL K H p ys ∧ ∀ l, H l = none → Q (.ref l) (upd H l (.tup ys))) ∨ (SqT K H p ys ∧ Q (.ref p) H))) := by subst h; exact call_tuple_of
def gTupleOf : En → List P → Option P := fun env ps => match ps with
  | [p] => (sq env p).map fun ds => .val (.tuple ds)
  | _ => none
theorem f_tuple {K : PySem.W.Frag} : FnK (fun xs H Q => ∃ p ys, xs = [.ref p] ∧ ((SqL K H p ys ∧ ∀ l, H l = none → Q (.ref l) (upd H l (.tup ys))) ∨ (SqT K H p ys ∧ Q (.ref p) H))) gTupleOf := by
  intro F H σ env Sl xs ps p R h e Q q
  unfold gTupleOf at e
  split at e
  · rename_i p1
    cases h with
    | cons a t =>
      cases t
      cases h1 : sq env p1 with
      | none => rw [h1] at e; cases e
      | some ds =>
        rw [h1] at e
        cases e
        obtain ⟨b, vs, rfl, hl, r⟩ := sq_of R a h1
        refine ⟨b, vs, rfl, .inl ⟨SqL.of hl, fun l nl => ?_⟩⟩
        obtain ⟨x, y, z, w, rr⟩ := new_tup R.ex nl r
        exact q _ _ _ x y z w rr
  · cases e
def gStrI : En → List P → Option P := fun env ps => match ps with
  | [.val (.int i)] => if i.natAbs.log2 < 1920 then some (.val (.str (toString i))) else none
  | _ => none
theorem f_strI : FnK (fun xs H Q => ∃ i : Int, xs = [.int i] ∧ i.natAbs.log2 < 1920 ∧ Q (.str (toString i)) H) gStrI := by
  intro F H σ env Sl xs ps p R h e Q q
  unfold gStrI at e
  split at e
  · rename_i i
    split at e
    · rename_i hb
      cases e
      cases h with
      | cons a t =>
        cases t
        exact ⟨i, by rw [show _ = V.int i from a], hb, q _ F H (Ex.refl F) (Ex.refl H) R.ex (fun _ _ z => .inl z) rfl⟩
    · cases e
  · cases e
/-! ### [a, b] == [c, d] of names, none of which is fixed by it -/
def vws (env : En) : List Nat → Option (List PyData)
  | [] => some []
  | i :: is => match vw env (.var i), vws env is with
    | some d, some ds => some (d :: ds)
    | _, _ => none
def tVars : List Nat → TA
  | [] => tNil
  | i :: is => tCons (tVar i) (tVars is)
theorem vws_ok {F H : Hp} {σ : L2.St} {env : En} {Sl : Nat → Addr → Prop} (R : REnv F H σ env Sl) : ∀ {is : List Nat} {ds : List PyData} {Q : List V → Hp → Prop}, vws env is = some ds → (∀ vs, All2 (Rp H) ds vs → Q vs H) → tVars is σ H Q
  | [], ds, Q, e, q => by
    cases e
    exact q [] .nil
  | i :: is, ds, Q, e, q => by
    unfold vws at e
    split at e
    · rename_i d ds' h1 h2
      cases e
      have hv : ∃ v, σ[i]? = some (some v) := by
        simp only [vw] at h1
        split at h1
        · rename_i o he; obtain ⟨v, a, _⟩ := R.at_ i _ he; exact ⟨v, a⟩
        · rename_i o he; obtain ⟨v, a, _⟩ := R.at_ i _ he; exact ⟨v, a⟩
        · rename_i o he; obtain ⟨v, a, _⟩ := R.at_ i _ he; exact ⟨v, a⟩
        · cases h1
      obtain ⟨v, hv⟩ := hv
      refine ⟨v, hv, vws_ok R h2 fun vs r => q (v :: vs) (.cons (vw_rp (p := .var i) R hv h1) r)⟩
    · cases e
def mCmpV (neg : Bool) (is js : List Nat) : ME := fun env => match vws env is, vws env js with
  | some ds, some es => if SeqAt.shaped (.list ds) && SeqAt.shaped (.list es) && decide (is.length ≤ 1000) && decide (js.length ≤ 1000) then some (.val (.bool (neg ^^ PyData.eqv (.list ds) (.list es))), env) else none
  | _, _ => none
theorem tVars_len {is : List Nat} {σ : L2.St} {H : Hp} {Q : List V → Hp → Prop} (h : tVars is σ H Q) : tVars is σ H fun vs H' => vs.length = is.length ∧ Q vs H' := by
  induction is generalizing Q with
  | nil => exact ⟨rfl, h⟩
  | cons i is ih =>
    obtain ⟨v, hv, h⟩ := h
    refine ⟨v, hv, ?_⟩
    have := ih h
    exact tVars_mono this fun vs H' ⟨l, q⟩ => ⟨by simp [l], q⟩
where
  tVars_mono : ∀ {is : List Nat} {σ : L2.St} {H : Hp} {Q Q' : List V → Hp → Prop}, tVars is σ H Q → (∀ vs H', Q vs H' → Q' vs H') → tVars is σ H Q'
    | [], _, _, _, _, h, k => k _ _ h
    | i :: is, σ, H, Q, Q', ⟨v, hv, h⟩, k => ⟨v, hv, tVars_mono (is := is) h fun vs H' q => k _ _ q⟩
theorem cmpV_ok {K : PySem.W.Frag} {neg : Bool} {r : R2} (hr : ∀ x y H Q, (∃ d e, Dp K H x d ∧ Dp K H y e ∧ SeqAt.shaped d = true ∧ SeqAt.shaped e = true ∧ Q (.bl (neg ^^ PyData.eqv d e)) H) → r x y H Q) {is js : List Nat} :
    RE false (tOp r (tLst (tVars is)) (tLst (tVars js))) (mCmpV neg is js) := by
  intro F H σ env Sl R p env' e Q q
  unfold mCmpV at e
  split at e
  · rename_i ds es h1 h2
    split at e
    · rename_i hh
      simp only [Bool.and_eq_true, decide_eq_true_eq] at hh
      obtain ⟨⟨⟨s1, s2⟩, l1⟩, l2⟩ := hh
      cases e
      refine tVars_len.tVars_mono (tVars_len (vws_ok R h1 (Q := fun vs H' => All2 (Rp H) ds vs ∧ H' = H) fun vs r => ⟨r, rfl⟩)) ?_
      rintro vs H1 ⟨hl1, r1, rfl⟩
      refine ⟨by rw [hl1, sizeLine_eq]; omega, fun a na => ?_⟩
      have ya : Ex H1 (upd H1 a (.lst vs)) := Ex.new na
      have R1 : REnv F (upd H1 a (.lst vs)) σ env Sl := R.grow (Ex.refl F) ya (R.ex.trans ya) fun b o z => .inl z
      refine tVars_len.tVars_mono (tVars_len (vws_ok R1 h2 (Q := fun vs' H' => All2 (Rp (upd H1 a (.lst vs))) es vs' ∧ H' = upd H1 a (.lst vs)) fun vs r => ⟨r, rfl⟩)) ?_
      rintro ws H2 ⟨hl2, r2, rfl⟩
      refine ⟨by rw [hl2, sizeLine_eq]; omega, fun b nb => ?_⟩
      have yb : Ex (upd H1 a (.lst vs)) (upd (upd H1 a (.lst vs)) b (.lst ws)) := Ex.new nb
      have c1 := SeqAt.canLay_of_shaped s1
      have c2 := SeqAt.canLay_of_shaped s2
      refine hr _ _ _ _ ⟨.list ds, .list es, ?_, ?_, s1, s2, ?_⟩
      · exact Rp.dp (Ex.refl _) (rp_list.mpr ⟨a, vs, rfl, yb _ _ upd_same, all_mono (ya.trans yb) r1⟩) c1
      · exact Rp.dp (Ex.refl _) (rp_list.mpr ⟨b, ws, rfl, upd_same, all_mono yb r2⟩) c2
      · exact q _ F _ Sl (Step.grow (Ex.refl F) (ya.trans yb) fun b o z => .inl z) (fun z => nomatch z) (R.grow (Ex.refl F) (ya.trans yb) (R.ex.trans (ya.trans yb)) fun b o z => .inl z) rfl
    · cases e
  · cases e
theorem re_eqV {K : PySem.W.Frag} (is js : List Nat) : RE false (tOp (rEqD K) (tLst (tVars is)) (tLst (tVars js))) (mCmpV false is js) :=
  cmpV_ok fun x y H Q ⟨d, e, h1, h2, h3, h4, h5⟩ => ⟨d, e, h1, h2, h3, h4, by rw [Bool.false_xor] at h5; exact h5⟩
theorem re_neV {K : PySem.W.Frag} (is js : List Nat) : RE false (tOp (rNeD K) (tLst (tVars is)) (tLst (tVars js))) (mCmpV true is js) :=
  cmpV_ok fun x y H Q ⟨d, e, h1, h2, h3, h4, h5⟩ => ⟨d, e, h1, h2, h3, h4, by rw [Bool.true_xor] at h5; exact h5⟩
/-! ### a, b = e, e' where both hold what is new -/
def mAsg2 (i j : Nat) (m n : MO) : MS := bnd m fun o e => bnd n (fun o' e2 => if i ≠ j then some (.nx, (e2.set i (some o)).set j (some o')) else none) e
theorem rs_asg2 {pn : Option Nat} {te te' : TE} {m n : MO} {i j : Nat} (h : RO te m) (h' : RO te' n) (hp : pn ≠ some i := by decide) (hp' : pn ≠ some j := by decide) :
    RS pn (tPar i j (tCons te (tCons te' tNil))) (mAsg2 i j m n) := by
  intro F H σ env Sl R c env' e D q
  obtain ⟨o, e1, h1, h2⟩ := bnd_of e
  obtain ⟨o', e2, h3, h4⟩ := bnd_of h2
  split at h4
  · rename_i hij
    cases h4
    refine h F H σ env Sl R o _ h1 _ fun v F1 H1 Sl1 T s1 R1 n1 => ?_
    refine h' F1 H1 σ e1 Sl1 R1 o' _ h3 _ fun v' F2 H2 Sl2 T' s2 R2 n2 => ?_
    have y : Ex H2 H2 := Ex.refl H2
    -- what v holds stands as it did
    have keep : ∀ a u, T a → H1 a = some u → H2 a = some u := fun a u t z => s2.fr a u z fun k => n1.dj k a t
    have w1 : Own F2 H2 o v T := n1.own.ext s2.exF keep
    have t1 : ∀ a, T a → F2 a = none ∧ ∃ u, H2 a = some u := fun a t => by
      obtain ⟨x, u, z⟩ := n1.tr a t
      refine ⟨?_, u, keep a u t z⟩
      cases w : F2 a with
      | none => rfl
      | some u' =>
        rcases s2.fz a u' w with q | q | ⟨k, q⟩
        · rw [x] at q; cases q
        · rw [z] at q; cases q
        · exact (n1.dj k a t q).elim
    have d1 : ∀ k a, T a → ¬ Sl2 k a := fun k a t z => by
      rcases s2.own k a z with q | q
      · exact n1.dj k a t q
      · obtain ⟨_, u, w⟩ := n1.tr a t
        rw [q] at w; cases w
    have d2 : ∀ a, T a → ¬ T' a := fun a t z => by
      have q := n2.nw a z
      obtain ⟨_, u, w⟩ := n1.tr a t
      rw [q] at w; cases w
    have R3 : REnv F2 H2 σ e2 Sl2 := R2.grow (Ex.refl F2) y (R2.ex.trans y) fun b o z => .inl z
    have R4 := R3.put (i := i) (w1.ext (Ex.refl F2) fun a u _ z => y a u z) (fun k a x z => (d1 k a x z).elim) fun a t => ⟨(t1 a t).1, let ⟨u, z⟩ := (t1 a t).2; ⟨u, y a u z⟩⟩
    have R5 := R4.put (i := j) (n2.own.ext (Ex.refl F2) fun a u _ z => y a u z) (fun k a x z => by
      rcases z with ⟨_, z⟩ | ⟨_, z⟩
      · exact (n2.dj k a x z).elim
      · exact (d2 a z x).elim) fun a t => ⟨(n2.tr a t).1, let ⟨u, z⟩ := (n2.tr a t).2; ⟨u, y a u z⟩⟩
    refine ⟨v, v', rfl, ?_⟩
    refine q _ _ _ _ ?_ R5 fun k z => pin_set k ?_ |>.trans (pin_set k ?_)
    · have s3 : Step F2 H2 Sl2 F2 H2 Sl2 := Step.grow (Ex.refl F2) y fun b o z => .inl z
      have s := s1.trans (s2.trans s3)
      exact ⟨s.exF, s.fr, s.tk, fun k b z => by
        rcases z with ⟨_, z⟩ | ⟨_, z⟩
        · rcases z with ⟨_, z⟩ | ⟨_, z⟩
          · exact s.own k b z
          · exact .inr (n1.nw b z)
        · exact .inr (s1.tkb (n2.nw b z)), s.fz⟩
    · simp; intro y; exact hp' (z.trans (by rw [y]))
    · simp; intro y; exact hp (z.trans (by rw [y]))
  · cases h4
end Tr
namespace Tr
open PySem PySem.Spec PyProof.Rows L2
theorem isKK {X : Cx} {K : PySem.W.Frag} (h : X.K = K := by rfl) : CallR X (.builtin "isinstance") (rIsK K) := by subst h; exact call_isK
theorem kfK {X : Cx} {K : PySem.W.Frag} {e : Expr} {te : TE} {pos : Pos} {f : Str} (he : PE X e te) (h : X.K = K := by rfl) (hb : attributeBase e f X.env (eval e X.env) = eval e X.env := by rfl) : PE X (.Attribute e f pos) (tKf K f te) := by subst h; exact pe_kf he hb
theorem kit_ve {K : PySem.W.Frag} {C : Addr} (h : PySem.W.subIn K (.ref C) (.type "ValueError") = some true) : PySem.W.kitOne K (.ref C) (.type "ValueError") = some true := by
  have e : PySem.W.kitMeta "ValueError" = true := by decide +kernel
  have e2 : (Value.ref C == Value.type "ValueError") = false := by
    rw [beq_eq_false_iff_ne]
    intro z
    cases z
  show (if (Value.ref C == Value.type "ValueError") = true then some true else (if PySem.W.kitMeta "ValueError" = true then PySem.W.subIn K (.ref C) (.type "ValueError") else none)) = some true
  rw [e2, if_neg Bool.false_ne_true, if_pos e]
  exact h
/-- what the body of an own __init__ asks -/
theorem init_read {K : PySem.W.Frag} {C : Addr} {f m : Str} {N : List Str} {vs : List V} {H : Hp} {Q : VK} {E : XK} (hN : N.length = 2) (T : OexC K C) (hno : PySem.W.findIn K (.ref C) f = some none) (h : spI f C vs H Q E) :
    tSeq (tDrop (tVeI K (tCons (tVar 0) (tCons (tC (.str m)) tNil)))) (tOst K f (tVar 0) (tVar 1)) { nx := fun _ H' => Q .non H', rt := Q } (L2.start N vs) H := by
  obtain ⟨a, v, rfl, ha, q⟩ := h
  have s0 : (L2.start N [V.ref a, v])[0]? = some (some (.ref a)) := start_of rfl
  have s1 : (L2.start N [V.ref a, v])[1]? = some (some v) := start_of rfl
  refine ⟨.ref a, s0, a, C, [.str m], rfl, by simp, T, ha, ?_⟩
  refine ⟨v, s1, .ref a, s0, a, C, rfl, T, hno, .inl ⟨ha, fun dx hdx hne => ?_⟩⟩
  exact q dx hdx
end Tr
namespace Tr
open PySem PySem.Spec PyProof.Rows L2
/-! ### a comprehension over two -/
/-- the list at p is being made -/
structure Acc (p : Addr) (F1 H1 : Hp) (Sl1 : Nat → Addr → Prop) (F H : Hp) (Sl : Nat → Addr → Prop) (σ : L2.St) (env : En) (acc : List PyData) (ys : List V) : Prop where
  R : REnv F H σ env Sl
  st : Step F1 H1 Sl1 F H Sl
  ra : All2 (Rp F) acc ys
  fp : F p = none
  nsp : ∀ i, ¬ Sl i p
  hp : H p = some (.lst ys)
theorem Acc.more {p : Addr} {F1 H1 F H F' H' : Hp} {Sl1 Sl Sl' : Nat → Addr → Prop} {σ σ' : L2.St} {env env' : En} {acc : List PyData} {ys : List V} (A : Acc p F1 H1 Sl1 F H Sl σ env acc ys) (s : Step F H Sl F' H' Sl') (R' : REnv F' H' σ' env' Sl') : Acc p F1 H1 Sl1 F' H' Sl' σ' env' acc ys := by
  refine ⟨R', A.st.trans s, all_mono s.exF A.ra, ?_, fun i z => ?_, s.fr _ _ A.hp A.nsp⟩
  · cases z : F' p with
    | none => rfl
    | some o =>
      rcases s.fz p o z with y | y | ⟨j, y⟩
      · rw [A.fp] at y; cases y
      · rw [A.hp] at y; cases y
      · exact absurd y (A.nsp j)
  · rcases s.own i p z with y | y
    · exact A.nsp i y
    · rw [A.hp] at y; cases y
theorem lc_inner {g : TG} {tt : TT} {te : TE} {vs is : List Nat} {mg : PyData → En → Option En} {mt : MT} {me : ME} {pt pe : Bool} (hg : RT' is g mg) (ht : RT pt tt mt) (he : RE pe te me) (hs : ∀ i ∈ is, i ∈ vs)
    {J : It} {xs : List PyData} {p : Addr} {F1 H1 F4 H4 : Hp} {Sl1 Sl4 : Nat → Addr → Prop} {σ : L2.St} {env4 env' : En} {acc4 ds : List PyData} {ys4 : List V} (np : H1 p = none) (hJ : ItOk J F4 xs) (A4 : Acc p F1 H1 Sl1 F4 H4 Sl4 (wipe σ vs) env4 acc4 ys4) (go4 : mLcGo mg mt me vs xs acc4 env4 = some (ds, env'))
    {Nx : Hp → Prop} (fin : ∀ F H Sl ys, Acc p F1 H1 Sl1 F H Sl (wipe σ vs) env' ds ys → Nx H) :
    ∃ W : Nat → Nat → Hp → Prop, (∃ m, W 0 m H4) ∧ ∀ j k H, W j k H → (J.stop j H ∧ Nx H) ∨ (J.go j H ∧ ∃ Nx1 : Hp → Prop, (∀ H', Nx1 H' → ∃ k', k' < k ∧ W (j + 1) k' H') ∧ ∀ x H', J.yld j H x H' → g x (wipe σ vs) H' fun σ3 H5 => wipe σ3 vs = wipe σ vs ∧ tt σ3 H5 fun b H6 =>
      if b = true then te σ3 H6 fun y H7 => ∃ acc, H7 p = some (.lst acc) ∧ acc.length < sizeLine ∧ Nx1 (upd H7 p (.lst (acc ++ [y]))) else Nx1 H6) := by
  refine ⟨fun i m Hi => ∃ Fi Sli envi acc ys, i ≤ xs.length ∧ m = xs.length - i ∧ Ex F4 Fi ∧ Acc p F1 H1 Sl1 Fi Hi Sli (wipe σ vs) envi acc ys ∧ mLcGo mg mt me vs (xs.drop i) acc envi = some (ds, env'), ⟨xs.length, F4, Sl4, env4, acc4, ys4, Nat.zero_le _, by omega, Ex.refl F4, A4, go4⟩, ?_⟩
  rintro i m Hi ⟨Fi, Sli, envi, acc, ys, hil, hm, exi, Ai, go⟩
  cases hx : xs[i]? with
  | none =>
    have hge : xs.length ≤ i := List.getElem?_eq_none_iff.mp hx
    rw [List.drop_eq_nil_of_le hge] at go
    have go' : some (acc, envi) = some (ds, env') := go
    cases go'
    exact .inl ⟨(hJ Fi Hi exi Ai.R.ex i).2 hx, fin Fi Hi Sli ys Ai⟩
  | some d =>
    have hlt : i < xs.length := (List.getElem?_eq_some_iff.mp hx).1
    have hd : xs.drop i = d :: xs.drop (i + 1) := by
      rw [List.drop_eq_getElem_cons hlt]
      have := (List.getElem?_eq_some_iff.mp hx).2
      rw [this]
    rw [hd] at go
    unfold mLcGo at go
    obtain ⟨jg, jy⟩ := (hJ Fi Hi exi Ai.R.ex i).1 d hx
    refine .inr ⟨jg, fun H' => ∃ Fi Sli envi acc ys, i + 1 ≤ xs.length ∧ Ex F4 Fi ∧ Acc p F1 H1 Sl1 Fi H' Sli (wipe σ vs) envi acc ys ∧ mLcGo mg mt me vs (xs.drop (i + 1)) acc envi = some (ds, env'), fun H' ⟨Fj, Slj, envj, accj, ysj, z1, z2, z3, z4⟩ => ⟨xs.length - (i + 1), by omega, Fj, Slj, envj, accj, ysj, z1, rfl, z2, z3, z4⟩, fun x H' hy => ?_⟩
    obtain ⟨Fj, f1, f2, f3, f4, f5⟩ := jy x H' hy
    have Aj : Acc p F1 H1 Sl1 Fj H' Sli (wipe σ vs) envi acc ys := Ai.more (Step.grow f1 f2 f4) (Ai.R.grow f1 f2 f3 f4)
    cases hg1 : mg d envi with
    | none => rw [hg1] at go; cases go
    | some e1 =>
      rw [hg1] at go
      refine hg Fj H' (wipe σ vs) envi Sli x d Aj.R f5 e1 hg1 _ fun σ2 Sl4 R4 k4 p4 l4 => ?_
      have hl4 : σ2.length = σ.length := by rw [l4, wipe_length]
      have weq : wipe σ2 vs = wipe σ vs := wipe_eq p4 hl4 hs
      refine ⟨weq, ?_⟩
      have A4 := Aj.more (Step.fewer k4) R4
      cases ht1 : mt e1 with
      | none => simp only [ht1] at go; cases go
      | some tb =>
        obtain ⟨b, e2⟩ := tb
        simp only [ht1] at go
        refine ht Fj H' σ2 e1 Sl4 R4 b e2 ht1 _ fun b' F5 H5 Sl5 s5 pu5 R5 rb => ?_
        cases rb
        have A5 := A4.more s5 R5
        cases b with
        | false =>
          rw [if_neg Bool.false_ne_true]
          obtain ⟨Sl6, R6, k6⟩ := step_wiped (σ := σ) (vs := vs) R5 weq
          exact ⟨F5, Sl6, _, acc, ys, hlt, exi.trans (f1.trans s5.exF), A5.more (Step.fewer k6) R6, go⟩
        | true =>
          rw [if_pos rfl]
          cases he1 : me e2 with
          | none => simp only [he1] at go; cases go
          | some pe3 =>
            obtain ⟨pp, e3⟩ := pe3
            simp only [he1] at go
            cases hz1 : fzP e3 pp with
            | none => simp only [hz1] at go; cases go
            | some ye4 =>
              obtain ⟨y, e4⟩ := ye4
              simp only [hz1] at go
              split at go
              · rename_i hlen
                refine he F5 H5 σ2 e2 Sl5 R5 pp e3 he1 _ fun v F6 H6 Sl6 s6 pu6 R6 r6 => ?_
                obtain ⟨F7, Sl7, s7, R7, r7⟩ := fz_ok R6 r6 hz1
                have A7 := A5.more (s6.trans s7) R7
                obtain ⟨Sl8, R8, k8⟩ := step_wiped (σ := σ) (vs := vs) R7 weq
                have A8 := A7.more (Step.fewer k8) R8
                refine ⟨ys, A7.hp, by rw [← A7.ra.len]; exact hlen, F7, Sl8, _, acc ++ [y], ys ++ [v], hlt, exi.trans (f1.trans (s5.exF.trans (s6.exF.trans s7.exF))), ⟨R8.side A8.fp A8.nsp, A8.st.side np, A8.ra.snoc r7, A8.fp, A8.nsp, upd_same⟩, go⟩
              · cases go
def mLccGo (mg : PyData → En → Option En) (mt : MT) (mi1 : ML) (mg1 : PyData → En → Option En) (mt1 : MT) (me : ME) (vs vs1 : List Nat) : List PyData → List PyData → ML
  | [], acc, env => some (acc, env)
  | d :: ds, acc, env => match mg d env with
    | some e1 => match mt e1 with
      | some (true, e2) => match mi1 e2 with
        | some (ds1, e3) => match mLcGo mg1 mt1 me vs1 ds1 acc (wipeE e3 vs1) with
          | some (acc', e4) => mLccGo mg mt mi1 mg1 mt1 me vs vs1 ds acc' (wipeE e4 vs)
          | none => none
        | none => none
      | some (false, e2) => mLccGo mg mt mi1 mg1 mt1 me vs vs1 ds acc (wipeE e2 vs)
      | none => none
    | none => none
def mLcc (mi : ML) (mg : PyData → En → Option En) (mt : MT) (mi1 : ML) (mg1 : PyData → En → Option En) (mt1 : MT) (me : ME) (vs vs1 : List Nat) : ML := bnd mi fun ds e => mLccGo mg mt mi1 mg1 mt1 me vs vs1 ds [] (wipeE e vs)
theorem lcc_core {wi wi1 : TI} {g g1 : TG} {tt tt1 : TT} {te : TE} {vs vs1 is is1 : List Nat} {mi mi1 : ML} {mg mg1 : PyData → En → Option En} {mt mt1 : MT} {me : ME} {pt pt1 pe : Bool} (hi : RI wi mi) (hg : RT' is g mg) (ht : RT pt tt mt) (hi1 : RI wi1 mi1) (hg1 : RT' is1 g1 mg1) (ht1 : RT pt1 tt1 mt1) (he : RE pe te me) (hs : ∀ i ∈ is, i ∈ vs) (hs1 : ∀ i ∈ is1, i ∈ vs1) :
    ∀ F H σ env Sl, REnv F H σ env Sl → ∀ ds env', mLcc mi mg mt mi1 mg1 mt1 me vs vs1 env = some (ds, env') → ∀ Q : VK,
      (∀ p ys F' H' Sl', Step F H Sl F' H' Sl' → REnv F' H' σ env' Sl' → All2 (Rp F') ds ys → F' p = none → H p = none → (∀ i, ¬ Sl' i p) → H' p = some (.lst ys) → Q (.ref p) H') → tLc2 wi g tt wi1 g1 tt1 te vs vs1 σ H Q := by
  intro F H σ env Sl R ds env' e Q q
  obtain ⟨xs, e0, h1, h2⟩ := bnd_of e
  refine hi F H σ env Sl R xs _ h1 _ fun J F1 H1 Sl1 s1 R1 hJ => ?_
  intro p np
  obtain ⟨Sl2, R2, k2⟩ := R1.wiped (vs := vs)
  have n2 : ∀ i, ¬ Sl2 i p := fun i z => fresh_notin R1 np i (k2 i p z)
  have R3 : REnv F1 (upd H1 p (.lst [])) (wipe σ vs) (wipeE e0 vs) Sl2 := R2.side (R1.ex.none np) n2
  have s3 : Step F1 H1 Sl1 F1 (upd H1 p (.lst [])) Sl2 := (Step.fewer k2).trans (Step.grow (Ex.refl F1) (Ex.new np) fun _ _ z => .inl z)
  refine ⟨fun i m Hi => ∃ Fi Sli envi acc ys, i ≤ xs.length ∧ m = xs.length - i ∧ Acc p F1 H1 Sl1 Fi Hi Sli (wipe σ vs) envi acc ys ∧ mLccGo mg mt mi1 mg1 mt1 me vs vs1 (xs.drop i) acc envi = some (ds, env'), ?_, ?_⟩
  · exact ⟨xs.length, F1, Sl2, wipeE e0 vs, [], [], Nat.zero_le _, by omega, ⟨R3, s3, .nil, R1.ex.none np, n2, upd_same⟩, h2⟩
  · rintro i m Hi ⟨Fi, Sli, envi, acc, ys, hil, hm, Ai, go⟩
    cases hx : xs[i]? with
    | none =>
      have hge : xs.length ≤ i := List.getElem?_eq_none_iff.mp hx
      rw [List.drop_eq_nil_of_le hge] at go
      have go' : some (acc, envi) = some (ds, env') := go
      cases go'
      refine .inl ⟨(hJ Fi Hi Ai.st.exF Ai.R.ex i).2 hx, ?_⟩
      exact q p ys Fi Hi Sli (s1.trans Ai.st) Ai.R.unwipe Ai.ra Ai.fp (s1.tkb np) Ai.nsp Ai.hp
    | some d =>
      have hlt : i < xs.length := (List.getElem?_eq_some_iff.mp hx).1
      have hd : xs.drop i = d :: xs.drop (i + 1) := by
        rw [List.drop_eq_getElem_cons hlt]
        have := (List.getElem?_eq_some_iff.mp hx).2
        rw [this]
      rw [hd] at go
      unfold mLccGo at go
      obtain ⟨jg, jy⟩ := (hJ Fi Hi Ai.st.exF Ai.R.ex i).1 d hx
      refine .inr ⟨jg, fun H' => ∃ Fi Sli envi acc ys, i + 1 ≤ xs.length ∧ Acc p F1 H1 Sl1 Fi H' Sli (wipe σ vs) envi acc ys ∧ mLccGo mg mt mi1 mg1 mt1 me vs vs1 (xs.drop (i + 1)) acc envi = some (ds, env'), fun H' ⟨Fj, Slj, envj, accj, ysj, z1, z3, z4⟩ => ⟨xs.length - (i + 1), by omega, Fj, Slj, envj, accj, ysj, z1, rfl, z3, z4⟩, fun x H' hy => ?_⟩
      obtain ⟨Fj, f1, f2, f3, f4, f5⟩ := jy x H' hy
      have Aj : Acc p F1 H1 Sl1 Fj H' Sli (wipe σ vs) envi acc ys := Ai.more (Step.grow f1 f2 f4) (Ai.R.grow f1 f2 f3 f4)
      cases hg1' : mg d envi with
      | none => rw [hg1'] at go; cases go
      | some e1 =>
        rw [hg1'] at go
        refine hg Fj H' (wipe σ vs) envi Sli x d Aj.R f5 e1 hg1' _ fun σ2 Sl4 R4 k4 p4 l4 => ?_
        have hl4 : σ2.length = σ.length := by rw [l4, wipe_length]
        have weq : wipe σ2 vs = wipe σ vs := wipe_eq p4 hl4 hs
        refine ⟨weq, ?_⟩
        have A4 := Aj.more (Step.fewer k4) R4
        cases ht1' : mt e1 with
        | none => simp only [ht1'] at go; cases go
        | some tb =>
          obtain ⟨b, e2⟩ := tb
          simp only [ht1'] at go
          refine ht Fj H' σ2 e1 Sl4 R4 b e2 ht1' _ fun b' F5 H5 Sl5 s5 pu5 R5 rb => ?_
          cases rb
          have A5 := A4.more s5 R5
          cases b with
          | false =>
            rw [if_neg Bool.false_ne_true]
            obtain ⟨Sl6, R6, k6⟩ := step_wiped (σ := σ) (vs := vs) R5 weq
            exact ⟨F5, Sl6, _, acc, ys, hlt, A5.more (Step.fewer k6) R6, go⟩
          | true =>
            rw [if_pos rfl]
            cases hm1 : mi1 e2 with
            | none => simp only [hm1] at go; cases go
            | some dse =>
              obtain ⟨ds1, e3⟩ := dse
              simp only [hm1] at go
              cases hin : mLcGo mg1 mt1 me vs1 ds1 acc (wipeE e3 vs1) with
              | none => simp only [hin] at go; cases go
              | some ae =>
                obtain ⟨acc', e4⟩ := ae
                simp only [hin] at go
                refine hi1 F5 H5 σ2 e2 Sl5 R5 ds1 e3 hm1 _ fun J1 F6 H6 Sl6 s6 R6 hJ1 => ?_
                have A6 := A5.more s6 R6
                obtain ⟨Sl7, R7, k7⟩ := R6.wiped (vs := vs1)
                have A7 := A6.more (Step.fewer k7) R7
                refine lc_inner hg1 ht1 he hs1 np hJ1 A7 hin fun F8 H8 Sl8 ys8 A8 => ?_
                obtain ⟨Sl9, R9, k9⟩ := step_wiped (σ := σ) (vs := vs) A8.R.unwipe weq
                exact ⟨F8, Sl9, _, acc', ys8, hlt, A8.more (Step.fewer k9) R9, go⟩
theorem re_lcc {wi wi1 : TI} {g g1 : TG} {tt tt1 : TT} {te : TE} {vs vs1 is is1 : List Nat} {mi mi1 : ML} {mg mg1 : PyData → En → Option En} {mt mt1 : MT} {me : ME} {pt pt1 pe : Bool} (hi : RI wi mi) (hg : RT' is g mg) (ht : RT pt tt mt) (hi1 : RI wi1 mi1) (hg1 : RT' is1 g1 mg1) (ht1 : RT pt1 tt1 mt1) (he : RE pe te me) (hs : ∀ i ∈ is, i ∈ vs := by decide) (hs1 : ∀ i ∈ is1, i ∈ vs1 := by decide) :
    RE false (tLc2 wi g tt wi1 g1 tt1 te vs vs1) (mLE (mLcc mi mg mt mi1 mg1 mt1 me vs vs1)) := by
  intro F H σ env Sl R r env' e Q q
  obtain ⟨ds, e1, h1, h2⟩ := bnd_of e
  cases h2
  refine lcc_core hi hg ht hi1 hg1 ht1 he hs hs1 F H σ env Sl R ds _ h1 Q fun p ys F' H' Sl' s R' ra fp np nsp hp => ?_
  have ex : Ex F' (upd F' p (.lst ys)) := Ex.new fp
  refine q _ (upd F' p (.lst ys)) H' Sl' ⟨s.exF.trans ex, s.fr, s.tk, s.own, fun b o z => ?_⟩ (fun z => nomatch z) ⟨fun b o z => ?_, R'.len, fun i o z => ?_, R'.dj, fun i a z => ?_⟩ (rp_list.mpr ⟨p, ys, rfl, upd_same, all_mono ex ra⟩)
  · by_cases hb : b = p
    · subst hb; exact .inr (.inl np)
    · rw [upd_ne hb] at z; exact s.fz b o z
  · by_cases hb : b = p
    · subst hb; rw [upd_same] at z; cases z; exact hp
    · rw [upd_ne hb] at z; exact R'.ex b o z
  · obtain ⟨v, e2, w⟩ := R'.at_ i o z
    exact ⟨v, e2, w.ext ex fun _ _ _ y => y⟩
  · obtain ⟨y1, y2⟩ := R'.tr i a z
    refine ⟨?_, y2⟩
    rw [upd_ne fun y => nsp i (by rw [← y]; exact z)]
    exact y1
theorem ro_lcc {wi wi1 : TI} {g g1 : TG} {tt tt1 : TT} {te : TE} {vs vs1 is is1 : List Nat} {mi mi1 : ML} {mg mg1 : PyData → En → Option En} {mt mt1 : MT} {me : ME} {pt pt1 pe : Bool} (hi : RI wi mi) (hg : RT' is g mg) (ht : RT pt tt mt) (hi1 : RI wi1 mi1) (hg1 : RT' is1 g1 mg1) (ht1 : RT pt1 tt1 mt1) (he : RE pe te me) (hs : ∀ i ∈ is, i ∈ vs := by decide) (hs1 : ∀ i ∈ is1, i ∈ vs1 := by decide) :
    RO (tLc2 wi g tt wi1 g1 tt1 te vs vs1) (mLO (mLcc mi mg mt mi1 mg1 mt1 me vs vs1)) := by
  intro F H σ env Sl R r env' e Q q
  obtain ⟨ds, e1, h1, h2⟩ := bnd_of e
  cases h2
  refine lcc_core hi hg ht hi1 hg1 ht1 he hs hs1 F H σ env Sl R ds _ h1 Q fun p ys F' H' Sl' s R' ra fp np nsp hp => ?_
  exact q _ F' H' Sl' (fun a => a = p) s R' ⟨⟨p, ys, rfl, rfl, hp, ra⟩, fun i a z y => nsp i (by rw [← z]; exact y), fun a z => by rw [z]; exact ⟨fp, _, hp⟩, fun a z => by rw [z]; exact np⟩
/-! ### is a list empty -/
def gTru (env : En) (p : P) : Option Bool := match vw env p with
  | some (.list ds) => some (!ds.isEmpty)
  | _ => none
def mTru (ma : ME) : MT := bnd ma fun p e => (gTru e p).map fun r => (r, e)
theorem rt_tru {K : PySem.W.Frag} {pu : Bool} {te : TE} {me : ME} (h : RE pu te me) : RT pu (fun σ H Q => te σ H fun x H' => ∃ k, TruV K x H' k ∧ Q k H') (mTru me) := by
  intro F H σ env Sl R b env' e Q q
  obtain ⟨p, e1, h1, h2⟩ := bnd_of e
  cases h3 : gTru e1 p with
  | none => rw [h3] at h2; cases h2
  | some b' =>
    rw [h3] at h2
    cases h2
    refine h F H σ env Sl R p _ h1 _ fun r F1 H1 Sl1 s1 pu1 R1 r1 => ?_
    unfold gTru at h3
    split at h3
    · rename_i ds hv
      cases h3
      obtain ⟨a, vs, rfl, hH, ra⟩ := rp_list.mp (vw_rp R1 r1 hv)
      refine ⟨_, .inl ⟨vs, .inl (Rd.of hH), rfl⟩, ?_⟩
      have hk : (!vs.isEmpty) = !ds.isEmpty := by cases ra <;> rfl
      rw [hk]
      exact q _ F1 H1 Sl1 s1 pu1 R1 rfl
    · cases h3
/-! ### abs(n) -/
def gAbs : En → List P → Option P := fun _ ps => match ps with
  | [.val (.int i)] => some (.val (.int (if i < 0 then -i else i)))
  | _ => none
theorem f_abs : FnK (fun xs H Q => ∃ i : Int, xs = [.int i] ∧ Q (.int (if i < 0 then -i else i)) H) gAbs := by
  intro F H σ env Sl xs ps p R h e Q q
  unfold gAbs at e
  split at e
  · rename_i i
    cases e
    cases h with
    | cons a t =>
      cases t
      exact ⟨i, by rw [show _ = V.int i from a], q _ F H (Ex.refl F) (Ex.refl H) R.ex (fun _ _ z => .inl z) rfl⟩
  · cases e
/-! ### sorted, pairs of whole numbers -/
def lePP (a b : Int × Int) : Bool := decide (a.1 < b.1 ∨ (a.1 = b.1 ∧ a.2 ≤ b.2))
theorem lePP_iff {a b : Int × Int} : lePP a b = true ↔ a.1 < b.1 ∨ (a.1 = b.1 ∧ a.2 ≤ b.2) := by unfold lePP; exact decide_eq_true_iff
def srtPP (ns : List (Int × Int)) : List (Int × Int) := ns.mergeSort lePP
theorem srtPP_perm (ns : List (Int × Int)) : (srtPP ns).Perm ns := List.mergeSort_perm _ _
theorem srtPP_up (ns : List (Int × Int)) : (srtPP ns).Pairwise fun a b => lePP a b = true :=
  List.pairwise_mergeSort (le := lePP) (fun a b c h1 h2 => by
    have a1 := lePP_iff.mp h1
    have a2 := lePP_iff.mp h2
    exact lePP_iff.mpr (by omega)) (fun a b => by
    by_cases h : lePP a b = true
    · rw [h]; rfl
    · have := mt lePP_iff.mpr h
      have h2 : lePP b a = true := lePP_iff.mpr (by omega)
      rw [h2, Bool.or_true]) ns
theorem srtPP_uniq {ns ns' : List (Int × Int)} (h1 : ns'.Perm ns) (h2 : ns'.Pairwise fun a b => lePP a b = true) : ns' = srtPP ns :=
  List.Perm.eq_of_pairwise (fun a b _ _ x y => by
    have a1 := lePP_iff.mp x
    have a2 := lePP_iff.mp y
    exact Prod.ext (by omega) (by omega)) h2 (srtPP_up ns) (h1.trans (srtPP_perm ns).symm)
def isPP : PyData → Option (Int × Int)
  | .tuple [.int i, .int j] => some (i, j)
  | _ => none
def allPP : List PyData → Option (List (Int × Int))
  | [] => some []
  | d :: ds => match isPP d, allPP ds with
    | some p, some ps => some (p :: ps)
    | _, _ => none
def tupPP (p : Int × Int) : PyData := .tuple [.int p.1, .int p.2]
theorem isPP_is {d : PyData} {p : Int × Int} (h : isPP d = some p) : d = tupPP p := by
  unfold isPP at h
  split at h
  · cases h; rfl
  · cases h
def keyPP (F : Hp) : V → Int × Int
  | .ref t => match F t with
    | some (.tup [.int i, .int j]) => (i, j)
    | _ => (0, 0)
  | _ => (0, 0)
theorem keyPP_of {F : Hp} {v : V} {p : Int × Int} (h : Rp F (tupPP p) v) : keyPP F v = p ∧ ∃ t, v = .ref t ∧ F t = some (.tup [.int p.1, .int p.2]) := by
  obtain ⟨a, vs, rfl, h1, h2⟩ := rp_tuple.mp h
  cases h2 with
  | cons x y =>
    cases y with
    | cons z w =>
      cases w
      have e1 := (show _ = V.int p.1 from x)
      have e2 := (show _ = V.int p.2 from z)
      subst e1
      subst e2
      refine ⟨?_, a, rfl, h1⟩
      unfold keyPP
      simp only [h1]
theorem allPP_ok {F : Hp} : ∀ {ds : List PyData} {vs : List V} {ps : List (Int × Int)}, All2 (Rp F) ds vs → allPP ds = some ps → vs.map (keyPP F) = ps ∧ ∀ v ∈ vs, Rp F (tupPP (keyPP F v)) v
  | _, _, ps, .nil, e => by cases e; exact ⟨rfl, fun v z => by cases z⟩
  | _, _, ps, .cons (a := d) (as := ds) h t, e => by
    unfold allPP at e
    split at e
    · rename_i p qs h1 h2
      cases e
      obtain ⟨i1, i2⟩ := allPP_ok t h2
      have e1 := isPP_is h1
      subst e1
      have e2 := (keyPP_of h).1
      refine ⟨by rw [List.map_cons, e2, i1], fun v z => ?_⟩
      rcases List.mem_cons.mp z with rfl | z
      · rw [e2]; exact h
      · exact i2 v z
    · cases e
def gSortP : En → List P → Option (List PyData) := fun env ps => match ps with
  | [p] => ((sq env p).bind allPP).map fun ns => (srtPP ns).map tupPP
  | _ => none
theorem all2_of_map {F : Hp} {f : V → PyData} : ∀ {vs : List V}, (∀ v ∈ vs, Rp F (f v) v) → All2 (Rp F) (vs.map f) vs
  | [], _ => .nil
  | v :: vs, h => .cons (h v (List.mem_cons_self ..)) (all2_of_map fun u z => h u (List.mem_cons_of_mem _ z))
theorem l_sortP {K : PySem.W.Frag} : FnL (rSortedPO K) gSortP := by
  intro F H σ env Sl xs ps ds R h e Q q
  unfold gSortP at e
  split at e
  · rename_i p1
    cases h with
    | cons a t =>
      cases t
      cases h1 : sq env p1 with
      | none => rw [h1] at e; cases e
      | some ds0 =>
        cases h2 : allPP ds0 with
        | none => simp only [h1, Option.bind_some, h2] at e; cases e
        | some ns =>
          simp only [h1, Option.bind_some, h2, Option.map_some] at e
          cases e
          obtain ⟨l, vs, rfl, hl, r⟩ := sq_of R a h1
          obtain ⟨k1, k2⟩ := allPP_ok r h2
          refine ⟨l, vs, keyPP F, rfl, SqL.of hl, fun x hx => ?_, fun ys p up st np => ?_⟩
          · obtain ⟨_, t, e1, e2⟩ := keyPP_of (k2 x hx)
            exact ⟨t, e1, R.ex _ _ e2⟩
          · have e3 : ys.map (keyPP F) = srtPP ns := by
              refine srtPP_uniq (by rw [← k1]; exact st.perm.map _) ?_
              refine List.pairwise_map.mpr (up.imp fun {u v} z => ?_)
              have := SrtO.lexB_no.mp z
              exact lePP_iff.mpr (by omega)
            refine q p ys ?_ np
            rw [← e3, List.map_map]
            exact all2_of_map fun v hv => k2 v (st.perm.mem_iff.mp hv)
  · cases e
theorem sortedPK {X : Cx} {K : PySem.W.Frag} (h : X.K = K := by rfl) : CallR X (.builtin "sorted") (rSortedPO K) := by subst h; exact cr_sortedPO
/-! ### a default that fills up -/
def mSnoc (ma : MA) (d : PyData) : MA := bnd ma fun ps e => some (ps ++ [.val d], e)
theorem all2_snoc' {α β : Type} {R : α → β → Prop} : ∀ {xs : List α} {ys : List β} {x : α} {y : β}, All2 R xs ys → R x y → All2 R (xs ++ [x]) (ys ++ [y])
  | _, _, _, _, .nil, h => .cons h .nil
  | _, _, _, _, .cons a t, h => .cons a (all2_snoc' t h)
theorem ra_snoc {pu : Bool} {ta : TA} {ma : MA} {i : Int} (h : RA pu ta ma) : RA pu (fun σ H K => ta σ H fun vs H1 => K (vs ++ [.int i]) H1) (mSnoc ma (.int i)) := by
  intro F H σ env Sl R ps env' e Q q
  obtain ⟨qs, e1, h1, h2⟩ := bnd_of e
  cases h2
  exact h F H σ env Sl R qs _ h1 _ fun vs F1 H1 Sl1 s1 pu1 R1 r1 => q _ F1 H1 Sl1 s1 pu1 R1 (all2_snoc' r1 rfl)
theorem ro_callD {pu : Bool} {ta : TA} {ma : MA} {mf : MF} {E : XK} {i : Int} (h : RA pu ta ma) : RO (tCall (spOf none mf) [.int i] E ta) (mCall mf (mSnoc ma (.int i))) := by
  intro F H σ env Sl R o env' e Q q
  have := ro_call (E := E) (mf := mf) (ra_snoc (i := i) h) F H σ env Sl R o env' e Q q
  unfold tCall at this ⊢
  simp only [List.append_nil] at this
  exact this
end Tr
namespace Tr
open PySem PySem.Spec PyProof.Rows L2
/-! ### a def that calls itself: no promise at depth 0 -/
theorem fnG_none {P : Program} {w : World} {K : PySem.W.Frag} {mg : Str → Option Value} {base : Heap} {k : Nat} {f : Addr} {fd : FuncData} {ps : List Str} {pn : Option Nat} : FnG P w K mg base k f fd ps (spOf pn fun _ => none) := by
  constructor
  · rintro vs H Q E ⟨F, os, Sl, r, os', _, _, _, h, _⟩
    cases h
  · rintro A ou s H ar us vs Q E _ _ _ _ _ ⟨F, os, Sl, r, os', _, _, _, h, _⟩
    cases h
/-! ### zip of two lists -/
def zipD : List PyData → List PyData → List PyData
  | a :: as, b :: bs => .tuple [a, b] :: zipD as bs
  | _, _ => []
theorem zipD_get : ∀ (as bs : List PyData) (i : Nat), (zipD as bs)[i]? = match as[i]?, bs[i]? with | some a, some b => some (.tuple [a, b]) | _, _ => none
  | [], bs, i => by simp [zipD]
  | a :: as, [], i => by
    simp only [zipD, List.getElem?_nil]
    split <;> first | rfl | simp_all
  | a :: as, b :: bs, 0 => by simp [zipD]
  | a :: as, b :: bs, i + 1 => by
    show (zipD as bs)[i]? = _
    rw [zipD_get as bs i, List.getElem?_cons_succ, List.getElem?_cons_succ]
def mZip (ma : MA) : ML := bnd ma fun ps e => match ps with
  | [p, q] => match fzP e p with
    | some (.list as, e2) => match fzP e2 q with
      | some (.list bs, e3) => some (zipD as bs, e3)
      | _ => none
    | _ => none
  | _ => none
theorem it_z {K : PySem.W.Frag} {F : Hp} {a b : Addr} {vs us : List V} {as bs : List PyData} (h : F a = some (.lst vs)) (r : All2 (Rp F) as vs) (h' : F b = some (.lst us)) (r' : All2 (Rp F) bs us) : ItOk (Itz K a b) F (zipD as bs) := by
  intro F1 H1 e1 e2 i
  have hs : SqL K H1 a vs := SqL.of (e2 _ _ (e1 _ _ h))
  have hs' : SqL K H1 b us := SqL.of (e2 _ _ (e1 _ _ h'))
  rw [zipD_get]
  refine ⟨fun d hd => ?_, fun hd => ⟨vs, us, hs, hs', ?_⟩⟩
  · cases ha : as[i]? with
    | none => rw [ha] at hd; cases hd
    | some d1 =>
      cases hb : bs[i]? with
      | none => rw [ha, hb] at hd; cases hd
      | some d2 =>
        rw [ha, hb] at hd
        cases hd
        obtain ⟨v, hv, rv⟩ := r.get ha
        obtain ⟨u, hu, ru⟩ := r'.get hb
        refine ⟨⟨vs, us, v, u, hs, hs', hv, hu⟩, fun x H' y => ?_⟩
        obtain ⟨T, x', y', rfl, nT, rfl, f, f'⟩ := y
        have ex : x' = v := Option.some.inj ((f vs hs).symm.trans hv)
        have ey : y' = u := Option.some.inj ((f' us hs').symm.trans hu)
        subst ex
        subst ey
        obtain ⟨y1, y2, y3, y4, y5⟩ := new_tup (ds := [d1, d2]) (vs := [x', y']) e2 nT (.cons (Rp.mono e1 rv) (.cons (Rp.mono e1 ru) .nil))
        exact ⟨_, y1, y2, y3, y4, y5⟩
  · cases ha : as[i]? with
    | none =>
      left
      rw [← r.len]
      exact List.getElem?_eq_none_iff.mp ha
    | some d1 =>
      cases hb : bs[i]? with
      | none =>
        right
        rw [← r'.len]
        exact List.getElem?_eq_none_iff.mp hb
      | some d2 => rw [ha, hb] at hd; cases hd
theorem ri_zip {K : PySem.W.Frag} {pu : Bool} {ta : TA} {ma : MA} (h : RA pu ta ma) : RI (iZip K ta) (mZip ma) := by
  intro F H σ env Sl R ds env' e Q q
  obtain ⟨ps, e1, h1, h2⟩ := bnd_of e
  split at h2
  · split at h2
    · rename_i as e2 h3
      split at h2
      · rename_i bs e3 h4
        cases h2
        refine h F H σ env Sl R _ _ h1 _ fun r F1 H1 Sl1 s1 pu1 R1 r1 => ?_
        cases r1 with
        | cons x t =>
          cases t with
          | cons y t =>
            cases t
            obtain ⟨F2, Sl2, s2, R2, r2⟩ := fz_ok R1 x h3
            obtain ⟨F3, Sl3, s3, R3, r3⟩ := fz_ok R2 (RP.mono s2.exF y) h4
            obtain ⟨a, vs, rfl, hF, rr⟩ := rp_list.mp (Rp.mono s3.exF r2)
            obtain ⟨b, us, rfl, hF', rr'⟩ := rp_list.mp r3
            exact ⟨a, b, vs, us, rfl, SqL.of (R3.ex _ _ hF), SqL.of (R3.ex _ _ hF'), q _ F3 H1 Sl3 (s1.trans (s2.trans s3)) R3 (it_z hF rr hF' rr')⟩
      · cases h2
    · cases h2
  · cases h2
theorem pi_zipK {X : Cx} {K : PySem.W.Frag} {e e2 : Expr} {ta : TA} {p pos tpos : Pos} {elts : List Expr} {kk : Nat} (hg : Gl X "zip") (hm : X.mg "zip" = none) (ha : PA X [e, e2] ta)
    (hs : starEach [e, e2] X.env = (false, eval e X.env) :: starEach [e2] X.env := by rfl) (hpl : (backTo pos (starEach [e2] X.env)).any (·.1) = false := by rfl) (h : X.K = K := by rfl) :
    PI X (.Tuple elts kk tpos) (.Call (.Name "zip" p) [e, e2] [] pos) (iZip K ta) := by subst h; exact pi_zip hg hm ha hs hpl
/-! ### xs[::-1] -/
def mRev (me : ME) : ML := bnd me fun p e => (sq e p).map fun ds => (ds.reverse, e)
theorem all2_rev {α β : Type} {R : α → β → Prop} : ∀ {xs : List α} {ys : List β}, All2 R xs ys → All2 R xs.reverse ys.reverse
  | _, _, .nil => .nil
  | _, _, .cons a t => by
    rw [List.reverse_cons, List.reverse_cons]
    exact (all2_rev t).snoc a
theorem rl_rev {K : PySem.W.Frag} {pu : Bool} {te : TE} {me : ME} (he : RE pu te me) : RL pu (tRevL K te) (mRev me) := by
  intro F H σ env Sl R ds env' e Q q
  obtain ⟨p, e1, h1, h2⟩ := bnd_of e
  cases h7 : sq e1 p with
  | none => rw [h7] at h2; cases h2
  | some ds' =>
    rw [h7] at h2
    cases h2
    refine he F H σ env Sl R p _ h1 _ fun r F1 H1 Sl1 s1 pu1 R1 r1 => ?_
    obtain ⟨a, vs, rfl, hH, rr⟩ := sq_of R1 r1 h7
    exact ⟨a, vs, rfl, SqL.of hH, fun b nb => q b _ F1 H1 Sl1 s1 pu1 R1 (all2_rev rr) nb⟩
theorem pe_revK {X : Cx} {K : PySem.W.Frag} {e : Expr} {te : TE} {k : Nat} {p1 p2 p3 pos : Pos} (he : PE X e te) (h : X.K = K := by rfl) : PE X (.Subscript e (.Slice none none (some (.UnaryOp .USub (.Constant (.int 1) k p1) p2)) p3) pos) (tRevL K te) := by subst h; exact pe_revL he
/-! ### max, min of two whole numbers -/
def gMax2 : En → List P → Option P := fun _ ps => match ps with
  | [.val (.int i), .val (.int j)] => some (.val (.int (if j > i then j else i)))
  | _ => none
def gMin2 : En → List P → Option P := fun _ ps => match ps with
  | [.val (.int i), .val (.int j)] => some (.val (.int (if j < i then j else i)))
  | _ => none
theorem f_max2 : FnK (fun xs H Q => ∃ i j : Int, xs = [.int i, .int j] ∧ Q (.int (if j > i then j else i)) H) gMax2 := by
  intro F H σ env Sl xs ps p R h e Q q
  unfold gMax2 at e
  split at e
  · rename_i i j
    cases e
    cases h with
    | cons a t =>
      cases t with
      | cons b t =>
        cases t
        exact ⟨i, j, by rw [show _ = V.int i from a, show _ = V.int j from b], q _ F H (Ex.refl F) (Ex.refl H) R.ex (fun _ _ z => .inl z) rfl⟩
  · cases e
theorem f_min2 : FnK (fun xs H Q => ∃ i j : Int, xs = [.int i, .int j] ∧ Q (.int (if j < i then j else i)) H) gMin2 := by
  intro F H σ env Sl xs ps p R h e Q q
  unfold gMin2 at e
  split at e
  · rename_i i j
    cases e
    cases h with
    | cons a t =>
      cases t with
      | cons b t =>
        cases t
        exact ⟨i, j, by rw [show _ = V.int i from a, show _ = V.int j from b], q _ F H (Ex.refl F) (Ex.refl H) R.ex (fun _ _ z => .inl z) rfl⟩
  · cases e
/-! ### any value into a name, as what a pair of names takes -/
def mFzO (me : ME) : MO := bnd me fun p e => match fzP e p with
  | some (d, e2) => some (.fz d, e2)
  | none => none
theorem ro_e {pu : Bool} {te : TE} {me : ME} (h : RE pu te me) : RO te (mFzO me) := by
  intro F H σ env Sl R o env' e Q q
  obtain ⟨p, e1, h1, h2⟩ := bnd_of e
  cases h3 : fzP e1 p with
  | none => rw [h3] at h2; cases h2
  | some de =>
    obtain ⟨d, e2⟩ := de
    rw [h3] at h2
    cases h2
    refine h F H σ env Sl R p _ h1 _ fun v F1 H1 Sl1 s1 pu1 R1 r1 => ?_
    obtain ⟨F2, Sl2, s2, R2, r2⟩ := fz_ok R1 r1 h3
    exact q v F2 H1 Sl2 (fun _ => False) (s1.trans s2) R2 ⟨r2, fun _ _ z => z.elim, fun _ z => z.elim, fun _ z => z.elim⟩
/-! ### a tuple of texts of the module's top -/
def KT (K : PySem.W.Frag) (a : Addr) (xs : List Str) : Prop := ∃ (o : Obj) (its : Array Value) (n : Nat), K.lookup a = some o ∧ o.cls = .type "tuple" ∧ o.data = .seq its n ∧ its.size ≤ sizeLine ∧ Vals (xs.map V.str) its.toList
def mK (K : PySem.W.Frag) (xs : List Str) : ME := fun env => some (.k K xs, env)
theorem re_kt {K : PySem.W.Frag} {a : Addr} {xs : List Str} (h : KT K a xs) : RE true (tC (.ref a)) (mK K xs) := by
  intro F H σ env Sl R p env' e Q q
  cases e
  exact q _ F H Sl Step.refl (fun _ => ⟨rfl, Ex.refl H, rfl⟩) R ⟨a, rfl, .inr h⟩
open Classical in
noncomputable def gInK (K : PySem.W.Frag) (neg : Bool) : En → P → P → Option P := fun _ p q => match p, q with
  | .val d, .k K' xs => if K' = K ∧ flat d = true then some (.val (.bool (neg ^^ (xs.map PyData.str).any fun y => PyData.eqv y d))) else none
  | _, _ => none
theorem strs_rp {F : Hp} : ∀ xs : List Str, All2 (Rp F) (xs.map PyData.str) (xs.map V.str)
  | [] => .nil
  | _ :: xs => .cons rfl (strs_rp xs)
theorem strs_flat : ∀ xs : List Str, (xs.map PyData.str).all flat = true
  | [] => rfl
  | _ :: xs => by rw [List.map_cons, List.all_cons, strs_flat xs]; rfl
theorem b_inK {K : PySem.W.Frag} (neg : Bool) : BinK (rIn K neg) (gInK K neg) := by
  intro F H σ env Sl x y p1 p2 p R h1 h2 e Q q
  unfold gInK at e
  split at e
  · rename_i d K' xs
    split at e
    · rename_i hk
      obtain ⟨rfl, hf⟩ := hk
      cases e
      have h1' : Rp F d x := h1
      obtain ⟨a, rfl, hs⟩ := h2
      have r : All2 (Rp F) (xs.map PyData.str) (xs.map V.str) := strs_rp xs
      refine ⟨a, xs.map V.str, rfl, .inr (ex_sqT R.ex hs), flat_v h1' hf, flat_vs r (strs_flat xs), ?_⟩
      rw [flat_any r h1' (strs_flat xs) hf]
      refine q _ F H (Ex.refl F) (Ex.refl H) R.ex (fun _ _ z => .inl z) ?_
      show V.bl _ = V.bl _
      cases neg
      · rw [Bool.false_xor]; rfl
      · rw [Bool.true_xor]; rfl
    · cases e
  · cases e
/-! ### a default that is a text -/
theorem ra_snocS {pu : Bool} {ta : TA} {ma : MA} {x : Str} (h : RA pu ta ma) : RA pu (fun σ H K => ta σ H fun vs H1 => K (vs ++ [.str x]) H1) (mSnoc ma (.str x)) := by
  intro F H σ env Sl R ps env' e Q q
  obtain ⟨qs, e1, h1, h2⟩ := bnd_of e
  cases h2
  exact h F H σ env Sl R qs _ h1 _ fun vs F1 H1 Sl1 s1 pu1 R1 r1 => q _ F1 H1 Sl1 s1 pu1 R1 (all2_snoc' r1 rfl)
theorem ro_callDS {pu : Bool} {ta : TA} {ma : MA} {mf : MF} {E : XK} {x : Str} (h : RA pu ta ma) : RO (tCall (spOf none mf) [.str x] E ta) (mCall mf (mSnoc ma (.str x))) := by
  intro F H σ env Sl R o env' e Q q
  have := ro_call (E := E) (mf := mf) (ra_snocS (x := x) h) F H σ env Sl R o env' e Q q
  unfold tCall at this ⊢
  simp only [List.append_nil] at this
  exact this
end Tr
namespace My
open PySem PySem.Spec PyProof.Rows L2 Tr
/-! the text: which statement of the top each def is -/
def topS (i : Nat) : Stmt := PySem.Challenge.pw_knotsorts_k08_rows_that_are_paths.main.body.getD i (.Pass ⟨0, 0, 0, 0⟩)
abbrev s_is_whole : Stmt := topS 4
theorem sc_is_whole : FnScope ["thing"] ["thing"] (defScope s_is_whole) := ⟨rfl, rfl, rfl, by decide +kernel, rfl, by decide +kernel, by decide +kernel⟩
abbrev s_is_item : Stmt := topS 5
theorem sc_is_item : FnScope ["size", "thing"] ["size", "thing"] (defScope s_is_item) := ⟨rfl, rfl, rfl, by decide +kernel, rfl, by decide +kernel, by decide +kernel⟩
abbrev s_is_answer : Stmt := topS 6
theorem sc_is_answer : FnScope ["thing"] ["thing"] (defScope s_is_answer) := ⟨rfl, rfl, rfl, by decide +kernel, rfl, by decide +kernel, by decide +kernel⟩
abbrev s_check_rule : Stmt := topS 7
theorem sc_check_rule : FnScope ["rule", "size", "item", "row", "other", "answer"] ["rule"] (defScope s_check_rule) := ⟨rfl, rfl, rfl, by decide +kernel, rfl, by decide +kernel, by decide +kernel⟩
abbrev s_check_row : Stmt := topS 8
theorem sc_check_row : FnScope ["rule", "row", "size", "place", "item"] ["rule", "row"] (defScope s_check_row) := ⟨rfl, rfl, rfl, by decide +kernel, rfl, by decide +kernel, by decide +kernel⟩
abbrev s_may_precede : Stmt := topS 9
theorem sc_may_precede : FnScope ["rule", "one", "other"] ["rule", "one", "other"] (defScope s_may_precede) := ⟨rfl, rfl, rfl, by decide +kernel, rfl, by decide +kernel, by decide +kernel⟩
abbrev s_first_break : Stmt := topS 11
theorem sc_first_break : FnScope ["rule", "items", "place"] ["rule", "items"] (defScope s_first_break) := ⟨rfl, rfl, rfl, by decide +kernel, rfl, by decide +kernel, by decide +kernel⟩
abbrev s_wrong_place : Stmt := topS 12
theorem sc_wrong_place : FnScope ["rule", "row"] ["rule", "row"] (defScope s_wrong_place) := ⟨rfl, rfl, rfl, by decide +kernel, rfl, by decide +kernel, by decide +kernel⟩
abbrev s__law_draws : Stmt := topS 14
theorem sc__law_draws : FnScope ["cell"] ["cell"] (defScope s__law_draws) := ⟨rfl, rfl, rfl, by decide +kernel, rfl, by decide +kernel, by decide +kernel⟩
abbrev s__law_next : Stmt := topS 15
theorem sc__law_next : FnScope ["draws", "k", "number"] ["draws"] (defScope s__law_next) := ⟨rfl, rfl, rfl, by decide +kernel, rfl, by decide +kernel, by decide +kernel⟩
abbrev s__law_with : Stmt := topS 16
theorem sc__law_with : FnScope ["a_row", "place", "thing"] ["a_row", "place", "thing"] (defScope s__law_with) := ⟨rfl, rfl, rfl, by decide +kernel, rfl, by decide +kernel, by decide +kernel⟩
abbrev s__law_answers : Stmt := topS 17
theorem sc__law_answers : FnScope ["draws", "many", "odds", "told", "one", "other", "k", "pick", "answer"] ["draws", "many", "odds"] (defScope s__law_answers) := ⟨rfl, rfl, rfl, by decide +kernel, rfl, by decide +kernel, by decide +kernel⟩
abbrev s__law_lined : Stmt := topS 18
theorem sc__law_lined : FnScope ["draws", "many", "told", "cut", "one", "other"] ["draws", "many"] (defScope s__law_lined) := ⟨rfl, rfl, rfl, by decide +kernel, rfl, by decide +kernel, by decide +kernel⟩
abbrev s__law_exchanged : Stmt := topS 19
theorem sc__law_exchanged : FnScope ["draws", "answers", "left", "names", "one", "other"] ["draws", "answers"] (defScope s__law_exchanged) := ⟨rfl, rfl, rfl, by decide +kernel, rfl, by decide +kernel, by decide +kernel⟩
abbrev s__law_close : Stmt := topS 20
theorem sc__law_close : FnScope ["some", "near", "told", "one", "other"] ["some", "near"] (defScope s__law_close) := ⟨rfl, rfl, rfl, by decide +kernel, rfl, by decide +kernel, by decide +kernel⟩
abbrev s__law_rule : Stmt := topS 21
theorem sc__law_rule : FnScope ["draws", "many", "pick", "some", "k"] ["draws", "many"] (defScope s__law_rule) := ⟨rfl, rfl, rfl, by decide +kernel, rfl, by decide +kernel, by decide +kernel⟩
abbrev s__law_inserted : Stmt := topS 22
theorem sc__law_inserted : FnScope ["a_rule", "items", "told", "item", "place"] ["a_rule", "items"] (defScope s__law_inserted) := ⟨rfl, rfl, rfl, by decide +kernel, rfl, by decide +kernel, by decide +kernel⟩
abbrev s__law_mixed : Stmt := topS 23
theorem sc__law_mixed : FnScope ["draws", "many", "left", "told"] ["draws", "many"] (defScope s__law_mixed) := ⟨rfl, rfl, rfl, by decide +kernel, rfl, by decide +kernel, by decide +kernel⟩
abbrev s__law_kept : Stmt := topS 24
theorem sc__law_kept : FnScope ["a_rule", "a_row", "kept", "error"] ["a_rule", "a_row"] (defScope s__law_kept) := ⟨rfl, rfl, rfl, by decide +kernel, rfl, by decide +kernel, by decide +kernel⟩
abbrev s__law_odd_rows : Stmt := topS 25
theorem sc__law_odd_rows : FnScope ["a_row", "many", "told", "thing", "turn"] ["a_row"] (defScope s__law_odd_rows) := ⟨rfl, rfl, rfl, by decide +kernel, rfl, by decide +kernel, by decide +kernel⟩
abbrev s__law_right : Stmt := topS 26
theorem sc__law_right : FnScope ["draws", "many", "a_rule", "rows", "a_row", "kept", "odd", "due", "place", "bad"] ["draws"] (defScope s__law_right) := ⟨rfl, rfl, rfl, by decide +kernel, rfl, by decide +kernel, by decide +kernel⟩
abbrev s_law : Stmt := topS 27
theorem sc_law : FnScope ["script", "draws", "turn", "cell"] ["script"] (defScope s_law) := ⟨rfl, rfl, rfl, by decide +kernel, rfl, by decide +kernel, by decide +kernel⟩
def fld : Nat → Str
  | 0 => "place"
  | _ => ""
def clOf (ca : Nat → Addr) : Cl := fun n => (ca n, fld n)
abbrev s_I_InvalidRow : Stmt := inClass (topS 2) 0
theorem sc_I_InvalidRow : FnScope ["self", "place"] ["self", "place"] (defScope s_I_InvalidRow) := ⟨rfl, rfl, rfl, by decide +kernel, rfl, by decide +kernel, by decide +kernel⟩
structure Tx (K : PySem.W.Frag) (mg : Str → Option Value) (ad : Nat → Addr) (fd : Nat → FuncData) (ca ia : Nat → Addr) (ifd : Nat → FuncData) : Prop where
  F_is_whole : Fun K "is_whole" "is_whole" s_is_whole (ad 0) (fd 0)
  g_is_whole : mg "is_whole" = some (.ref (ad 0))
  b_is_whole : Binds K (fd 0) ["thing"] []
  F_is_item : Fun K "is_item" "is_item" s_is_item (ad 1) (fd 1)
  g_is_item : mg "is_item" = some (.ref (ad 1))
  b_is_item : Binds K (fd 1) ["size", "thing"] []
  F_is_answer : Fun K "is_answer" "is_answer" s_is_answer (ad 2) (fd 2)
  g_is_answer : mg "is_answer" = some (.ref (ad 2))
  b_is_answer : Binds K (fd 2) ["thing"] []
  F_check_rule : Fun K "check_rule" "check_rule" s_check_rule (ad 3) (fd 3)
  g_check_rule : mg "check_rule" = some (.ref (ad 3))
  b_check_rule : Binds K (fd 3) ["rule"] []
  F_check_row : Fun K "check_row" "check_row" s_check_row (ad 4) (fd 4)
  g_check_row : mg "check_row" = some (.ref (ad 4))
  b_check_row : Binds K (fd 4) ["rule", "row"] []
  F_may_precede : Fun K "may_precede" "may_precede" s_may_precede (ad 5) (fd 5)
  g_may_precede : mg "may_precede" = some (.ref (ad 5))
  b_may_precede : Binds K (fd 5) ["rule", "one", "other"] []
  F_first_break : Fun K "first_break" "first_break" s_first_break (ad 6) (fd 6)
  g_first_break : mg "first_break" = some (.ref (ad 6))
  b_first_break : Binds K (fd 6) ["rule", "items"] []
  F_wrong_place : Fun K "wrong_place" "wrong_place" s_wrong_place (ad 7) (fd 7)
  g_wrong_place : mg "wrong_place" = some (.ref (ad 7))
  b_wrong_place : Binds K (fd 7) ["rule", "row"] []
  F__law_draws : Fun K "_law_draws" "_law_draws" s__law_draws (ad 8) (fd 8)
  g__law_draws : mg "_law_draws" = some (.ref (ad 8))
  b__law_draws : Binds K (fd 8) ["cell"] []
  F__law_next : Fun K "_law_next" "_law_next" s__law_next (ad 9) (fd 9)
  g__law_next : mg "_law_next" = some (.ref (ad 9))
  b__law_next : Binds K (fd 9) ["draws"] []
  F__law_with : Fun K "_law_with" "_law_with" s__law_with (ad 10) (fd 10)
  g__law_with : mg "_law_with" = some (.ref (ad 10))
  b__law_with : Binds K (fd 10) ["a_row", "place", "thing"] []
  F__law_answers : Fun K "_law_answers" "_law_answers" s__law_answers (ad 11) (fd 11)
  g__law_answers : mg "_law_answers" = some (.ref (ad 11))
  b__law_answers : Binds K (fd 11) ["draws", "many", "odds"] []
  F__law_lined : Fun K "_law_lined" "_law_lined" s__law_lined (ad 12) (fd 12)
  g__law_lined : mg "_law_lined" = some (.ref (ad 12))
  b__law_lined : Binds K (fd 12) ["draws", "many"] []
  F__law_exchanged : Fun K "_law_exchanged" "_law_exchanged" s__law_exchanged (ad 13) (fd 13)
  g__law_exchanged : mg "_law_exchanged" = some (.ref (ad 13))
  b__law_exchanged : Binds K (fd 13) ["draws", "answers"] []
  F__law_close : Fun K "_law_close" "_law_close" s__law_close (ad 14) (fd 14)
  g__law_close : mg "_law_close" = some (.ref (ad 14))
  b__law_close : Binds K (fd 14) ["some", "near"] []
  F__law_rule : Fun K "_law_rule" "_law_rule" s__law_rule (ad 15) (fd 15)
  g__law_rule : mg "_law_rule" = some (.ref (ad 15))
  b__law_rule : Binds K (fd 15) ["draws", "many"] []
  F__law_inserted : Fun K "_law_inserted" "_law_inserted" s__law_inserted (ad 16) (fd 16)
  g__law_inserted : mg "_law_inserted" = some (.ref (ad 16))
  b__law_inserted : Binds K (fd 16) ["a_rule", "items"] []
  F__law_mixed : Fun K "_law_mixed" "_law_mixed" s__law_mixed (ad 17) (fd 17)
  g__law_mixed : mg "_law_mixed" = some (.ref (ad 17))
  b__law_mixed : Binds K (fd 17) ["draws", "many"] []
  F__law_kept : Fun K "_law_kept" "_law_kept" s__law_kept (ad 18) (fd 18)
  g__law_kept : mg "_law_kept" = some (.ref (ad 18))
  b__law_kept : Binds K (fd 18) ["a_rule", "a_row"] []
  F__law_odd_rows : Fun K "_law_odd_rows" "_law_odd_rows" s__law_odd_rows (ad 19) (fd 19)
  g__law_odd_rows : mg "_law_odd_rows" = some (.ref (ad 19))
  b__law_odd_rows : Binds K (fd 19) ["a_row"] []
  F__law_right : Fun K "_law_right" "_law_right" s__law_right (ad 20) (fd 20)
  g__law_right : mg "_law_right" = some (.ref (ad 20))
  b__law_right : Binds K (fd 20) ["draws"] []
  F_law : Fun K "law" "law" s_law (ad 21) (fd 21)
  g_law : mg "law" = some (.ref (ad 21))
  b_law : Binds K (fd 21) ["script"] []
  b_ValueError : mg "ValueError" = none
  b_all : mg "all" = none
  b_bool : mg "bool" = none
  b_enumerate : mg "enumerate" = none
  b_int : mg "int" = none
  b_isinstance : mg "isinstance" = none
  b_len : mg "len" = none
  b_list : mg "list" = none
  b_range : mg "range" = none
  b_repr : mg "repr" = none
  b_str : mg "str" = none
  b_tuple : mg "tuple" = none
  vV : PySem.W.findCls K (.type "ValueError") (.type "type") "__init__" = some (.val (.builtin "ValueError.__init__"))
  O_InvalidRow : OexC K (ca 0)
  iC_InvalidRow : PySem.W.findIn K (.ref (ca 0)) "__init__" = some (some (.ref (ia 0)))
  tI_InvalidRow : PySem.W.typeIn K (.ref (ia 0)) = some (.type "function")
  I_InvalidRow : Fun K "__init__" "InvalidRow.__init__" s_I_InvalidRow (ia 0) (ifd 0)
  bI_InvalidRow : Binds K (ifd 0) ["self", "place"] []
  gC_InvalidRow : mg "InvalidRow" = some (.ref (ca 0))
  noF_InvalidRow : PySem.W.findIn K (.ref (ca 0)) "place" = some none
  kc_InvalidRow : KcC K (ca 0) "place"
  ex_InvalidRow : PySem.W.exmOne K (.ref (ca 0)) (.ref (ca 0)) = some true
  kt_InvalidRow : PySem.W.kitOne K (.ref (ca 0)) (.type "ValueError") = some true
section
variable {P : Program} {w : World} {K : PySem.W.Frag} {mg : Str → Option Value} {base : Heap} {ad : Nat → Addr} {fd : Nat → FuncData} {ca ia : Nat → Addr} {ifd : Nat → FuncData}
theorem oki_InvalidRow (T : Tx K mg ad fd ca ia ifd) : FnOk P w K mg base CX0 1 (ia 0) (ifd 0) ["self", "place"] (spI "place" (ca 0)) := by
  refine T.I_InvalidRow.ok sc_I_InvalidRow (fun vs H Q E h => by obtain ⟨a, v, rfl, _⟩ := h; rfl) (fun cdv A ou s H vs Q E hr h => ⟨_, pss_cons (ps_expr (pe_veinit (by rfl) T.b_ValueError T.vV (pa_cons (pv 0) (pa_cons pe_str pa_nil)))) (pss_one (ps_ost (pv 0) (pv 1))), ?_⟩)
  exact init_read rfl T.O_InvalidRow T.noF_InvalidRow h
def m_is_whole : MF := mDef 1 1 none
    (mRet (mAndV (mIsi "int" (mVar 0)) (mNotV (mIsi "bool" (mVar 0)))))
theorem ok_is_whole (T : Tx K mg ad fd ca ia ifd) : FnG P w K mg base 1 (ad 0) (fd 0) ["thing"] (spOf none m_is_whole) := by
  refine okG T.F_is_whole sc_is_whole (fun vs H Q E h => by_len h) (fun cdv A ou s H vs Q E hr gu h => ⟨_, (pss_one (ps_ret (pe_and (pe_callB (isiK (K := K)) (by rfl) T.b_isinstance (by decide +kernel) (pa_cons (pv 0) (pa_cons (pe_bltn (v := .ty "int") (by rfl) T.b_int (by decide +kernel) rfl) pa_nil))) (pe_one (pe_not (pe_callB (isiK (K := K)) (by rfl) T.b_isinstance (by decide +kernel) (pa_cons (pv 0) (pa_cons (pe_bltn (v := .ty "bool") (by rfl) T.b_bool (by decide +kernel) rfl) pa_nil)))))))), ?_⟩)
  exact def_ok (N := ["thing"]) (m := (mRet (mAndV (mIsi "int" (mVar 0)) (mNotV (mIsi "bool" (mVar 0)))))) ((rs_ret (re_andV (re_isi "int" re_var) (re_notV (re_isi "bool" re_var))))) h
def m_is_item : MF := mDef 2 2 none
    (mRet (mAndV (mFz (mCall m_is_whole (mCons (mVar 1) mNil))) (mChain (gI0 fun i j => .bool (decide (i ≤ j))) (gI0 fun i j => .bool (decide (i < j))) (mC (.int 0)) (mVar 1) (mVar 0))))
theorem ok_is_item (T : Tx K mg ad fd ca ia ifd) : FnG P w K mg base 2 (ad 1) (fd 1) ["size", "thing"] (spOf none m_is_item) := by
  refine okG T.F_is_item sc_is_item (fun vs H Q E h => by_len h) (fun cdv A ou s H vs Q E hr gu h => ⟨_, (pss_one (ps_ret (pe_and (pe_callG (ok_is_whole T) (hr.mono (by decide)) gu (by rfl) T.g_is_whole T.F_is_whole.kp T.b_is_whole .nil (pa_cons (pv 1) pa_nil)) (pe_one (pe_chain op_le op_lt pe_int (pv 1) (pv 0)))))), ?_⟩)
  exact def_ok (N := ["size", "thing"]) (m := (mRet (mAndV (mFz (mCall m_is_whole (mCons (mVar 1) mNil))) (mChain (gI0 fun i j => .bool (decide (i ≤ j))) (gI0 fun i j => .bool (decide (i < j))) (mC (.int 0)) (mVar 1) (mVar 0))))) ((rs_ret (re_andV (re_o (ro_call (ra_cons re_var ra_nil))) (re_chain b_le b_lt re_int re_var re_var)))) h
def m_is_answer : MF := mDef 1 1 none
    (mRet (mAndV (mFz (mCall m_is_whole (mCons (mVar 0) mNil))) (mChain (gI0 fun i j => .bool (decide (i ≤ j))) (gI0 fun i j => .bool (decide (i ≤ j))) (mUn gNeg (mC (.int 1))) (mVar 0) (mC (.int 1)))))
theorem ok_is_answer (T : Tx K mg ad fd ca ia ifd) : FnG P w K mg base 2 (ad 2) (fd 2) ["thing"] (spOf none m_is_answer) := by
  refine okG T.F_is_answer sc_is_answer (fun vs H Q E h => by_len h) (fun cdv A ou s H vs Q E hr gu h => ⟨_, (pss_one (ps_ret (pe_and (pe_callG (ok_is_whole T) (hr.mono (by decide)) gu (by rfl) T.g_is_whole T.F_is_whole.kp T.b_is_whole .nil (pa_cons (pv 0) pa_nil)) (pe_one (pe_chain op_le op_le (pe_un un_neg pe_int) (pv 0) pe_int))))), ?_⟩)
  exact def_ok (N := ["thing"]) (m := (mRet (mAndV (mFz (mCall m_is_whole (mCons (mVar 0) mNil))) (mChain (gI0 fun i j => .bool (decide (i ≤ j))) (gI0 fun i j => .bool (decide (i ≤ j))) (mUn gNeg (mC (.int 1))) (mVar 0) (mC (.int 1)))))) ((rs_ret (re_andV (re_o (ro_call (ra_cons re_var ra_nil))) (re_chain b_le b_le (re_un re_int u_neg) re_var re_int)))) h
def m_check_rule : MF := mDef 6 1 none
    (mSeq (mIf (mOr (mNot (mT (mIsi "list" (mVar 0)))) (mNot (mT (mFn gAll (mCons (mLE (mLc (mItL (mVar 0)) (mgN 3) mYes (mIsi "list" (mVar 3)) [3])) mNil))))) mNever mNext)
    (mSeq (mAsg (mFn gLen (mCons (mVar 0) mNil)) (mgN 1))
    (mSeq (mFor (mEnum (mCons (mVar 0) mNil)) (mgT [2, 3]) (mIf (mOr (mT (mBin (gEq true) (mFn gLen (mCons (mVar 3) mNil)) (mVar 1))) (mNot (mT (mFn gAll (mCons (mLE (mLc (mItL (mVar 3)) (mgN 5) mYes (mFz (mCall m_is_answer (mCons (mVar 5) mNil))) [5])) mNil))))) mNever mNext))
    (mFor (mEnum (mCons (mVar 0) mNil)) (mgT [2, 3]) (mFor (mEnum (mCons (mVar 3) mNil)) (mgT [4, 5]) (mIf (mT (mBin (gEq true) (mVar 5) (mUn gNeg (mBin gIx (mBin gIx (mVar 0) (mVar 4)) (mVar 2))))) mNever mNext))))))
theorem ok_check_rule (T : Tx K mg ad fd ca ia ifd) : FnG P w K mg base 3 (ad 3) (fd 3) ["rule"] (spOf none m_check_rule) := by
  refine okG T.F_check_rule sc_check_rule (fun vs H Q E h => by_len h) (fun cdv A ou s H vs Q E hr gu h => ⟨_, (pss_cons (ps_if (PW.pt (pw_or (pt_not (pt_val (pe_callB (isiK (K := K)) (by rfl) T.b_isinstance (by decide +kernel) (pa_cons (pv 0) (pa_cons (pe_bltn (v := .ty "list") (by rfl) T.b_list (by decide +kernel) rfl) pa_nil))))) (pw_or1 (pt_not (pt_val (pe_callB (allK (K := K) rfl) (by rfl) T.b_all (by decide +kernel) (pa_cons (pe_lc (own := [("row", 3)]) (g := gName 3) (tt := tYes) rfl sc_check_rule.nd (pi_listK (K := K) (pv 0)) (blkOk_by (own := [("row", 3)]) (by kernel_rfl)) (fun _ _ _ _ _ => (pg_name (i := 3) sc_check_rule.nd rfl (Or.inl rfl))) (fun _ _ _ _ _ => pts_nil) (fun _ _ _ _ _ => (pe_callB (isiK (K := K)) (by rfl) T.b_isinstance (by decide +kernel) (pa_cons (pv 3) (pa_cons (pe_bltn (v := .ty "list") (by rfl) T.b_list (by decide +kernel) rfl) pa_nil))))) pa_nil))))))) (pss_one ps_never) pss_nil)
      (pss_cons (ps_set (i := 1) sc_check_rule.nd rfl (Or.inl rfl) (pe_callB (lenK (K := K)) (by rfl) T.b_len PySem.boot_len (pa_cons (pv 0) pa_nil)))
      (pss_cons (ps_for PassesOwn.never rfl (pi_enumK (K := K) (by rfl) T.b_enumerate (pa_cons (pv 0) pa_nil)) (pg_tupK (K := K) rfl (pgs_cons (pg_name (i := 2) sc_check_rule.nd rfl (Or.inl rfl)) (pgs_cons (pg_name (i := 3) sc_check_rule.nd rfl (Or.inl rfl)) pgs_nil))) (pss_one (ps_if (PW.pt (pw_or (pt_cmpR (neK (K := K) hr.units) (pe_callB (lenK (K := K)) (by rfl) T.b_len PySem.boot_len (pa_cons (pv 3) pa_nil)) (pv 1) (nomark _)) (pw_or1 (pt_not (pt_val (pe_callB (allK (K := K) rfl) (by rfl) T.b_all (by decide +kernel) (pa_cons (pe_lc (own := [("answer", 5)]) (g := gName 5) (tt := tYes) rfl sc_check_rule.nd (pi_listK (K := K) (pv 3)) (blkOk_by (own := [("answer", 5)]) (by kernel_rfl)) (fun _ _ _ _ _ => (pg_name (i := 5) sc_check_rule.nd rfl (Or.inl rfl))) (fun _ _ _ _ _ => pts_nil) (fun _ _ _ _ _ => (pe_callG (ok_is_answer T) (hr.mono (by decide)) gu (by rfl) T.g_is_answer T.F_is_answer.kp T.b_is_answer .nil (pa_cons (pv 5) pa_nil)))) pa_nil))))))) (pss_one ps_never) pss_nil)))
      (pss_one (ps_for PassesOwn.never rfl (pi_enumK (K := K) (by rfl) T.b_enumerate (pa_cons (pv 0) pa_nil)) (pg_tupK (K := K) rfl (pgs_cons (pg_name (i := 2) sc_check_rule.nd rfl (Or.inl rfl)) (pgs_cons (pg_name (i := 3) sc_check_rule.nd rfl (Or.inl rfl)) pgs_nil))) (pss_one (ps_for PassesOwn.never rfl (pi_enumK (K := K) (by rfl) T.b_enumerate (pa_cons (pv 3) pa_nil)) (pg_tupK (K := K) rfl (pgs_cons (pg_name (i := 4) sc_check_rule.nd rfl (Or.inl rfl)) (pgs_cons (pg_name (i := 5) sc_check_rule.nd rfl (Or.inl rfl)) pgs_nil))) (pss_one (ps_if (pt_cmpR (neK (K := K) hr.units) (pv 5) (pe_un un_neg (pe_ix (ixK (K := K)) (pe_ix (ixK (K := K)) (pv 0) (pv 4) (fun _ _ => rfl)) (pv 2) (fun _ _ => rfl))) (nomark _)) (pss_one ps_never) pss_nil))))))))), ?_⟩)
  exact def_ok (N := ["rule", "size", "item", "row", "other", "answer"]) (m := (mSeq (mIf (mOr (mNot (mT (mIsi "list" (mVar 0)))) (mNot (mT (mFn gAll (mCons (mLE (mLc (mItL (mVar 0)) (mgN 3) mYes (mIsi "list" (mVar 3)) [3])) mNil))))) mNever mNext)
    (mSeq (mAsg (mFn gLen (mCons (mVar 0) mNil)) (mgN 1))
    (mSeq (mFor (mEnum (mCons (mVar 0) mNil)) (mgT [2, 3]) (mIf (mOr (mT (mBin (gEq true) (mFn gLen (mCons (mVar 3) mNil)) (mVar 1))) (mNot (mT (mFn gAll (mCons (mLE (mLc (mItL (mVar 3)) (mgN 5) mYes (mFz (mCall m_is_answer (mCons (mVar 5) mNil))) [5])) mNil))))) mNever mNext))
    (mFor (mEnum (mCons (mVar 0) mNil)) (mgT [2, 3]) (mFor (mEnum (mCons (mVar 3) mNil)) (mgT [4, 5]) (mIf (mT (mBin (gEq true) (mVar 5) (mUn gNeg (mBin gIx (mBin gIx (mVar 0) (mVar 4)) (mVar 2))))) mNever mNext))))))) ((rs_seq (rs_if (rt_or (rt_not (rt_B (re_isi "list" re_var))) (rt_not (rt_B (re_fn (ra_cons (re_lc (ri_list re_var) rg_name rt_yes (re_isi "list" re_var)) ra_nil) f_all)))) rs_never rs_next)
      (rs_seq (rs_asg (re_fn (ra_cons re_var ra_nil) f_len) rg_name)
      (rs_seq (rs_for (ri_enum (ra_cons re_var ra_nil)) (rg_tup (rgs_cons (rgs_cons rgs_nil))) (rs_if (rt_or (rt_test (re_bin (re_fn (ra_cons re_var ra_nil) f_len) re_var b_ne)) (rt_not (rt_B (re_fn (ra_cons (re_lc (ri_list re_var) rg_name rt_yes (re_o (ro_call (ra_cons re_var ra_nil)))) ra_nil) f_all)))) rs_never rs_next))
      (rs_for (ri_enum (ra_cons re_var ra_nil)) (rg_tup (rgs_cons (rgs_cons rgs_nil))) (rs_for (ri_enum (ra_cons re_var ra_nil)) (rg_tup (rgs_cons (rgs_cons rgs_nil))) (rs_if (rt_test (re_bin re_var (re_un (re_bin (re_bin re_var re_var b_ix) re_var b_ix) u_neg) b_ne)) rs_never rs_next))))))) h
def m_check_row : MF := mDef 5 2 none
    (mSeq (mAsg (mFn gLen (mCons (mVar 0) mNil)) (mgN 2))
    (mSeq (mIf (mOr (mNot (mT (mIsi "list" (mVar 1)))) (mT (mBin (gEq true) (mFn gLen (mCons (mVar 1) mNil)) (mVar 2)))) mNever mNext)
    (mFor (mEnum (mCons (mVar 1) mNil)) (mgT [3, 4]) (mIf (mOr (mNot (mT (mFz (mCall m_is_item (mCons (mVar 2) (mCons (mVar 4) mNil)))))) (mT (mBin (gIn false) (mVar 4) (mLE (mSl (mVar 1) mNoPart (mPart (mVar 3))))))) mNever mNext))))
theorem ok_check_row (T : Tx K mg ad fd ca ia ifd) : FnG P w K mg base 3 (ad 4) (fd 4) ["rule", "row"] (spOf none m_check_row) := by
  refine okG T.F_check_row sc_check_row (fun vs H Q E h => by_len h) (fun cdv A ou s H vs Q E hr gu h => ⟨_, (pss_cons (ps_set (i := 2) sc_check_row.nd rfl (Or.inl rfl) (pe_callB (lenK (K := K)) (by rfl) T.b_len PySem.boot_len (pa_cons (pv 0) pa_nil)))
      (pss_cons (ps_if (PW.pt (pw_or (pt_not (pt_val (pe_callB (isiK (K := K)) (by rfl) T.b_isinstance (by decide +kernel) (pa_cons (pv 1) (pa_cons (pe_bltn (v := .ty "list") (by rfl) T.b_list (by decide +kernel) rfl) pa_nil))))) (pw_or1 (pt_cmpR (neK (K := K) hr.units) (pe_callB (lenK (K := K)) (by rfl) T.b_len PySem.boot_len (pa_cons (pv 1) pa_nil)) (pv 2) (nomark _))))) (pss_one ps_never) pss_nil)
      (pss_one (ps_for PassesOwn.never rfl (pi_enumK (K := K) (by rfl) T.b_enumerate (pa_cons (pv 1) pa_nil)) (pg_tupK (K := K) rfl (pgs_cons (pg_name (i := 3) sc_check_row.nd rfl (Or.inl rfl)) (pgs_cons (pg_name (i := 4) sc_check_row.nd rfl (Or.inl rfl)) pgs_nil))) (pss_one (ps_if (PW.pt (pw_or (pt_not (pt_val (pe_callG (ok_is_item T) (hr.mono (by decide)) gu (by rfl) T.g_is_item T.F_is_item.kp T.b_is_item .nil (pa_cons (pv 2) (pa_cons (pv 4) pa_nil))))) (pw_or1 (pt_cmpR (inK (K := K)) (pv 4) (pe_slice (slK (K := K)) (pv 1) po_none (po_some (pv 3))) (by with_unfolding_all rfl))))) (pss_one ps_never) pss_nil)))))), ?_⟩)
  exact def_ok (N := ["rule", "row", "size", "place", "item"]) (m := (mSeq (mAsg (mFn gLen (mCons (mVar 0) mNil)) (mgN 2))
    (mSeq (mIf (mOr (mNot (mT (mIsi "list" (mVar 1)))) (mT (mBin (gEq true) (mFn gLen (mCons (mVar 1) mNil)) (mVar 2)))) mNever mNext)
    (mFor (mEnum (mCons (mVar 1) mNil)) (mgT [3, 4]) (mIf (mOr (mNot (mT (mFz (mCall m_is_item (mCons (mVar 2) (mCons (mVar 4) mNil)))))) (mT (mBin (gIn false) (mVar 4) (mLE (mSl (mVar 1) mNoPart (mPart (mVar 3))))))) mNever mNext))))) ((rs_seq (rs_asg (re_fn (ra_cons re_var ra_nil) f_len) rg_name)
      (rs_seq (rs_if (rt_or (rt_not (rt_B (re_isi "list" re_var))) (rt_test (re_bin (re_fn (ra_cons re_var ra_nil) f_len) re_var b_ne))) rs_never rs_next)
      (rs_for (ri_enum (ra_cons re_var ra_nil)) (rg_tup (rgs_cons (rgs_cons rgs_nil))) (rs_if (rt_or (rt_not (rt_B (re_o (ro_call (ra_cons re_var (ra_cons re_var ra_nil)))))) (rt_test (re_bin re_var (re_l (rl_sl re_var rq_none (rq_some re_var))) (b_in false)))) rs_never rs_next))))) h
def x_check_row : XF := xDef 5 2
    (xSeq (xLift (mAsg (mFn gLen (mCons (mVar 0) mNil)) (mgN 2)))
    (xSeq (mIf (mOr (mNot (mT (mIsi "list" (mVar 1)))) (mT (mBin (gEq true) (mFn gLen (mCons (mVar 1) mNil)) (mVar 2)))) (xRaise 0 (mCons (mC .none) mNil)) (xLift mNext))
    (xFor (mEnum (mCons (mVar 1) mNil)) (mgT [3, 4]) (mIf (mOr (mNot (mT (mFz (mCall m_is_item (mCons (mVar 2) (mCons (mVar 4) mNil)))))) (mT (mBin (gIn false) (mVar 4) (mLE (mSl (mVar 1) mNoPart (mPart (mVar 3))))))) (xRaise 0 (mCons (mVar 3) mNil)) (xLift mNext)))))
theorem okx_check_row (T : Tx K mg ad fd ca ia ifd) : FnX P w K mg base 3 (ad 4) (fd 4) ["rule", "row"] (spX (clOf ca) x_check_row) := by
  refine okX T.F_check_row sc_check_row (fun vs H Q E h => byX_len h) (fun cdv A ou s H vs Q E hr gu h => ⟨_, (pss_cons (ps_set (i := 2) sc_check_row.nd rfl (Or.inl rfl) (pe_callB (lenK (K := K)) (by rfl) T.b_len PySem.boot_len (pa_cons (pv 0) pa_nil)))
      (pss_cons (ps_if (PW.pt (pw_or (pt_not (pt_val (pe_callB (isiK (K := K)) (by rfl) T.b_isinstance (by decide +kernel) (pa_cons (pv 1) (pa_cons (pe_bltn (v := .ty "list") (by rfl) T.b_list (by decide +kernel) rfl) pa_nil))))) (pw_or1 (pt_cmpR (neK (K := K) hr.units) (pe_callB (lenK (K := K)) (by rfl) T.b_len PySem.boot_len (pa_cons (pv 1) pa_nil)) (pv 2) (nomark _))))) (pss_one (ps_raise rfl (takes_of rfl rfl rfl rfl) (pmk_oex T.O_InvalidRow T.iC_InvalidRow T.tI_InvalidRow (oki_InvalidRow T) (hr.mono (by decide)) T.bI_InvalidRow .nil pass0 (by rfl) T.gC_InvalidRow (pa_cons pe_non pa_nil)))) pss_nil)
      (pss_one (ps_for (passes_of rfl) rfl (pi_enumK (K := K) (by rfl) T.b_enumerate (pa_cons (pv 1) pa_nil)) (pg_tupK (K := K) rfl (pgs_cons (pg_name (i := 3) sc_check_row.nd rfl (Or.inl rfl)) (pgs_cons (pg_name (i := 4) sc_check_row.nd rfl (Or.inl rfl)) pgs_nil))) (pss_one (ps_if (PW.pt (pw_or (pt_not (pt_val (pe_callG (ok_is_item T) (hr.mono (by decide)) gu (by rfl) T.g_is_item T.F_is_item.kp T.b_is_item .nil (pa_cons (pv 2) (pa_cons (pv 4) pa_nil))))) (pw_or1 (pt_cmpR (inK (K := K)) (pv 4) (pe_slice (slK (K := K)) (pv 1) po_none (po_some (pv 3))) (by with_unfolding_all rfl))))) (pss_one (ps_raise rfl (takes_of rfl rfl rfl rfl) (pmk_oex T.O_InvalidRow T.iC_InvalidRow T.tI_InvalidRow (oki_InvalidRow T) (hr.mono (by decide)) T.bI_InvalidRow .nil pass0 (by rfl) T.gC_InvalidRow (pa_cons (pv 3) pa_nil)))) pss_nil)))))), ?_⟩)
  exact def_okX (N := ["rule", "row", "size", "place", "item"]) (m := (xSeq (xLift (mAsg (mFn gLen (mCons (mVar 0) mNil)) (mgN 2)))
    (xSeq (mIf (mOr (mNot (mT (mIsi "list" (mVar 1)))) (mT (mBin (gEq true) (mFn gLen (mCons (mVar 1) mNil)) (mVar 2)))) (xRaise 0 (mCons (mC .none) mNil)) (xLift mNext))
    (xFor (mEnum (mCons (mVar 1) mNil)) (mgT [3, 4]) (mIf (mOr (mNot (mT (mFz (mCall m_is_item (mCons (mVar 2) (mCons (mVar 4) mNil)))))) (mT (mBin (gIn false) (mVar 4) (mLE (mSl (mVar 1) mNoPart (mPart (mVar 3))))))) (xRaise 0 (mCons (mVar 3) mNil)) (xLift mNext)))))) ((rx_seq (rx_lift (rs_asg (re_fn (ra_cons re_var ra_nil) f_len) rg_name))
      (rx_seq (rx_if (rt_or (rt_not (rt_B (re_isi "list" re_var))) (rt_test (re_bin (re_fn (ra_cons re_var ra_nil) f_len) re_var b_ne))) (rx_raise (cl := clOf ca) rfl (ra_cons re_non ra_nil)) (rx_lift rs_next))
      (rx_for (ri_enum (ra_cons re_var ra_nil)) (rg_tup (rgs_cons (rgs_cons rgs_nil))) (rx_if (rt_or (rt_not (rt_B (re_o (ro_call (ra_cons re_var (ra_cons re_var ra_nil)))))) (rt_test (re_bin re_var (re_l (rl_sl re_var rq_none (rq_some re_var))) (b_in false)))) (rx_raise (cl := clOf ca) rfl (ra_cons re_var ra_nil)) (rx_lift rs_next)))))) h
def m_may_precede : MF := mDef 3 3 none
    (mRet (mBin (gEq true) (mBin gIx (mBin gIx (mVar 0) (mVar 1)) (mVar 2)) (mC (.int 1))))
theorem ok_may_precede (T : Tx K mg ad fd ca ia ifd) : FnG P w K mg base 1 (ad 5) (fd 5) ["rule", "one", "other"] (spOf none m_may_precede) := by
  refine okG T.F_may_precede sc_may_precede (fun vs H Q E h => by_len h) (fun cdv A ou s H vs Q E hr gu h => ⟨_, (pss_one (ps_ret (pe_cmpR (neK (K := K) hr.units) (pe_ix (ixK (K := K)) (pe_ix (ixK (K := K)) (pv 0) (pv 1) (fun _ _ => rfl)) (pv 2) (fun _ _ => rfl)) pe_int (nomark _)))), ?_⟩)
  exact def_ok (N := ["rule", "one", "other"]) (m := (mRet (mBin (gEq true) (mBin gIx (mBin gIx (mVar 0) (mVar 1)) (mVar 2)) (mC (.int 1))))) ((rs_ret (re_bin (re_bin (re_bin re_var re_var b_ix) re_var b_ix) re_int b_ne))) h
def m_first_break : MF := mDef 3 2 none
    (mSeq (mFor (mRng1 (mCons (mBin (gI0 fun i j => .int (i - j)) (mFn gLen (mCons (mVar 1) mNil)) (mC (.int 1))) mNil)) (mgN 2) (mIf (mNot (mT (mFz (mCall m_may_precede (mCons (mVar 0) (mCons (mBin gIx (mVar 1) (mVar 2)) (mCons (mBin gIx (mVar 1) (mBin (gI0 fun i j => .int (i + j)) (mVar 2) (mC (.int 1)))) mNil))))))) (mRet (mVar 2)) mNext))
    (mRet (mC .none)))
theorem ok_first_break (T : Tx K mg ad fd ca ia ifd) : FnG P w K mg base 2 (ad 6) (fd 6) ["rule", "items"] (spOf none m_first_break) := by
  refine okG T.F_first_break sc_first_break (fun vs H Q E h => by_len h) (fun cdv A ou s H vs Q E hr gu h => ⟨_, (pss_cons (ps_for PassesOwn.never rfl (pi_range1 (by rfl) T.b_range (pa_cons (pe_op op_sub (pe_callB (lenK (K := K)) (by rfl) T.b_len PySem.boot_len (pa_cons (pv 1) pa_nil)) pe_int) pa_nil)) (pg_name (i := 2) sc_first_break.nd rfl (Or.inl rfl)) (pss_one (ps_if (pt_not (pt_val (pe_callG (ok_may_precede T) (hr.mono (by decide)) gu (by rfl) T.g_may_precede T.F_may_precede.kp T.b_may_precede .nil (pa_cons (pv 0) (pa_cons (pe_ix (ixK (K := K)) (pv 1) (pv 2) (fun _ _ => rfl)) (pa_cons (pe_ix (ixK (K := K)) (pv 1) (pe_op op_add (pv 2) pe_int) (fun _ _ => rfl)) pa_nil)))))) (pss_one (ps_ret (pv 2))) pss_nil)))
      (pss_one (ps_ret pe_non))), ?_⟩)
  exact def_ok (N := ["rule", "items", "place"]) (m := (mSeq (mFor (mRng1 (mCons (mBin (gI0 fun i j => .int (i - j)) (mFn gLen (mCons (mVar 1) mNil)) (mC (.int 1))) mNil)) (mgN 2) (mIf (mNot (mT (mFz (mCall m_may_precede (mCons (mVar 0) (mCons (mBin gIx (mVar 1) (mVar 2)) (mCons (mBin gIx (mVar 1) (mBin (gI0 fun i j => .int (i + j)) (mVar 2) (mC (.int 1)))) mNil))))))) (mRet (mVar 2)) mNext))
    (mRet (mC .none)))) ((rs_seq (rs_for (ri_rng1 (ra_cons (re_bin (re_fn (ra_cons re_var ra_nil) f_len) re_int b_sub) ra_nil)) rg_name (rs_if (rt_not (rt_B (re_o (ro_call (ra_cons re_var (ra_cons (re_bin re_var re_var b_ix) (ra_cons (re_bin re_var (re_bin re_var re_int b_add) b_ix) ra_nil))))))) (rs_ret re_var) rs_next))
      (rs_ret re_non))) h
def m_wrong_place : MF := mDef 2 2 none
    (mSeq (mDrop (mFz (mCall m_check_rule (mCons (mVar 0) mNil))))
    (mSeq (mDrop (mFz (mCall m_check_row (mCons (mVar 0) (mCons (mVar 1) mNil)))))
    (mRet (mFz (mCall m_first_break (mCons (mVar 0) (mCons (mVar 1) mNil)))))))
theorem ok_wrong_place (T : Tx K mg ad fd ca ia ifd) : FnG P w K mg base 4 (ad 7) (fd 7) ["rule", "row"] (spOf none m_wrong_place) := by
  refine okG T.F_wrong_place sc_wrong_place (fun vs H Q E h => by_len h) (fun cdv A ou s H vs Q E hr gu h => ⟨_, (pss_cons (ps_expr (pe_callG (ok_check_rule T) (hr.mono (by decide)) gu (by rfl) T.g_check_rule T.F_check_rule.kp T.b_check_rule .nil (pa_cons (pv 0) pa_nil)))
      (pss_cons (ps_expr (pe_callG (ok_check_row T) (hr.mono (by decide)) gu (by rfl) T.g_check_row T.F_check_row.kp T.b_check_row .nil (pa_cons (pv 0) (pa_cons (pv 1) pa_nil))))
      (pss_one (ps_ret (pe_callG (ok_first_break T) (hr.mono (by decide)) gu (by rfl) T.g_first_break T.F_first_break.kp T.b_first_break .nil (pa_cons (pv 0) (pa_cons (pv 1) pa_nil))))))), ?_⟩)
  exact def_ok (N := ["rule", "row"]) (m := (mSeq (mDrop (mFz (mCall m_check_rule (mCons (mVar 0) mNil))))
    (mSeq (mDrop (mFz (mCall m_check_row (mCons (mVar 0) (mCons (mVar 1) mNil)))))
    (mRet (mFz (mCall m_first_break (mCons (mVar 0) (mCons (mVar 1) mNil)))))))) ((rs_seq (rs_drop (re_o (ro_call (ra_cons re_var ra_nil))))
      (rs_seq (rs_drop (re_o (ro_call (ra_cons re_var (ra_cons re_var ra_nil)))))
      (rs_ret (re_o (ro_call (ra_cons re_var (ra_cons re_var ra_nil)))))))) h
def x_wrong_place : XF := xDef 2 2
    (xSeq (xLift (mDrop (mFz (mCall m_check_rule (mCons (mVar 0) mNil)))))
    (xSeq (xCall x_check_row (mCons (mVar 0) (mCons (mVar 1) mNil)))
    (xLift (mRet (mFz (mCall m_first_break (mCons (mVar 0) (mCons (mVar 1) mNil))))))))
theorem okx_wrong_place (T : Tx K mg ad fd ca ia ifd) : FnX P w K mg base 4 (ad 7) (fd 7) ["rule", "row"] (spX (clOf ca) x_wrong_place) := by
  refine okX T.F_wrong_place sc_wrong_place (fun vs H Q E h => byX_len h) (fun cdv A ou s H vs Q E hr gu h => ⟨_, (pss_cons (ps_expr (pe_callG (ok_check_rule T) (hr.mono (by decide)) gu (by rfl) T.g_check_rule T.F_check_rule.kp T.b_check_rule .nil (pa_cons (pv 0) pa_nil)))
      (pss_cons (ps_expr (pe_callX (okx_check_row T) (hr.mono (by decide)) gu (by rfl) T.g_check_row T.F_check_row.kp T.b_check_row (fun σ => passAt (takes_of rfl rfl rfl rfl) σ) (pa_cons (pv 0) (pa_cons (pv 1) pa_nil))))
      (pss_one (ps_ret (pe_callG (ok_first_break T) (hr.mono (by decide)) gu (by rfl) T.g_first_break T.F_first_break.kp T.b_first_break .nil (pa_cons (pv 0) (pa_cons (pv 1) pa_nil))))))), ?_⟩)
  exact def_okX (N := ["rule", "row"]) (m := (xSeq (xLift (mDrop (mFz (mCall m_check_rule (mCons (mVar 0) mNil)))))
    (xSeq (xCall x_check_row (mCons (mVar 0) (mCons (mVar 1) mNil)))
    (xLift (mRet (mFz (mCall m_first_break (mCons (mVar 0) (mCons (mVar 1) mNil))))))))) ((rx_seq (rx_lift (rs_drop (re_o (ro_call (ra_cons re_var ra_nil)))))
      (rx_seq (rx_call (ra_cons re_var (ra_cons re_var ra_nil)))
      (rx_lift (rs_ret (re_o (ro_call (ra_cons re_var (ra_cons re_var ra_nil))))))))) h
def m__law_draws : MF := mDef 1 1 none
    (mRetO (mLO (mDs (mCons (mBin gMod (mFn gInt (mCons (mVar 0) mNil)) (mBin gPow (mBin gPow (mBin gPow (mC (.int 10)) (mC (.int 60))) (mC (.int 60))) (mC (.int 4)))) (mCons (mC (.int 0)) (mCons (mBin (gI0 fun i j => .bool (decide (j ≤ i))) (mVar 0) (mBin gPow (mC (.int 10)) (mC (.int 18)))) mNil))))))
theorem ok__law_draws (T : Tx K mg ad fd ca ia ifd) : FnG P w K mg base 1 (ad 8) (fd 8) ["cell"] (spOf none m__law_draws) := by
  refine okG T.F__law_draws sc__law_draws (fun vs H Q E h => by_len h) (fun cdv A ou s H vs Q E hr gu h => ⟨_, (pss_one (ps_ret (pe_lst (pa_cons (pe_op op_modN (pe_callTy call_int1 (by rfl) T.b_int (by decide +kernel) (pa_cons (pv 0) pa_nil)) (pe_op op_powX (pe_op op_powX (pe_op op_powX pe_int pe_int) pe_int) pe_int)) (pa_cons pe_int (pa_cons (pe_cmpR op_ge (pv 0) (pe_op op_powX pe_int pe_int) (nomark _)) pa_nil)))))), ?_⟩)
  exact def_ok (N := ["cell"]) (m := (mRetO (mLO (mDs (mCons (mBin gMod (mFn gInt (mCons (mVar 0) mNil)) (mBin gPow (mBin gPow (mBin gPow (mC (.int 10)) (mC (.int 60))) (mC (.int 60))) (mC (.int 4)))) (mCons (mC (.int 0)) (mCons (mBin (gI0 fun i j => .bool (decide (j ≤ i))) (mVar 0) (mBin gPow (mC (.int 10)) (mC (.int 18)))) mNil))))))) ((rs_retO (ro_l (rl_lst (ra_cons (re_bin (re_fn (ra_cons re_var ra_nil) f_int) (re_bin (re_bin (re_bin re_int re_int b_pow) re_int b_pow) re_int b_pow) b_mod) (ra_cons re_int (ra_cons (re_bin re_var (re_bin re_int re_int b_pow) b_ge) ra_nil))) (len_cons (len_cons (len_cons len_nil))))))) h
def m__law_next : MF := mDef 3 1 (some 0)
    (mSeq (mSetI 0 (mC (.int 1)) (mBin (gI0 fun i j => .int (i + j)) (mBin gIx (mVar 0) (mC (.int 1))) (mC (.int 1))))
    (mSeq (mAsg (mBin gIx (mVar 0) (mC (.int 1))) (mgN 1))
    (mSeq (mIf (mT (mBin gIx (mVar 0) (mC (.int 2)))) (mSeq (mAsg (mBin gMod (mFn gInt (mCons (mBin gIx (mVar 0) (mC (.int 0))) mNil)) (mBin gPow (mC (.int 10)) (mC (.int 6)))) (mgN 2))
    (mSeq (mSetI 0 (mC (.int 0)) (mBin gFdiv (mBin gIx (mVar 0) (mC (.int 0))) (mBin gPow (mC (.int 10)) (mC (.int 6)))))
    (mRet (mVar 2)))) mNext)
    (mSeq (mAsg (mBin gMod (mFn gInt (mCons (mBin gMul (mBin (gI0 fun i j => .int (i + j)) (mBin (gI0 fun i j => .int (i + j)) (mBin gMod (mFn gInt (mCons (mBin gIx (mVar 0) (mC (.int 0))) mNil)) (mC (.int 1000003))) (mBin gMul (mBin gMul (mVar 1) (mVar 1)) (mC (.int 7919)))) (mVar 1)) (mC (.int 48271))) mNil)) (mC (.int 2147483629))) (mgN 2))
    (mSeq (mAsg (mBin gMod (mFn gInt (mCons (mBin gMul (mVar 2) (mVar 2)) mNil)) (mC (.int 2147483587))) (mgN 2))
    (mRet (mBin gFdiv (mBin gMod (mFn gInt (mCons (mBin gMul (mVar 2) (mBin (gI0 fun i j => .int (i + j)) (mVar 2) (mC (.int 2)))) mNil)) (mC (.int 2147483579))) (mC (.int 7)))))))))
theorem ok__law_next (T : Tx K mg ad fd ca ia ifd) : FnG P w K mg base 1 (ad 9) (fd 9) ["draws"] (spOf (some 0) m__law_next) := by
  refine okG T.F__law_next sc__law_next (fun vs H Q E h => by_len h) (fun cdv A ou s H vs Q E hr gu h => ⟨_, (pss_cons (ps_asg (pe_op op_add (pe_ix (ixK (K := K)) (pv 0) pe_int (fun _ _ => rfl)) pe_int) (pg_sub (pv 0) pe_int set_list))
      (pss_cons (ps_set (i := 1) sc__law_next.nd rfl (Or.inl rfl) (pe_ix (ixK (K := K)) (pv 0) pe_int (fun _ _ => rfl)))
      (pss_cons (ps_if (pt_val (pe_ix (ixK (K := K)) (pv 0) pe_int (fun _ _ => rfl))) (pss_cons (ps_set (i := 2) sc__law_next.nd rfl (Or.inl rfl) (pe_op op_modN (pe_callTy call_int1 (by rfl) T.b_int (by decide +kernel) (pa_cons (pe_ix (ixK (K := K)) (pv 0) pe_int (fun _ _ => rfl)) pa_nil)) (pe_op op_powX pe_int pe_int)))
      (pss_cons (ps_asg (pe_op op_fdivN (pe_ix (ixK (K := K)) (pv 0) pe_int (fun _ _ => rfl)) (pe_op op_powX pe_int pe_int)) (pg_sub (pv 0) pe_int set_list))
      (pss_one (ps_ret (pv 2))))) pss_nil)
      (pss_cons (ps_set (i := 2) sc__law_next.nd rfl (Or.inl rfl) (pe_op op_modN (pe_callTy call_int1 (by rfl) T.b_int (by decide +kernel) (pa_cons (pe_op op_mulW (pe_op op_add (pe_op op_add (pe_op op_modN (pe_callTy call_int1 (by rfl) T.b_int (by decide +kernel) (pa_cons (pe_ix (ixK (K := K)) (pv 0) pe_int (fun _ _ => rfl)) pa_nil)) pe_int) (pe_op op_mulW (pe_op op_mulW (pv 1) (pv 1)) pe_int)) (pv 1)) pe_int) pa_nil)) pe_int))
      (pss_cons (ps_set (i := 2) sc__law_next.nd rfl (Or.inl rfl) (pe_op op_modN (pe_callTy call_int1 (by rfl) T.b_int (by decide +kernel) (pa_cons (pe_op op_mulW (pv 2) (pv 2)) pa_nil)) pe_int))
      (pss_one (ps_ret (pe_op op_fdivN (pe_op op_modN (pe_callTy call_int1 (by rfl) T.b_int (by decide +kernel) (pa_cons (pe_op op_mulW (pv 2) (pe_op op_add (pv 2) pe_int)) pa_nil)) pe_int) pe_int)))))))), ?_⟩)
  exact def_ok (N := ["draws", "k", "number"]) (m := (mSeq (mSetI 0 (mC (.int 1)) (mBin (gI0 fun i j => .int (i + j)) (mBin gIx (mVar 0) (mC (.int 1))) (mC (.int 1))))
    (mSeq (mAsg (mBin gIx (mVar 0) (mC (.int 1))) (mgN 1))
    (mSeq (mIf (mT (mBin gIx (mVar 0) (mC (.int 2)))) (mSeq (mAsg (mBin gMod (mFn gInt (mCons (mBin gIx (mVar 0) (mC (.int 0))) mNil)) (mBin gPow (mC (.int 10)) (mC (.int 6)))) (mgN 2))
    (mSeq (mSetI 0 (mC (.int 0)) (mBin gFdiv (mBin gIx (mVar 0) (mC (.int 0))) (mBin gPow (mC (.int 10)) (mC (.int 6)))))
    (mRet (mVar 2)))) mNext)
    (mSeq (mAsg (mBin gMod (mFn gInt (mCons (mBin gMul (mBin (gI0 fun i j => .int (i + j)) (mBin (gI0 fun i j => .int (i + j)) (mBin gMod (mFn gInt (mCons (mBin gIx (mVar 0) (mC (.int 0))) mNil)) (mC (.int 1000003))) (mBin gMul (mBin gMul (mVar 1) (mVar 1)) (mC (.int 7919)))) (mVar 1)) (mC (.int 48271))) mNil)) (mC (.int 2147483629))) (mgN 2))
    (mSeq (mAsg (mBin gMod (mFn gInt (mCons (mBin gMul (mVar 2) (mVar 2)) mNil)) (mC (.int 2147483587))) (mgN 2))
    (mRet (mBin gFdiv (mBin gMod (mFn gInt (mCons (mBin gMul (mVar 2) (mBin (gI0 fun i j => .int (i + j)) (mVar 2) (mC (.int 2)))) mNil)) (mC (.int 2147483579))) (mC (.int 7)))))))))) ((rs_seq (rs_setI (re_bin (re_bin re_var re_int b_ix) re_int b_add) re_int)
      (rs_seq (rs_asg (re_bin re_var re_int b_ix) rg_name)
      (rs_seq (rs_if (rt_B (re_bin re_var re_int b_ix)) (rs_seq (rs_asg (re_bin (re_fn (ra_cons (re_bin re_var re_int b_ix) ra_nil) f_int) (re_bin re_int re_int b_pow) b_mod) rg_name)
      (rs_seq (rs_setI (re_bin (re_bin re_var re_int b_ix) (re_bin re_int re_int b_pow) b_fdiv) re_int)
      (rs_ret re_var))) rs_next)
      (rs_seq (rs_asg (re_bin (re_fn (ra_cons (re_bin (re_bin (re_bin (re_bin (re_fn (ra_cons (re_bin re_var re_int b_ix) ra_nil) f_int) re_int b_mod) (re_bin (re_bin re_var re_var b_mul) re_int b_mul) b_add) re_var b_add) re_int b_mul) ra_nil) f_int) re_int b_mod) rg_name)
      (rs_seq (rs_asg (re_bin (re_fn (ra_cons (re_bin re_var re_var b_mul) ra_nil) f_int) re_int b_mod) rg_name)
      (rs_ret (re_bin (re_bin (re_fn (ra_cons (re_bin re_var (re_bin re_var re_int b_add) b_mul) ra_nil) f_int) re_int b_mod) re_int b_fdiv)))))))) h
def m__law_with : MF := mDef 3 3 none
    (mRet (mLE (mBinL gCat (mLE (mBinL gCat (mLE (mSl (mVar 0) mNoPart (mPart (mVar 1)))) (mLE (mDs (mCons (mVar 2) mNil))))) (mLE (mSl (mVar 0) (mPart (mBin (gI0 fun i j => .int (i + j)) (mVar 1) (mC (.int 1)))) mNoPart)))))
theorem ok__law_with (T : Tx K mg ad fd ca ia ifd) : FnG P w K mg base 1 (ad 10) (fd 10) ["a_row", "place", "thing"] (spOf none m__law_with) := by
  refine okG T.F__law_with sc__law_with (fun vs H Q E h => by_len h) (fun cdv A ou s H vs Q E hr gu h => ⟨_, (pss_one (ps_ret (pe_op op_cat (pe_op op_cat (pe_slice (slK (K := K)) (pv 0) po_none (po_some (pv 1))) (pe_lst (pa_cons (pv 2) pa_nil))) (pe_slice (slK (K := K)) (pv 0) (po_some (pe_op op_add (pv 1) pe_int)) po_none)))), ?_⟩)
  exact def_ok (N := ["a_row", "place", "thing"]) (m := (mRet (mLE (mBinL gCat (mLE (mBinL gCat (mLE (mSl (mVar 0) mNoPart (mPart (mVar 1)))) (mLE (mDs (mCons (mVar 2) mNil))))) (mLE (mSl (mVar 0) (mPart (mBin (gI0 fun i j => .int (i + j)) (mVar 1) (mC (.int 1)))) mNoPart)))))) ((rs_ret (re_l (rl_bin (re_l (rl_bin (re_l (rl_sl re_var rq_none (rq_some re_var))) (re_l (rl_lst (ra_cons re_var ra_nil) (len_cons len_nil))) b_cat)) (re_l (rl_sl re_var (rq_some (re_bin re_var re_int b_add)) rq_none)) b_cat)))) h
def m__law_answers : MF := mDef 9 3 (some 0)
    (mSeq (mAsgO 3 (mLO (mLc (mRng1 (mCons (mVar 1) mNil)) (mgN 6) mYes (mLE (mBinL gRep (mLE (mDs (mCons (mC (.int 0)) mNil))) (mVar 1))) [6])))
    (mSeq (mFor (mRng1 (mCons (mVar 1) mNil)) (mgN 4) (mFor (mRng1 (mCons (mVar 4) mNil)) (mgN 5) (mSeq (mAsg (mFz (mCallIo 0 m__law_next (mCons (mVar 0) mNil))) (mgN 7))
    (mSeq (mAsg (mBin gIx (mLE (mDs (mCons (mBin (gI0 fun i j => .int (i - j)) (mC (.int 1)) (mBin gMul (mC (.int 2)) (mBin gMod (mFn gInt (mCons (mVar 7) mNil)) (mC (.int 2))))) (mCons (mC (.int 0)) mNil)))) (mFn gInt (mCons (mBin (gI0 fun i j => .bool (decide (i < j))) (mBin gMod (mFn gInt (mCons (mBin gFdiv (mVar 7) (mC (.int 2))) mNil)) (mBin gIx (mVar 2) (mC (.int 1)))) (mBin gIx (mVar 2) (mC (.int 0)))) mNil))) (mgN 8))
    (mSeq (mSetI 3 (mVar 4) (mFz (mCall m__law_with (mCons (mBin gIx (mVar 3) (mVar 4)) (mCons (mVar 5) (mCons (mVar 8) mNil))))))
    (mSetI 3 (mVar 5) (mFz (mCall m__law_with (mCons (mBin gIx (mVar 3) (mVar 5)) (mCons (mVar 4) (mCons (mUn gNeg (mVar 8)) mNil)))))))))))
    (mRetV 3)))
theorem ok__law_answers (T : Tx K mg ad fd ca ia ifd) : FnG P w K mg base 2 (ad 11) (fd 11) ["draws", "many", "odds"] (spOf (some 0) m__law_answers) := by
  refine okG T.F__law_answers sc__law_answers (fun vs H Q E h => by_len h) (fun cdv A ou s H vs Q E hr gu h => ⟨_, (pss_cons (ps_setLc (i := 3) (own := [("k", 6)]) (g := gName 6) (tt := tYes) rfl sc__law_answers.nd rfl rfl (sw_true rfl rfl rfl (by decide +kernel)) (pi_range1 (by rfl) T.b_range (pa_cons (pv 1) pa_nil)) (blkOk_by (own := [("k", 6)]) (by kernel_rfl)) (fun _ _ _ _ _ => (pg_name (i := 6) sc__law_answers.nd rfl (Or.inl rfl))) (fun _ _ _ _ _ => pts_nil) (fun _ _ _ _ _ => (pe_op op_rep (pe_lst (pa_cons pe_int pa_nil)) (pv 1))))
      (pss_cons (ps_for PassesOwn.never rfl (pi_range1 (by rfl) T.b_range (pa_cons (pv 1) pa_nil)) (pg_name (i := 4) sc__law_answers.nd rfl (Or.inl rfl)) (pss_one (ps_for PassesOwn.never rfl (pi_range1 (by rfl) T.b_range (pa_cons (pv 4) pa_nil)) (pg_name (i := 5) sc__law_answers.nd rfl (Or.inl rfl)) (pss_cons (ps_set (i := 7) sc__law_answers.nd rfl (Or.inl rfl) (pe_callG (ok__law_next T) (hr.mono (by decide)) gu (by rfl) T.g__law_next T.F__law_next.kp T.b__law_next .nil (pa_cons (pv 0) pa_nil)))
      (pss_cons (ps_set (i := 8) sc__law_answers.nd rfl (Or.inl rfl) (pe_ix (ixK (K := K)) (pe_lst (pa_cons (pe_op op_sub pe_int (pe_op op_mulW pe_int (pe_op op_modN (pe_callTy call_int1 (by rfl) T.b_int (by decide +kernel) (pa_cons (pv 7) pa_nil)) pe_int))) (pa_cons pe_int pa_nil))) (pe_callTy call_int1 (by rfl) T.b_int (by decide +kernel) (pa_cons (pe_cmpR op_lt (pe_op op_modN (pe_callTy call_int1 (by rfl) T.b_int (by decide +kernel) (pa_cons (pe_op op_fdivN (pv 7) pe_int) pa_nil)) (pe_ix (ixK (K := K)) (pv 2) pe_int (fun _ _ => rfl))) (pe_ix (ixK (K := K)) (pv 2) pe_int (fun _ _ => rfl)) (nomark _)) pa_nil)) (fun _ _ => rfl)))
      (pss_cons (ps_asg (pe_callG (ok__law_with T) (hr.mono (by decide)) gu (by rfl) T.g__law_with T.F__law_with.kp T.b__law_with .nil (pa_cons (pe_ix (ixK (K := K)) (pv 3) (pv 4) (fun _ _ => rfl)) (pa_cons (pv 5) (pa_cons (pv 8) pa_nil)))) (pg_sub (pv 3) (pv 4) set_list))
      (pss_one (ps_asg (pe_callG (ok__law_with T) (hr.mono (by decide)) gu (by rfl) T.g__law_with T.F__law_with.kp T.b__law_with .nil (pa_cons (pe_ix (ixK (K := K)) (pv 3) (pv 5) (fun _ _ => rfl)) (pa_cons (pv 4) (pa_cons (pe_un un_neg (pv 8)) pa_nil)))) (pg_sub (pv 3) (pv 5) set_list)))))))))
      (pss_one (ps_ret (pv 3))))), ?_⟩)
  exact def_ok (N := ["draws", "many", "odds", "told", "one", "other", "k", "pick", "answer"]) (m := (mSeq (mAsgO 3 (mLO (mLc (mRng1 (mCons (mVar 1) mNil)) (mgN 6) mYes (mLE (mBinL gRep (mLE (mDs (mCons (mC (.int 0)) mNil))) (mVar 1))) [6])))
    (mSeq (mFor (mRng1 (mCons (mVar 1) mNil)) (mgN 4) (mFor (mRng1 (mCons (mVar 4) mNil)) (mgN 5) (mSeq (mAsg (mFz (mCallIo 0 m__law_next (mCons (mVar 0) mNil))) (mgN 7))
    (mSeq (mAsg (mBin gIx (mLE (mDs (mCons (mBin (gI0 fun i j => .int (i - j)) (mC (.int 1)) (mBin gMul (mC (.int 2)) (mBin gMod (mFn gInt (mCons (mVar 7) mNil)) (mC (.int 2))))) (mCons (mC (.int 0)) mNil)))) (mFn gInt (mCons (mBin (gI0 fun i j => .bool (decide (i < j))) (mBin gMod (mFn gInt (mCons (mBin gFdiv (mVar 7) (mC (.int 2))) mNil)) (mBin gIx (mVar 2) (mC (.int 1)))) (mBin gIx (mVar 2) (mC (.int 0)))) mNil))) (mgN 8))
    (mSeq (mSetI 3 (mVar 4) (mFz (mCall m__law_with (mCons (mBin gIx (mVar 3) (mVar 4)) (mCons (mVar 5) (mCons (mVar 8) mNil))))))
    (mSetI 3 (mVar 5) (mFz (mCall m__law_with (mCons (mBin gIx (mVar 3) (mVar 5)) (mCons (mVar 4) (mCons (mUn gNeg (mVar 8)) mNil)))))))))))
    (mRetV 3)))) ((rs_seq (rs_asgO (ro_lc (ri_rng1 (ra_cons re_var ra_nil)) rg_name rt_yes (re_l (rl_bin (re_l (rl_lst (ra_cons re_int ra_nil) (len_cons len_nil))) re_var b_rep))))
      (rs_seq (rs_for (ri_rng1 (ra_cons re_var ra_nil)) rg_name (rs_for (ri_rng1 (ra_cons re_var ra_nil)) rg_name (rs_seq (rs_asg (re_o (ro_callIo (ra_cons re_var ra_nil))) rg_name)
      (rs_seq (rs_asg (re_bin (re_l (rl_lst (ra_cons (re_bin re_int (re_bin re_int (re_bin (re_fn (ra_cons re_var ra_nil) f_int) re_int b_mod) b_mul) b_sub) (ra_cons re_int ra_nil)) (len_cons (len_cons len_nil)))) (re_fn (ra_cons (re_bin (re_bin (re_fn (ra_cons (re_bin re_var re_int b_fdiv) ra_nil) f_int) (re_bin re_var re_int b_ix) b_mod) (re_bin re_var re_int b_ix) b_lt) ra_nil) f_int) b_ix) rg_name)
      (rs_seq (rs_setI (re_o (ro_call (ra_cons (re_bin re_var re_var b_ix) (ra_cons re_var (ra_cons re_var ra_nil))))) re_var)
      (rs_setI (re_o (ro_call (ra_cons (re_bin re_var re_var b_ix) (ra_cons re_var (ra_cons (re_un re_var u_neg) ra_nil))))) re_var))))))
      rs_retV))) h
def m__law_lined : MF := mDef 6 2 (some 0)
    (mSeq (mAsgO 2 (mCallIo 0 m__law_answers (mCons (mVar 0) (mCons (mVar 1) (mCons (mLE (mDs (mCons (mC (.int 1)) (mCons (mC (.int 3)) mNil)))) mNil)))))
    (mSeq (mAsg (mBin (gI0 fun i j => .int (i + j)) (mC (.int 1)) (mBin gMod (mFn gInt (mCons (mFz (mCallIo 0 m__law_next (mCons (mVar 0) mNil))) mNil)) (mC (.int 3)))) (mgN 3))
    (mSeq (mFor (mRng1 (mCons (mVar 1) mNil)) (mgN 4) (mFor (mRng1 (mCons (mVar 1) mNil)) (mgN 5) (mIf (mT (mBin (gEq true) (mBin gFdiv (mVar 4) (mVar 3)) (mBin gFdiv (mVar 5) (mVar 3)))) (mSetI 2 (mVar 4) (mFz (mCall m__law_with (mCons (mBin gIx (mVar 2) (mVar 4)) (mCons (mVar 5) (mCons (mBin (gI0 fun i j => .int (i - j)) (mC (.int 1)) (mBin gMul (mC (.int 2)) (mFn gInt (mCons (mBin (gI0 fun i j => .bool (decide (i < j))) (mVar 4) (mVar 5)) mNil)))) mNil)))))) mNext)))
    (mRet (mVar 2)))))
theorem ok__law_lined (T : Tx K mg ad fd ca ia ifd) : FnG P w K mg base 3 (ad 12) (fd 12) ["draws", "many"] (spOf (some 0) m__law_lined) := by
  refine okG T.F__law_lined sc__law_lined (fun vs H Q E h => by_len h) (fun cdv A ou s H vs Q E hr gu h => ⟨_, (pss_cons (ps_set (i := 2) sc__law_lined.nd rfl (Or.inl rfl) (pe_callG (ok__law_answers T) (hr.mono (by decide)) gu (by rfl) T.g__law_answers T.F__law_answers.kp T.b__law_answers .nil (pa_cons (pv 0) (pa_cons (pv 1) (pa_cons (pe_lst (pa_cons pe_int (pa_cons pe_int pa_nil))) pa_nil)))))
      (pss_cons (ps_set (i := 3) sc__law_lined.nd rfl (Or.inl rfl) (pe_op op_add pe_int (pe_op op_modN (pe_callTy call_int1 (by rfl) T.b_int (by decide +kernel) (pa_cons (pe_callG (ok__law_next T) (hr.mono (by decide)) gu (by rfl) T.g__law_next T.F__law_next.kp T.b__law_next .nil (pa_cons (pv 0) pa_nil)) pa_nil)) pe_int)))
      (pss_cons (ps_for PassesOwn.never rfl (pi_range1 (by rfl) T.b_range (pa_cons (pv 1) pa_nil)) (pg_name (i := 4) sc__law_lined.nd rfl (Or.inl rfl)) (pss_one (ps_for PassesOwn.never rfl (pi_range1 (by rfl) T.b_range (pa_cons (pv 1) pa_nil)) (pg_name (i := 5) sc__law_lined.nd rfl (Or.inl rfl)) (pss_one (ps_if (pt_cmpR (neK (K := K) hr.units) (pe_op op_fdivN (pv 4) (pv 3)) (pe_op op_fdivN (pv 5) (pv 3)) (nomark _)) (pss_one (ps_asg (pe_callG (ok__law_with T) (hr.mono (by decide)) gu (by rfl) T.g__law_with T.F__law_with.kp T.b__law_with .nil (pa_cons (pe_ix (ixK (K := K)) (pv 2) (pv 4) (fun _ _ => rfl)) (pa_cons (pv 5) (pa_cons (pe_op op_sub pe_int (pe_op op_mulW pe_int (pe_callTy call_int1 (by rfl) T.b_int (by decide +kernel) (pa_cons (pe_cmpR op_lt (pv 4) (pv 5) (nomark _)) pa_nil)))) pa_nil)))) (pg_sub (pv 2) (pv 4) set_list))) pss_nil)))))
      (pss_one (ps_ret (pv 2)))))), ?_⟩)
  exact def_ok (N := ["draws", "many", "told", "cut", "one", "other"]) (m := (mSeq (mAsgO 2 (mCallIo 0 m__law_answers (mCons (mVar 0) (mCons (mVar 1) (mCons (mLE (mDs (mCons (mC (.int 1)) (mCons (mC (.int 3)) mNil)))) mNil)))))
    (mSeq (mAsg (mBin (gI0 fun i j => .int (i + j)) (mC (.int 1)) (mBin gMod (mFn gInt (mCons (mFz (mCallIo 0 m__law_next (mCons (mVar 0) mNil))) mNil)) (mC (.int 3)))) (mgN 3))
    (mSeq (mFor (mRng1 (mCons (mVar 1) mNil)) (mgN 4) (mFor (mRng1 (mCons (mVar 1) mNil)) (mgN 5) (mIf (mT (mBin (gEq true) (mBin gFdiv (mVar 4) (mVar 3)) (mBin gFdiv (mVar 5) (mVar 3)))) (mSetI 2 (mVar 4) (mFz (mCall m__law_with (mCons (mBin gIx (mVar 2) (mVar 4)) (mCons (mVar 5) (mCons (mBin (gI0 fun i j => .int (i - j)) (mC (.int 1)) (mBin gMul (mC (.int 2)) (mFn gInt (mCons (mBin (gI0 fun i j => .bool (decide (i < j))) (mVar 4) (mVar 5)) mNil)))) mNil)))))) mNext)))
    (mRet (mVar 2)))))) ((rs_seq (rs_asgO (ro_callIo (ra_cons re_var (ra_cons re_var (ra_cons (re_l (rl_lst (ra_cons re_int (ra_cons re_int ra_nil)) (len_cons (len_cons len_nil)))) ra_nil)))))
      (rs_seq (rs_asg (re_bin re_int (re_bin (re_fn (ra_cons (re_o (ro_callIo (ra_cons re_var ra_nil))) ra_nil) f_int) re_int b_mod) b_add) rg_name)
      (rs_seq (rs_for (ri_rng1 (ra_cons re_var ra_nil)) rg_name (rs_for (ri_rng1 (ra_cons re_var ra_nil)) rg_name (rs_if (rt_test (re_bin (re_bin re_var re_var b_fdiv) (re_bin re_var re_var b_fdiv) b_ne)) (rs_setI (re_o (ro_call (ra_cons (re_bin re_var re_var b_ix) (ra_cons re_var (ra_cons (re_bin re_int (re_bin re_int (re_fn (ra_cons (re_bin re_var re_var b_lt) ra_nil) f_int) b_mul) b_sub) ra_nil))))) re_var) rs_next)))
      (rs_ret re_var))))) h
def m__law_exchanged : MF := mDef 6 2 (some 0)
    (mSeq (mAsgO 2 (mLO (mLRg1 (mFn gLen (mCons (mVar 1) mNil)))))
    (mSeq (mAsgO 3 (mLO (mDs mNil)))
    (mSeq (mWhile (mT (mBin (gEq true) (mVar 2) (mLE (mDs mNil)))) (mApp 3 (mCons (mPopAt 2 (mCons (mBin gMod (mFn gInt (mCons (mFz (mCallIo 0 m__law_next (mCons (mVar 0) mNil))) mNil)) (mFn gLen (mCons (mVar 2) mNil))) mNil)) mNil)) 1000)
    (mRet (mLE (mLc (mItL (mVar 3)) (mgN 4) mYes (mLE (mLc (mItL (mVar 3)) (mgN 5) mYes (mBin gIx (mBin gIx (mVar 1) (mVar 4)) (mVar 5)) [5])) [4]))))))
theorem ok__law_exchanged (T : Tx K mg ad fd ca ia ifd) : FnG P w K mg base 2 (ad 13) (fd 13) ["draws", "answers"] (spOf (some 0) m__law_exchanged) := by
  refine okG T.F__law_exchanged sc__law_exchanged (fun vs H Q E h => by_len h) (fun cdv A ou s H vs Q E hr gu h => ⟨_, (pss_cons (ps_set (i := 2) sc__law_exchanged.nd rfl (Or.inl rfl) (pe_listRg rfl (by rfl) T.b_list (prg_1 (by rfl) T.b_range (pe_callB (lenK (K := K)) (by rfl) T.b_len PySem.boot_len (pa_cons (pv 1) pa_nil)))))
      (pss_cons (ps_set (i := 3) sc__law_exchanged.nd rfl (Or.inr rfl) (pe_lst pa_nil))
      (pss_cons (ps_while PassesOwn.never (pt_cmpR (neK (K := K) hr.units) (pv 2) (pe_lst pa_nil) (nomark _)) (pss_one (ps_expr (bmK (K := K) (pe_bm PySem.F.plainAttrs_list PySem.F.slot_list_append PySem.F.type_list_append mt_append (pv 3) (pa_cons (bmK (K := K) (pe_bm PySem.F.plainAttrs_list PySem.F.slot_list_pop PySem.F.type_list_pop mt_popAt (pv 2) (pa_cons (pe_op op_modN (pe_callTy call_int1 (by rfl) T.b_int (by decide +kernel) (pa_cons (pe_callG (ok__law_next T) (hr.mono (by decide)) gu (by rfl) T.g__law_next T.F__law_next.kp T.b__law_next .nil (pa_cons (pv 0) pa_nil)) pa_nil)) (pe_callB (lenK (K := K)) (by rfl) T.b_len PySem.boot_len (pa_cons (pv 2) pa_nil))) pa_nil))) pa_nil))))))
      (pss_one (ps_ret (pe_lc (own := [("one", 4)]) (g := gName 4) (tt := tYes) rfl sc__law_exchanged.nd (pi_listK (K := K) (pv 3)) (blkOk_by (own := [("one", 4)]) (by kernel_rfl)) (fun _ _ _ _ _ => (pg_name (i := 4) sc__law_exchanged.nd rfl (Or.inr rfl))) (fun _ _ _ _ _ => pts_nil) (fun _ _ _ _ _ => (pe_lc (own := [("other", 5)]) (g := gName 5) (tt := tYes) rfl sc__law_exchanged.nd (pi_listK (K := K) (pv 3)) (blkOk_by (own := [("other", 5)]) (by kernel_rfl)) (fun _ _ _ _ _ => (pg_name (i := 5) sc__law_exchanged.nd rfl (Or.inl rfl))) (fun _ _ _ _ _ => pts_nil) (fun _ _ _ _ _ => (pe_ix (ixK (K := K)) (pe_ix (ixK (K := K)) (pv 1) (pv 4) (fun _ _ => rfl)) (pv 5) (fun _ _ => rfl))))))))))), ?_⟩)
  exact def_ok (N := ["draws", "answers", "left", "names", "one", "other"]) (m := (mSeq (mAsgO 2 (mLO (mLRg1 (mFn gLen (mCons (mVar 1) mNil)))))
    (mSeq (mAsgO 3 (mLO (mDs mNil)))
    (mSeq (mWhile (mT (mBin (gEq true) (mVar 2) (mLE (mDs mNil)))) (mApp 3 (mCons (mPopAt 2 (mCons (mBin gMod (mFn gInt (mCons (mFz (mCallIo 0 m__law_next (mCons (mVar 0) mNil))) mNil)) (mFn gLen (mCons (mVar 2) mNil))) mNil)) mNil)) 1000)
    (mRet (mLE (mLc (mItL (mVar 3)) (mgN 4) mYes (mLE (mLc (mItL (mVar 3)) (mgN 5) mYes (mBin gIx (mBin gIx (mVar 1) (mVar 4)) (mVar 5)) [5])) [4]))))))) ((rs_seq (rs_asgO (ro_l (rl_rg1 (re_fn (ra_cons re_var ra_nil) f_len))))
      (rs_seq (rs_asgO (ro_l (rl_lst ra_nil len_nil)))
      (rs_seq (rs_while 1000 (rt_test (re_bin re_var (re_l (rl_lst ra_nil len_nil)) b_ne)) (rs_app (ra_cons (re_popAt (ra_cons (re_bin (re_fn (ra_cons (re_o (ro_callIo (ra_cons re_var ra_nil))) ra_nil) f_int) (re_fn (ra_cons re_var ra_nil) f_len) b_mod) ra_nil)) ra_nil)))
      (rs_ret (re_lc (ri_list re_var) rg_name rt_yes (re_lc (ri_list re_var) rg_name rt_yes (re_bin (re_bin re_var re_var b_ix) re_var b_ix)))))))) h
def m__law_close : MF := mDef 5 2 none
    (mSeq (mAsgO 2 (mLO (mDs mNil)))
    (mSeq (mFor (mItL (mVar 0)) (mgN 3) (mApp 2 (mCons (mLE (mLc (mItL (mVar 0)) (mgN 4) mYes (mBin (gI0 fun i j => .int (i - j)) (mFn gInt (mCons (mBin (gI0 fun i j => .bool (decide (i < j))) (mBin (gI0 fun i j => .int (i + j)) (mVar 4) (mVar 1)) (mVar 3)) mNil)) (mFn gInt (mCons (mBin (gI0 fun i j => .bool (decide (i < j))) (mBin (gI0 fun i j => .int (i + j)) (mVar 3) (mVar 1)) (mVar 4)) mNil))) [4])) mNil)))
    (mRet (mVar 2))))
theorem ok__law_close (T : Tx K mg ad fd ca ia ifd) : FnG P w K mg base 1 (ad 14) (fd 14) ["some", "near"] (spOf none m__law_close) := by
  refine okG T.F__law_close sc__law_close (fun vs H Q E h => by_len h) (fun cdv A ou s H vs Q E hr gu h => ⟨_, (pss_cons (ps_set (i := 2) sc__law_close.nd rfl (Or.inl rfl) (pe_lst pa_nil))
      (pss_cons (ps_for PassesOwn.never rfl (pi_listK (K := K) (pv 0)) (pg_name (i := 3) sc__law_close.nd rfl (Or.inr rfl)) (pss_one (ps_expr (bmK (K := K) (pe_bm PySem.F.plainAttrs_list PySem.F.slot_list_append PySem.F.type_list_append mt_append (pv 2) (pa_cons (pe_lc (own := [("other", 4)]) (g := gName 4) (tt := tYes) rfl sc__law_close.nd (pi_listK (K := K) (pv 0)) (blkOk_by (own := [("other", 4)]) (by kernel_rfl)) (fun _ _ _ _ _ => (pg_name (i := 4) sc__law_close.nd rfl (Or.inl rfl))) (fun _ _ _ _ _ => pts_nil) (fun _ _ _ _ _ => (pe_op op_sub (pe_callTy call_int1 (by rfl) T.b_int (by decide +kernel) (pa_cons (pe_cmpR op_lt (pe_op op_add (pv 4) (pv 1)) (pv 3) (nomark _)) pa_nil)) (pe_callTy call_int1 (by rfl) T.b_int (by decide +kernel) (pa_cons (pe_cmpR op_lt (pe_op op_add (pv 3) (pv 1)) (pv 4) (nomark _)) pa_nil))))) pa_nil))))))
      (pss_one (ps_ret (pv 2))))), ?_⟩)
  exact def_ok (N := ["some", "near", "told", "one", "other"]) (m := (mSeq (mAsgO 2 (mLO (mDs mNil)))
    (mSeq (mFor (mItL (mVar 0)) (mgN 3) (mApp 2 (mCons (mLE (mLc (mItL (mVar 0)) (mgN 4) mYes (mBin (gI0 fun i j => .int (i - j)) (mFn gInt (mCons (mBin (gI0 fun i j => .bool (decide (i < j))) (mBin (gI0 fun i j => .int (i + j)) (mVar 4) (mVar 1)) (mVar 3)) mNil)) (mFn gInt (mCons (mBin (gI0 fun i j => .bool (decide (i < j))) (mBin (gI0 fun i j => .int (i + j)) (mVar 3) (mVar 1)) (mVar 4)) mNil))) [4])) mNil)))
    (mRet (mVar 2))))) ((rs_seq (rs_asgO (ro_l (rl_lst ra_nil len_nil)))
      (rs_seq (rs_for (ri_list re_var) rg_name (rs_app (ra_cons (re_lc (ri_list re_var) rg_name rt_yes (re_bin (re_fn (ra_cons (re_bin (re_bin re_var re_var b_add) re_var b_lt) ra_nil) f_int) (re_fn (ra_cons (re_bin (re_bin re_var re_var b_add) re_var b_lt) ra_nil) f_int) b_sub)) ra_nil)))
      (rs_ret re_var)))) h
def m__law_rule : MF := mDef 5 2 (some 0)
    (mSeq (mAsg (mBin gMod (mFn gInt (mCons (mFz (mCallIo 0 m__law_next (mCons (mVar 0) mNil))) mNil)) (mC (.int 6))) (mgN 2))
    (mSeq (mIf (mT (mBin (gI0 fun i j => .bool (decide (i < j))) (mVar 2) (mC (.int 4)))) (mRet (mFz (mCallIo 0 m__law_answers (mCons (mVar 0) (mCons (mVar 1) (mCons (mBin gIx (mLE (mDs (mCons (mLE (mDs (mCons (mC (.int 0)) (mCons (mC (.int 1)) mNil)))) (mCons (mLE (mDs (mCons (mC (.int 1)) (mCons (mC (.int 2)) mNil)))) (mCons (mLE (mDs (mCons (mC (.int 1)) (mCons (mC (.int 5)) mNil)))) (mCons (mLE (mDs (mCons (mC (.int 1)) (mCons (mC (.int 9)) mNil)))) mNil)))))) (mVar 2)) mNil)))))) mNext)
    (mSeq (mIf (mT (mBin (gEq false) (mVar 2) (mC (.int 4)))) (mRet (mFz (mCallIo 0 m__law_exchanged (mCons (mVar 0) (mCons (mFz (mCallIo 0 m__law_lined (mCons (mVar 0) (mCons (mVar 1) mNil)))) mNil))))) mNext)
    (mSeq (mAsg (mLE (mLc (mRng1 (mCons (mVar 1) mNil)) (mgN 4) mYes (mBin gMod (mFn gInt (mCons (mFz (mCallIo 0 m__law_next (mCons (mVar 0) mNil))) mNil)) (mBin (gI0 fun i j => .int (i + j)) (mBin gMul (mC (.int 2)) (mVar 1)) (mC (.int 1)))) [4])) (mgN 3))
    (mRet (mFz (mCall m__law_close (mCons (mVar 3) (mCons (mBin gMod (mFn gInt (mCons (mFz (mCallIo 0 m__law_next (mCons (mVar 0) mNil))) mNil)) (mC (.int 4))) mNil)))))))))
theorem ok__law_rule (T : Tx K mg ad fd ca ia ifd) : FnG P w K mg base 4 (ad 15) (fd 15) ["draws", "many"] (spOf (some 0) m__law_rule) := by
  refine okG T.F__law_rule sc__law_rule (fun vs H Q E h => by_len h) (fun cdv A ou s H vs Q E hr gu h => ⟨_, (pss_cons (ps_set (i := 2) sc__law_rule.nd rfl (Or.inl rfl) (pe_op op_modN (pe_callTy call_int1 (by rfl) T.b_int (by decide +kernel) (pa_cons (pe_callG (ok__law_next T) (hr.mono (by decide)) gu (by rfl) T.g__law_next T.F__law_next.kp T.b__law_next .nil (pa_cons (pv 0) pa_nil)) pa_nil)) pe_int))
      (pss_cons (ps_if (pt_cmpR op_lt (pv 2) pe_int (nomark _)) (pss_one (ps_ret (pe_callG (ok__law_answers T) (hr.mono (by decide)) gu (by rfl) T.g__law_answers T.F__law_answers.kp T.b__law_answers .nil (pa_cons (pv 0) (pa_cons (pv 1) (pa_cons (pe_ix (ixK (K := K)) (pe_lst (pa_cons (pe_lst (pa_cons pe_int (pa_cons pe_int pa_nil))) (pa_cons (pe_lst (pa_cons pe_int (pa_cons pe_int pa_nil))) (pa_cons (pe_lst (pa_cons pe_int (pa_cons pe_int pa_nil))) (pa_cons (pe_lst (pa_cons pe_int (pa_cons pe_int pa_nil))) pa_nil))))) (pv 2) (fun _ _ => rfl)) pa_nil)))))) pss_nil)
      (pss_cons (ps_if (pt_cmpR (eqK (K := K) hr.units) (pv 2) pe_int (nomark _)) (pss_one (ps_ret (pe_callG (ok__law_exchanged T) (hr.mono (by decide)) gu (by rfl) T.g__law_exchanged T.F__law_exchanged.kp T.b__law_exchanged .nil (pa_cons (pv 0) (pa_cons (pe_callG (ok__law_lined T) (hr.mono (by decide)) gu (by rfl) T.g__law_lined T.F__law_lined.kp T.b__law_lined .nil (pa_cons (pv 0) (pa_cons (pv 1) pa_nil))) pa_nil))))) pss_nil)
      (pss_cons (ps_setLc (i := 3) (own := [("k", 4)]) (g := gName 4) (tt := tYes) rfl sc__law_rule.nd rfl rfl (sw_true rfl rfl rfl (by decide +kernel)) (pi_range1 (by rfl) T.b_range (pa_cons (pv 1) pa_nil)) (blkOk_by (own := [("k", 4)]) (by kernel_rfl)) (fun _ _ _ _ _ => (pg_name (i := 4) sc__law_rule.nd rfl (Or.inl rfl))) (fun _ _ _ _ _ => pts_nil) (fun _ _ _ _ _ => (pe_op op_modN (pe_callTy call_int1 (by rfl) T.b_int (by decide +kernel) (pa_cons (pe_callG (ok__law_next T) (hr.mono (by decide)) gu (by rfl) T.g__law_next T.F__law_next.kp T.b__law_next .nil (pa_cons (pv 0) pa_nil)) pa_nil)) (pe_op op_add (pe_op op_mulW pe_int (pv 1)) pe_int))))
      (pss_one (ps_ret (pe_callG (ok__law_close T) (hr.mono (by decide)) gu (by rfl) T.g__law_close T.F__law_close.kp T.b__law_close .nil (pa_cons (pv 3) (pa_cons (pe_op op_modN (pe_callTy call_int1 (by rfl) T.b_int (by decide +kernel) (pa_cons (pe_callG (ok__law_next T) (hr.mono (by decide)) gu (by rfl) T.g__law_next T.F__law_next.kp T.b__law_next .nil (pa_cons (pv 0) pa_nil)) pa_nil)) pe_int) pa_nil))))))))), ?_⟩)
  exact def_ok (N := ["draws", "many", "pick", "some", "k"]) (m := (mSeq (mAsg (mBin gMod (mFn gInt (mCons (mFz (mCallIo 0 m__law_next (mCons (mVar 0) mNil))) mNil)) (mC (.int 6))) (mgN 2))
    (mSeq (mIf (mT (mBin (gI0 fun i j => .bool (decide (i < j))) (mVar 2) (mC (.int 4)))) (mRet (mFz (mCallIo 0 m__law_answers (mCons (mVar 0) (mCons (mVar 1) (mCons (mBin gIx (mLE (mDs (mCons (mLE (mDs (mCons (mC (.int 0)) (mCons (mC (.int 1)) mNil)))) (mCons (mLE (mDs (mCons (mC (.int 1)) (mCons (mC (.int 2)) mNil)))) (mCons (mLE (mDs (mCons (mC (.int 1)) (mCons (mC (.int 5)) mNil)))) (mCons (mLE (mDs (mCons (mC (.int 1)) (mCons (mC (.int 9)) mNil)))) mNil)))))) (mVar 2)) mNil)))))) mNext)
    (mSeq (mIf (mT (mBin (gEq false) (mVar 2) (mC (.int 4)))) (mRet (mFz (mCallIo 0 m__law_exchanged (mCons (mVar 0) (mCons (mFz (mCallIo 0 m__law_lined (mCons (mVar 0) (mCons (mVar 1) mNil)))) mNil))))) mNext)
    (mSeq (mAsg (mLE (mLc (mRng1 (mCons (mVar 1) mNil)) (mgN 4) mYes (mBin gMod (mFn gInt (mCons (mFz (mCallIo 0 m__law_next (mCons (mVar 0) mNil))) mNil)) (mBin (gI0 fun i j => .int (i + j)) (mBin gMul (mC (.int 2)) (mVar 1)) (mC (.int 1)))) [4])) (mgN 3))
    (mRet (mFz (mCall m__law_close (mCons (mVar 3) (mCons (mBin gMod (mFn gInt (mCons (mFz (mCallIo 0 m__law_next (mCons (mVar 0) mNil))) mNil)) (mC (.int 4))) mNil)))))))))) ((rs_seq (rs_asg (re_bin (re_fn (ra_cons (re_o (ro_callIo (ra_cons re_var ra_nil))) ra_nil) f_int) re_int b_mod) rg_name)
      (rs_seq (rs_if (rt_test (re_bin re_var re_int b_lt)) (rs_ret (re_o (ro_callIo (ra_cons re_var (ra_cons re_var (ra_cons (re_bin (re_l (rl_lst (ra_cons (re_l (rl_lst (ra_cons re_int (ra_cons re_int ra_nil)) (len_cons (len_cons len_nil)))) (ra_cons (re_l (rl_lst (ra_cons re_int (ra_cons re_int ra_nil)) (len_cons (len_cons len_nil)))) (ra_cons (re_l (rl_lst (ra_cons re_int (ra_cons re_int ra_nil)) (len_cons (len_cons len_nil)))) (ra_cons (re_l (rl_lst (ra_cons re_int (ra_cons re_int ra_nil)) (len_cons (len_cons len_nil)))) ra_nil)))) (len_cons (len_cons (len_cons (len_cons len_nil)))))) re_var b_ix) ra_nil)))))) rs_next)
      (rs_seq (rs_if (rt_test (re_bin re_var re_int b_eq)) (rs_ret (re_o (ro_callIo (ra_cons re_var (ra_cons (re_o (ro_callIo (ra_cons re_var (ra_cons re_var ra_nil)))) ra_nil))))) rs_next)
      (rs_seq (rs_asg (re_lc (ri_rng1 (ra_cons re_var ra_nil)) rg_name rt_yes (re_bin (re_fn (ra_cons (re_o (ro_callIo (ra_cons re_var ra_nil))) ra_nil) f_int) (re_bin (re_bin re_int re_var b_mul) re_int b_add) b_mod)) rg_name)
      (rs_ret (re_o (ro_call (ra_cons re_var (ra_cons (re_bin (re_fn (ra_cons (re_o (ro_callIo (ra_cons re_var ra_nil))) ra_nil) f_int) re_int b_mod) ra_nil)))))))))) h
def m__law_inserted : MF := mDef 5 2 none
    (mSeq (mAsg (mLE (mDs mNil)) (mgN 2))
    (mSeq (mFor (mItL (mVar 1)) (mgN 3) (mSeq (mAsg (mFn gLen (mCons (mVar 2) mNil)) (mgN 4))
    (mSeq (mWhile (mAnd (mT (mBin (gI0 fun i j => .bool (decide (j < i))) (mVar 4) (mC (.int 0)))) (mT (mBin (gEq false) (mBin gIx (mBin gIx (mVar 0) (mVar 3)) (mBin gIx (mVar 2) (mBin (gI0 fun i j => .int (i - j)) (mVar 4) (mC (.int 1))))) (mUn gNeg (mC (.int 1)))))) (mAsg (mBin (gI0 fun i j => .int (i - j)) (mVar 4) (mC (.int 1))) (mgN 4)) 1000)
    (mAsg (mLE (mBinL gCat (mLE (mBinL gCat (mLE (mSl (mVar 2) mNoPart (mPart (mVar 4)))) (mLE (mDs (mCons (mVar 3) mNil))))) (mLE (mSl (mVar 2) (mPart (mVar 4)) mNoPart)))) (mgN 2)))))
    (mRet (mVar 2))))
theorem ok__law_inserted (T : Tx K mg ad fd ca ia ifd) : FnG P w K mg base 1 (ad 16) (fd 16) ["a_rule", "items"] (spOf none m__law_inserted) := by
  refine okG T.F__law_inserted sc__law_inserted (fun vs H Q E h => by_len h) (fun cdv A ou s H vs Q E hr gu h => ⟨_, (pss_cons (ps_set (i := 2) sc__law_inserted.nd rfl (Or.inl rfl) (pe_lst pa_nil))
      (pss_cons (ps_for PassesOwn.never rfl (pi_listK (K := K) (pv 1)) (pg_name (i := 3) sc__law_inserted.nd rfl (Or.inl rfl)) (pss_cons (ps_set (i := 4) sc__law_inserted.nd rfl (Or.inl rfl) (pe_callB (lenK (K := K)) (by rfl) T.b_len PySem.boot_len (pa_cons (pv 2) pa_nil)))
      (pss_cons (ps_while PassesOwn.never (PW.pt (pw_and (pt_cmpR op_gt (pv 4) pe_int (nomark _)) (pw_and1 (pt_cmpR (eqK (K := K) hr.units) (pe_ix (ixK (K := K)) (pe_ix (ixK (K := K)) (pv 0) (pv 3) (fun _ _ => rfl)) (pe_ix (ixK (K := K)) (pv 2) (pe_op op_sub (pv 4) pe_int) (fun _ _ => rfl)) (fun _ _ => rfl)) (pe_un un_neg pe_int) (nomark _))))) (pss_one (ps_set (i := 4) sc__law_inserted.nd rfl (Or.inl rfl) (pe_op op_sub (pv 4) pe_int))))
      (pss_one (ps_set (i := 2) sc__law_inserted.nd rfl (Or.inl rfl) (pe_op op_cat (pe_op op_cat (pe_slice (slK (K := K)) (pv 2) po_none (po_some (pv 4))) (pe_lst (pa_cons (pv 3) pa_nil))) (pe_slice (slK (K := K)) (pv 2) (po_some (pv 4)) po_none)))))))
      (pss_one (ps_ret (pv 2))))), ?_⟩)
  exact def_ok (N := ["a_rule", "items", "told", "item", "place"]) (m := (mSeq (mAsg (mLE (mDs mNil)) (mgN 2))
    (mSeq (mFor (mItL (mVar 1)) (mgN 3) (mSeq (mAsg (mFn gLen (mCons (mVar 2) mNil)) (mgN 4))
    (mSeq (mWhile (mAnd (mT (mBin (gI0 fun i j => .bool (decide (j < i))) (mVar 4) (mC (.int 0)))) (mT (mBin (gEq false) (mBin gIx (mBin gIx (mVar 0) (mVar 3)) (mBin gIx (mVar 2) (mBin (gI0 fun i j => .int (i - j)) (mVar 4) (mC (.int 1))))) (mUn gNeg (mC (.int 1)))))) (mAsg (mBin (gI0 fun i j => .int (i - j)) (mVar 4) (mC (.int 1))) (mgN 4)) 1000)
    (mAsg (mLE (mBinL gCat (mLE (mBinL gCat (mLE (mSl (mVar 2) mNoPart (mPart (mVar 4)))) (mLE (mDs (mCons (mVar 3) mNil))))) (mLE (mSl (mVar 2) (mPart (mVar 4)) mNoPart)))) (mgN 2)))))
    (mRet (mVar 2))))) ((rs_seq (rs_asg (re_l (rl_lst ra_nil len_nil)) rg_name)
      (rs_seq (rs_for (ri_list re_var) rg_name (rs_seq (rs_asg (re_fn (ra_cons re_var ra_nil) f_len) rg_name)
      (rs_seq (rs_while 1000 (rt_and (rt_test (re_bin re_var re_int b_gt)) (rt_test (re_bin (re_bin (re_bin re_var re_var b_ix) (re_bin re_var (re_bin re_var re_int b_sub) b_ix) b_ix) (re_un re_int u_neg) b_eq))) (rs_asg (re_bin re_var re_int b_sub) rg_name))
      (rs_asg (re_l (rl_bin (re_l (rl_bin (re_l (rl_sl re_var rq_none (rq_some re_var))) (re_l (rl_lst (ra_cons re_var ra_nil) (len_cons len_nil))) b_cat)) (re_l (rl_sl re_var (rq_some re_var) rq_none)) b_cat)) rg_name))))
      (rs_ret re_var)))) h
def m__law_mixed : MF := mDef 4 2 (some 0)
    (mSeq (mAsgO 2 (mLO (mLRg1 (mVar 1))))
    (mSeq (mAsgO 3 (mLO (mDs mNil)))
    (mSeq (mWhile (mT (mBin (gEq true) (mVar 2) (mLE (mDs mNil)))) (mApp 3 (mCons (mPopAt 2 (mCons (mBin gMod (mFn gInt (mCons (mFz (mCallIo 0 m__law_next (mCons (mVar 0) mNil))) mNil)) (mFn gLen (mCons (mVar 2) mNil))) mNil)) mNil)) 1000)
    (mRet (mVar 3)))))
theorem ok__law_mixed (T : Tx K mg ad fd ca ia ifd) : FnG P w K mg base 2 (ad 17) (fd 17) ["draws", "many"] (spOf (some 0) m__law_mixed) := by
  refine okG T.F__law_mixed sc__law_mixed (fun vs H Q E h => by_len h) (fun cdv A ou s H vs Q E hr gu h => ⟨_, (pss_cons (ps_set (i := 2) sc__law_mixed.nd rfl (Or.inl rfl) (pe_listRg rfl (by rfl) T.b_list (prg_1 (by rfl) T.b_range (pv 1))))
      (pss_cons (ps_set (i := 3) sc__law_mixed.nd rfl (Or.inl rfl) (pe_lst pa_nil))
      (pss_cons (ps_while PassesOwn.never (pt_cmpR (neK (K := K) hr.units) (pv 2) (pe_lst pa_nil) (nomark _)) (pss_one (ps_expr (bmK (K := K) (pe_bm PySem.F.plainAttrs_list PySem.F.slot_list_append PySem.F.type_list_append mt_append (pv 3) (pa_cons (bmK (K := K) (pe_bm PySem.F.plainAttrs_list PySem.F.slot_list_pop PySem.F.type_list_pop mt_popAt (pv 2) (pa_cons (pe_op op_modN (pe_callTy call_int1 (by rfl) T.b_int (by decide +kernel) (pa_cons (pe_callG (ok__law_next T) (hr.mono (by decide)) gu (by rfl) T.g__law_next T.F__law_next.kp T.b__law_next .nil (pa_cons (pv 0) pa_nil)) pa_nil)) (pe_callB (lenK (K := K)) (by rfl) T.b_len PySem.boot_len (pa_cons (pv 2) pa_nil))) pa_nil))) pa_nil))))))
      (pss_one (ps_ret (pv 3)))))), ?_⟩)
  exact def_ok (N := ["draws", "many", "left", "told"]) (m := (mSeq (mAsgO 2 (mLO (mLRg1 (mVar 1))))
    (mSeq (mAsgO 3 (mLO (mDs mNil)))
    (mSeq (mWhile (mT (mBin (gEq true) (mVar 2) (mLE (mDs mNil)))) (mApp 3 (mCons (mPopAt 2 (mCons (mBin gMod (mFn gInt (mCons (mFz (mCallIo 0 m__law_next (mCons (mVar 0) mNil))) mNil)) (mFn gLen (mCons (mVar 2) mNil))) mNil)) mNil)) 1000)
    (mRet (mVar 3)))))) ((rs_seq (rs_asgO (ro_l (rl_rg1 re_var)))
      (rs_seq (rs_asgO (ro_l (rl_lst ra_nil len_nil)))
      (rs_seq (rs_while 1000 (rt_test (re_bin re_var (re_l (rl_lst ra_nil len_nil)) b_ne)) (rs_app (ra_cons (re_popAt (ra_cons (re_bin (re_fn (ra_cons (re_o (ro_callIo (ra_cons re_var ra_nil))) ra_nil) f_int) (re_fn (ra_cons re_var ra_nil) f_len) b_mod) ra_nil)) ra_nil)))
      (rs_ret re_var))))) h
def m__law_kept : MF := mDef 4 2 none
    (mSeq (mAsg (mC .none) (mgN 2))
    (mTryRet 3 2 0 (Str.ofString "told") x_wrong_place (mCons (mVar 0) (mCons (mVar 1) mNil))))
theorem ok__law_kept (T : Tx K mg ad fd ca ia ifd) : FnG P w K mg base 5 (ad 18) (fd 18) ["a_rule", "a_row"] (spOf none m__law_kept) := by
  refine okG T.F__law_kept sc__law_kept (fun vs H Q E h => by_len h) (fun cdv A ou s H vs Q E hr gu h => ⟨_, (pss_cons (ps_set (i := 2) sc__law_kept.nd rfl (Or.inl rfl) pe_non)
      (pss_cons (ps_try_keep (i := 3) (c := .ref (ca 0)) rfl rfl rfl sc__law_kept.nd rfl rfl ⟨by rfl, by decide, .inl T.gC_InvalidRow⟩ takes0 (fun W pn xe tk _ => pss_one (ps_expr (pe_callX (okx_wrong_place T) (hr.mono (by decide)) gu (by rfl) T.g_wrong_place T.F_wrong_place.kp T.b_wrong_place (fun σ => passAt tk σ) (pa_cons (pv 0) (pa_cons (pv 1) pa_nil))))) (fun a oe cls d pn hz hf => pss_one (ps_set (i := 2) sc__law_kept.nd rfl (Or.inl rfl) (pv 3))))
      (pss_one (ps_ret (pe_ifExp (PW.pt (pw_or (pt_cmpR (op_isN) (pv 2) pe_non (nomark _)) (pw_or1 (pt_not (pt_val (pe_callB (isKK (K := K)) (by rfl) T.b_isinstance (by decide +kernel) (pa_cons (pv 2) (pa_cons (pe_bltn (v := .ty "ValueError") (by rfl) T.b_ValueError (by decide +kernel) rfl) pa_nil)))))))) pe_str (pe_callB (call_repr gu hr.units) (by rfl) T.b_repr (by decide +kernel) (pa_cons (kfK (K := K) (pv 2)) pa_nil))))))), ?_⟩)
  exact def_ok (N := ["a_rule", "a_row", "kept", "error"]) (m := (mSeq (mAsg (mC .none) (mgN 2))
    (mTryRet 3 2 0 (Str.ofString "told") x_wrong_place (mCons (mVar 0) (mCons (mVar 1) mNil))))) ((rs_seq (rs_asg re_non rg_name)
      (rs_tryRet (cl := clOf ca) (ra_cons re_var (ra_cons re_var ra_nil)) rfl T.kc_InvalidRow T.ex_InvalidRow T.kt_InvalidRow))) h
def m__law_odd_rows : MF := mDef 5 1 none
    (mSeq (mAsg (mFn gLen (mCons (mVar 0) mNil)) (mgN 1))
    (mSeq (mAsgO 2 (mLO (mLc (mItL (mLE (mDs (mCons (mC .none) (mCons (mFn gTupleOf (mCons (mVar 0) mNil)) (mCons (mC (.str (Str.ofString ""))) (mCons mDict (mCons (mC (.int 5)) (mCons (mLE (mBinL gCat (mVar 0) (mLE (mDs (mCons (mC (.int 0)) mNil))))) (mCons (mLE (mBinL gCat (mLE (mSl (mVar 0) mNoPart (mPart (mUn gNeg (mC (.int 1)))))) (mLE (mDs (mCons (mC (.int 0)) (mCons (mC (.int 0)) mNil)))))) mNil)))))))))) (mgN 3) mYes (mTup (mCons (mVar 3) (mCons (mC .none) mNil))) [3])))
    (mSeq (mIf (mT (mBin (gEq false) (mVar 1) (mC (.int 0)))) (mRet (mVar 2)) mNext)
    (mSeq (mApp 2 (mCons (mTup (mCons (mLE (mDs mNil)) (mCons (mC .none) mNil))) mNil))
    (mSeq (mAsgO 2 (mLO (mBinL gCat (mVar 2) (mLE (mLc (mItL (mLE (mDs (mCons (mVar 1) (mCons (mUn gNeg (mC (.int 1))) (mCons (mC .none) (mCons (mFn gStrI (mCons (mBin gIx (mVar 0) (mUn gNeg (mC (.int 1)))) mNil)) (mCons (mLE (mDs (mCons (mC (.int 0)) mNil))) mNil)))))))) (mgN 3) mYes (mTup (mCons (mLE (mBinL gCat (mLE (mSl (mVar 0) mNoPart (mPart (mUn gNeg (mC (.int 1)))))) (mLE (mDs (mCons (mVar 3) mNil))))) (mCons (mBin (gI0 fun i j => .int (i - j)) (mVar 1) (mC (.int 1))) mNil))) [3])))))
    (mSeq (mIf (mT (mBin (gI0 fun i j => .bool (decide (j < i))) (mVar 1) (mC (.int 1)))) (mSeq (mAsgO 2 (mLO (mBinL gCat (mVar 2) (mLE (mDs (mCons (mTup (mCons (mLE (mBinL gCat (mLE (mSl (mVar 0) mNoPart (mPart (mUn gNeg (mC (.int 1)))))) (mLE (mDs (mCons (mBin gIx (mVar 0) (mC (.int 0))) mNil))))) (mCons (mBin (gI0 fun i j => .int (i - j)) (mVar 1) (mC (.int 1))) mNil))) (mCons (mTup (mCons (mLE (mBinL gCat (mLE (mDs (mCons (mBin gIx (mVar 0) (mUn gNeg (mC (.int 1)))) mNil))) (mLE (mSl (mVar 0) (mPart (mC (.int 1))) mNoPart)))) (mCons (mBin (gI0 fun i j => .int (i - j)) (mVar 1) (mC (.int 1))) mNil))) mNil)))))))
    (mSeq (mAsgO 2 (mLO (mBinL gCat (mVar 2) (mLE (mDs (mCons (mTup (mCons (mLE (mBinL gCat (mLE (mDs (mCons (mC (.bool false)) mNil))) (mLE (mSl (mVar 0) (mPart (mC (.int 1))) mNoPart)))) (mCons (mC (.int 0)) mNil))) (mCons (mTup (mCons (mLE (mBinL gCat (mLE (mDs (mCons (mC .none) (mCons (mC .none) mNil)))) (mLE (mSl (mVar 0) (mPart (mC (.int 2))) mNoPart)))) (mCons (mC (.int 0)) mNil))) (mCons (mTup (mCons (mLE (mSl (mVar 0) (mPart (mC (.int 1))) mNoPart)) (mCons (mC .none) mNil))) (mCons (mTup (mCons (mLE (mSl (mVar 0) mNoPart (mPart (mUn gNeg (mC (.int 1)))))) (mCons (mC .none) mNil))) mNil)))))))))
    (mApp 2 (mCons (mTup (mCons (mLE (mBinL gCat (mLE (mDs (mCons (mBin gIx (mVar 0) (mC (.int 0))) (mCons (mBin gIx (mVar 0) (mC (.int 0))) (mCons (mC .none) mNil))))) (mLE (mSl (mVar 0) (mPart (mC (.int 3))) mNoPart)))) (mCons (mBin gIx (mLE (mDs (mCons (mC .none) (mCons (mC (.int 1)) mNil)))) (mFn gInt (mCons (mBin (gI0 fun i j => .bool (decide (j < i))) (mVar 1) (mC (.int 2))) mNil))) mNil))) mNil)))) mNext)
    (mSeq (mAsgO 2 (mLO (mBinL gCat (mVar 2) (mLE (mBinL gRep (mLE (mDs (mCons (mTup (mCons (mLE (mBinL gCat (mLE (mDs (mCons (mBin gIx (mVar 0) (mC (.int 0))) (mCons (mC .none) (mCons (mBin gIx (mVar 0) (mC (.int 0))) mNil))))) (mLE (mSl (mVar 0) (mPart (mC (.int 3))) mNoPart)))) (mCons (mC (.int 1)) mNil))) mNil))) (mFn gInt (mCons (mBin (gI0 fun i j => .bool (decide (j < i))) (mVar 1) (mC (.int 2))) mNil)))))))
    (mRet (mLE (mBinL gCat (mVar 2) (mLE (mLc (mRng1 (mCons (mFn gInt (mCons (mBin (gI0 fun i j => .bool (decide (j < i))) (mVar 1) (mC (.int 3))) mNil)) mNil)) (mgN 4) mYes (mTup (mCons (mLE (mBinL gCat (mLE (mBinL gCat (mLE (mSl (mVar 0) mNoPart (mPart (mC (.int 2))))) (mLE (mDs (mCons (mBin gIx (mVar 0) (mC (.int 1))) (mCons (mBin gIx (mVar 0) (mC (.int 0))) mNil)))))) (mLE (mSl (mVar 0) (mPart (mC (.int 4))) mNoPart)))) (mCons (mC (.int 2)) mNil))) [4]))))))))))))
theorem ok__law_odd_rows (T : Tx K mg ad fd ca ia ifd) : FnG P w K mg base 1 (ad 19) (fd 19) ["a_row"] (spOf none m__law_odd_rows) := by
  refine okG T.F__law_odd_rows sc__law_odd_rows (fun vs H Q E h => by_len h) (fun cdv A ou s H vs Q E hr gu h => ⟨_, (pss_cons (ps_set (i := 1) sc__law_odd_rows.nd rfl (Or.inr rfl) (pe_callB (lenK (K := K)) (by rfl) T.b_len PySem.boot_len (pa_cons (pv 0) pa_nil)))
      (pss_cons (ps_setLc (i := 2) (own := [("thing", 3)]) (g := gName 3) (tt := tYes) rfl sc__law_odd_rows.nd rfl rfl (sw_true rfl rfl rfl (by decide +kernel)) (pi_listK (K := K) (pe_lst (pa_cons pe_non (pa_cons (pe_callTy (tupleK (K := K)) (by rfl) T.b_tuple (by decide +kernel) (pa_cons (pv 0) pa_nil)) (pa_cons pe_str (pa_cons pe_dnewK (pa_cons pe_int (pa_cons (pe_op op_cat (pv 0) (pe_lst (pa_cons pe_int pa_nil))) (pa_cons (pe_op op_cat (pe_slice (slK (K := K)) (pv 0) po_none (po_some (pe_un un_neg pe_int))) (pe_lst (pa_cons pe_int (pa_cons pe_int pa_nil)))) pa_nil))))))))) (blkOk_by (own := [("thing", 3)]) (by kernel_rfl)) (fun _ _ _ _ _ => (pg_name (i := 3) sc__law_odd_rows.nd rfl (Or.inl rfl))) (fun _ _ _ _ _ => pts_nil) (fun _ _ _ _ _ => (pe_tup (pa_cons (pv 3) (pa_cons pe_non pa_nil)))))
      (pss_cons (ps_if (pt_cmpR (eqK (K := K) hr.units) (pv 1) pe_int (nomark _)) (pss_one (ps_ret (pv 2))) pss_nil)
      (pss_cons (ps_expr (bmK (K := K) (pe_bm PySem.F.plainAttrs_list PySem.F.slot_list_append PySem.F.type_list_append mt_append (pv 2) (pa_cons (pe_tup (pa_cons (pe_lst pa_nil) (pa_cons pe_non pa_nil))) pa_nil))))
      (pss_cons (ps_set (i := 2) sc__law_odd_rows.nd rfl (Or.inl rfl) (pe_op op_cat (pv 2) (pe_lc (own := [("thing", 3)]) (g := gName 3) (tt := tYes) rfl sc__law_odd_rows.nd (pi_listK (K := K) (pe_lst (pa_cons (pv 1) (pa_cons (pe_un un_neg pe_int) (pa_cons pe_non (pa_cons (pe_callTy call_str_int (by rfl) T.b_str (by decide +kernel) (pa_cons (pe_ix (ixK (K := K)) (pv 0) (pe_un un_neg pe_int) (fun _ _ => rfl)) pa_nil)) (pa_cons (pe_lst (pa_cons pe_int pa_nil)) pa_nil))))))) (blkOk_by (own := [("thing", 3)]) (by kernel_rfl)) (fun _ _ _ _ _ => (pg_name (i := 3) sc__law_odd_rows.nd rfl (Or.inl rfl))) (fun _ _ _ _ _ => pts_nil) (fun _ _ _ _ _ => (pe_tup (pa_cons (pe_op op_cat (pe_slice (slK (K := K)) (pv 0) po_none (po_some (pe_un un_neg pe_int))) (pe_lst (pa_cons (pv 3) pa_nil))) (pa_cons (pe_op op_sub (pv 1) pe_int) pa_nil)))))))
      (pss_cons (ps_if (pt_cmpR op_gt (pv 1) pe_int (nomark _)) (pss_cons (ps_set (i := 2) sc__law_odd_rows.nd rfl (Or.inl rfl) (pe_op op_cat (pv 2) (pe_lst (pa_cons (pe_tup (pa_cons (pe_op op_cat (pe_slice (slK (K := K)) (pv 0) po_none (po_some (pe_un un_neg pe_int))) (pe_lst (pa_cons (pe_ix (ixK (K := K)) (pv 0) pe_int (fun _ _ => rfl)) pa_nil))) (pa_cons (pe_op op_sub (pv 1) pe_int) pa_nil))) (pa_cons (pe_tup (pa_cons (pe_op op_cat (pe_lst (pa_cons (pe_ix (ixK (K := K)) (pv 0) (pe_un un_neg pe_int) (fun _ _ => rfl)) pa_nil)) (pe_slice (slK (K := K)) (pv 0) (po_some pe_int) po_none)) (pa_cons (pe_op op_sub (pv 1) pe_int) pa_nil))) pa_nil)))))
      (pss_cons (ps_set (i := 2) sc__law_odd_rows.nd rfl (Or.inl rfl) (pe_op op_cat (pv 2) (pe_lst (pa_cons (pe_tup (pa_cons (pe_op op_cat (pe_lst (pa_cons pe_bl pa_nil)) (pe_slice (slK (K := K)) (pv 0) (po_some pe_int) po_none)) (pa_cons pe_int pa_nil))) (pa_cons (pe_tup (pa_cons (pe_op op_cat (pe_lst (pa_cons pe_non (pa_cons pe_non pa_nil))) (pe_slice (slK (K := K)) (pv 0) (po_some pe_int) po_none)) (pa_cons pe_int pa_nil))) (pa_cons (pe_tup (pa_cons (pe_slice (slK (K := K)) (pv 0) (po_some pe_int) po_none) (pa_cons pe_non pa_nil))) (pa_cons (pe_tup (pa_cons (pe_slice (slK (K := K)) (pv 0) po_none (po_some (pe_un un_neg pe_int))) (pa_cons pe_non pa_nil))) pa_nil)))))))
      (pss_one (ps_expr (bmK (K := K) (pe_bm PySem.F.plainAttrs_list PySem.F.slot_list_append PySem.F.type_list_append mt_append (pv 2) (pa_cons (pe_tup (pa_cons (pe_op op_cat (pe_lst (pa_cons (pe_ix (ixK (K := K)) (pv 0) pe_int (fun _ _ => rfl)) (pa_cons (pe_ix (ixK (K := K)) (pv 0) pe_int (fun _ _ => rfl)) (pa_cons pe_non pa_nil)))) (pe_slice (slK (K := K)) (pv 0) (po_some pe_int) po_none)) (pa_cons (pe_ix (ixK (K := K)) (pe_lst (pa_cons pe_non (pa_cons pe_int pa_nil))) (pe_callTy call_int1 (by rfl) T.b_int (by decide +kernel) (pa_cons (pe_cmpR op_gt (pv 1) pe_int (nomark _)) pa_nil)) (fun _ _ => rfl)) pa_nil))) pa_nil))))))) pss_nil)
      (pss_cons (ps_set (i := 2) sc__law_odd_rows.nd rfl (Or.inl rfl) (pe_op op_cat (pv 2) (pe_op op_rep (pe_lst (pa_cons (pe_tup (pa_cons (pe_op op_cat (pe_lst (pa_cons (pe_ix (ixK (K := K)) (pv 0) pe_int (fun _ _ => rfl)) (pa_cons pe_non (pa_cons (pe_ix (ixK (K := K)) (pv 0) pe_int (fun _ _ => rfl)) pa_nil)))) (pe_slice (slK (K := K)) (pv 0) (po_some pe_int) po_none)) (pa_cons pe_int pa_nil))) pa_nil)) (pe_callTy call_int1 (by rfl) T.b_int (by decide +kernel) (pa_cons (pe_cmpR op_gt (pv 1) pe_int (nomark _)) pa_nil)))))
      (pss_one (ps_ret (pe_op op_cat (pv 2) (pe_lc (own := [("turn", 4)]) (g := gName 4) (tt := tYes) rfl sc__law_odd_rows.nd (pi_range1 (by rfl) T.b_range (pa_cons (pe_callTy call_int1 (by rfl) T.b_int (by decide +kernel) (pa_cons (pe_cmpR op_gt (pv 1) pe_int (nomark _)) pa_nil)) pa_nil)) (blkOk_by (own := [("turn", 4)]) (by kernel_rfl)) (fun _ _ _ _ _ => (pg_name (i := 4) sc__law_odd_rows.nd rfl (Or.inl rfl))) (fun _ _ _ _ _ => pts_nil) (fun _ _ _ _ _ => (pe_tup (pa_cons (pe_op op_cat (pe_op op_cat (pe_slice (slK (K := K)) (pv 0) po_none (po_some pe_int)) (pe_lst (pa_cons (pe_ix (ixK (K := K)) (pv 0) pe_int (fun _ _ => rfl)) (pa_cons (pe_ix (ixK (K := K)) (pv 0) pe_int (fun _ _ => rfl)) pa_nil)))) (pe_slice (slK (K := K)) (pv 0) (po_some pe_int) po_none)) (pa_cons pe_int pa_nil))))))))))))))), ?_⟩)
  exact def_ok (N := ["a_row", "many", "told", "thing", "turn"]) (m := (mSeq (mAsg (mFn gLen (mCons (mVar 0) mNil)) (mgN 1))
    (mSeq (mAsgO 2 (mLO (mLc (mItL (mLE (mDs (mCons (mC .none) (mCons (mFn gTupleOf (mCons (mVar 0) mNil)) (mCons (mC (.str (Str.ofString ""))) (mCons mDict (mCons (mC (.int 5)) (mCons (mLE (mBinL gCat (mVar 0) (mLE (mDs (mCons (mC (.int 0)) mNil))))) (mCons (mLE (mBinL gCat (mLE (mSl (mVar 0) mNoPart (mPart (mUn gNeg (mC (.int 1)))))) (mLE (mDs (mCons (mC (.int 0)) (mCons (mC (.int 0)) mNil)))))) mNil)))))))))) (mgN 3) mYes (mTup (mCons (mVar 3) (mCons (mC .none) mNil))) [3])))
    (mSeq (mIf (mT (mBin (gEq false) (mVar 1) (mC (.int 0)))) (mRet (mVar 2)) mNext)
    (mSeq (mApp 2 (mCons (mTup (mCons (mLE (mDs mNil)) (mCons (mC .none) mNil))) mNil))
    (mSeq (mAsgO 2 (mLO (mBinL gCat (mVar 2) (mLE (mLc (mItL (mLE (mDs (mCons (mVar 1) (mCons (mUn gNeg (mC (.int 1))) (mCons (mC .none) (mCons (mFn gStrI (mCons (mBin gIx (mVar 0) (mUn gNeg (mC (.int 1)))) mNil)) (mCons (mLE (mDs (mCons (mC (.int 0)) mNil))) mNil)))))))) (mgN 3) mYes (mTup (mCons (mLE (mBinL gCat (mLE (mSl (mVar 0) mNoPart (mPart (mUn gNeg (mC (.int 1)))))) (mLE (mDs (mCons (mVar 3) mNil))))) (mCons (mBin (gI0 fun i j => .int (i - j)) (mVar 1) (mC (.int 1))) mNil))) [3])))))
    (mSeq (mIf (mT (mBin (gI0 fun i j => .bool (decide (j < i))) (mVar 1) (mC (.int 1)))) (mSeq (mAsgO 2 (mLO (mBinL gCat (mVar 2) (mLE (mDs (mCons (mTup (mCons (mLE (mBinL gCat (mLE (mSl (mVar 0) mNoPart (mPart (mUn gNeg (mC (.int 1)))))) (mLE (mDs (mCons (mBin gIx (mVar 0) (mC (.int 0))) mNil))))) (mCons (mBin (gI0 fun i j => .int (i - j)) (mVar 1) (mC (.int 1))) mNil))) (mCons (mTup (mCons (mLE (mBinL gCat (mLE (mDs (mCons (mBin gIx (mVar 0) (mUn gNeg (mC (.int 1)))) mNil))) (mLE (mSl (mVar 0) (mPart (mC (.int 1))) mNoPart)))) (mCons (mBin (gI0 fun i j => .int (i - j)) (mVar 1) (mC (.int 1))) mNil))) mNil)))))))
    (mSeq (mAsgO 2 (mLO (mBinL gCat (mVar 2) (mLE (mDs (mCons (mTup (mCons (mLE (mBinL gCat (mLE (mDs (mCons (mC (.bool false)) mNil))) (mLE (mSl (mVar 0) (mPart (mC (.int 1))) mNoPart)))) (mCons (mC (.int 0)) mNil))) (mCons (mTup (mCons (mLE (mBinL gCat (mLE (mDs (mCons (mC .none) (mCons (mC .none) mNil)))) (mLE (mSl (mVar 0) (mPart (mC (.int 2))) mNoPart)))) (mCons (mC (.int 0)) mNil))) (mCons (mTup (mCons (mLE (mSl (mVar 0) (mPart (mC (.int 1))) mNoPart)) (mCons (mC .none) mNil))) (mCons (mTup (mCons (mLE (mSl (mVar 0) mNoPart (mPart (mUn gNeg (mC (.int 1)))))) (mCons (mC .none) mNil))) mNil)))))))))
    (mApp 2 (mCons (mTup (mCons (mLE (mBinL gCat (mLE (mDs (mCons (mBin gIx (mVar 0) (mC (.int 0))) (mCons (mBin gIx (mVar 0) (mC (.int 0))) (mCons (mC .none) mNil))))) (mLE (mSl (mVar 0) (mPart (mC (.int 3))) mNoPart)))) (mCons (mBin gIx (mLE (mDs (mCons (mC .none) (mCons (mC (.int 1)) mNil)))) (mFn gInt (mCons (mBin (gI0 fun i j => .bool (decide (j < i))) (mVar 1) (mC (.int 2))) mNil))) mNil))) mNil)))) mNext)
    (mSeq (mAsgO 2 (mLO (mBinL gCat (mVar 2) (mLE (mBinL gRep (mLE (mDs (mCons (mTup (mCons (mLE (mBinL gCat (mLE (mDs (mCons (mBin gIx (mVar 0) (mC (.int 0))) (mCons (mC .none) (mCons (mBin gIx (mVar 0) (mC (.int 0))) mNil))))) (mLE (mSl (mVar 0) (mPart (mC (.int 3))) mNoPart)))) (mCons (mC (.int 1)) mNil))) mNil))) (mFn gInt (mCons (mBin (gI0 fun i j => .bool (decide (j < i))) (mVar 1) (mC (.int 2))) mNil)))))))
    (mRet (mLE (mBinL gCat (mVar 2) (mLE (mLc (mRng1 (mCons (mFn gInt (mCons (mBin (gI0 fun i j => .bool (decide (j < i))) (mVar 1) (mC (.int 3))) mNil)) mNil)) (mgN 4) mYes (mTup (mCons (mLE (mBinL gCat (mLE (mBinL gCat (mLE (mSl (mVar 0) mNoPart (mPart (mC (.int 2))))) (mLE (mDs (mCons (mBin gIx (mVar 0) (mC (.int 1))) (mCons (mBin gIx (mVar 0) (mC (.int 0))) mNil)))))) (mLE (mSl (mVar 0) (mPart (mC (.int 4))) mNoPart)))) (mCons (mC (.int 2)) mNil))) [4]))))))))))))) ((rs_seq (rs_asg (re_fn (ra_cons re_var ra_nil) f_len) rg_name)
      (rs_seq (rs_asgO (ro_lc (ri_list (re_l (rl_lst (ra_cons re_non (ra_cons (re_fn (ra_cons re_var ra_nil) f_tuple) (ra_cons re_str (ra_cons re_dict (ra_cons re_int (ra_cons (re_l (rl_bin re_var (re_l (rl_lst (ra_cons re_int ra_nil) (len_cons len_nil))) b_cat)) (ra_cons (re_l (rl_bin (re_l (rl_sl re_var rq_none (rq_some (re_un re_int u_neg)))) (re_l (rl_lst (ra_cons re_int (ra_cons re_int ra_nil)) (len_cons (len_cons len_nil)))) b_cat)) ra_nil))))))) (len_cons (len_cons (len_cons (len_cons (len_cons (len_cons (len_cons len_nil)))))))))) rg_name rt_yes (re_tup (ra_cons re_var (ra_cons re_non ra_nil)) (len_cons (len_cons len_nil)))))
      (rs_seq (rs_if (rt_test (re_bin re_var re_int b_eq)) (rs_ret re_var) rs_next)
      (rs_seq (rs_app (ra_cons (re_tup (ra_cons (re_l (rl_lst ra_nil len_nil)) (ra_cons re_non ra_nil)) (len_cons (len_cons len_nil))) ra_nil))
      (rs_seq (rs_asgO (ro_l (rl_bin re_var (re_lc (ri_list (re_l (rl_lst (ra_cons re_var (ra_cons (re_un re_int u_neg) (ra_cons re_non (ra_cons (re_fn (ra_cons (re_bin re_var (re_un re_int u_neg) b_ix) ra_nil) f_strI) (ra_cons (re_l (rl_lst (ra_cons re_int ra_nil) (len_cons len_nil))) ra_nil))))) (len_cons (len_cons (len_cons (len_cons (len_cons len_nil)))))))) rg_name rt_yes (re_tup (ra_cons (re_l (rl_bin (re_l (rl_sl re_var rq_none (rq_some (re_un re_int u_neg)))) (re_l (rl_lst (ra_cons re_var ra_nil) (len_cons len_nil))) b_cat)) (ra_cons (re_bin re_var re_int b_sub) ra_nil)) (len_cons (len_cons len_nil)))) b_cat)))
      (rs_seq (rs_if (rt_test (re_bin re_var re_int b_gt)) (rs_seq (rs_asgO (ro_l (rl_bin re_var (re_l (rl_lst (ra_cons (re_tup (ra_cons (re_l (rl_bin (re_l (rl_sl re_var rq_none (rq_some (re_un re_int u_neg)))) (re_l (rl_lst (ra_cons (re_bin re_var re_int b_ix) ra_nil) (len_cons len_nil))) b_cat)) (ra_cons (re_bin re_var re_int b_sub) ra_nil)) (len_cons (len_cons len_nil))) (ra_cons (re_tup (ra_cons (re_l (rl_bin (re_l (rl_lst (ra_cons (re_bin re_var (re_un re_int u_neg) b_ix) ra_nil) (len_cons len_nil))) (re_l (rl_sl re_var (rq_some re_int) rq_none)) b_cat)) (ra_cons (re_bin re_var re_int b_sub) ra_nil)) (len_cons (len_cons len_nil))) ra_nil)) (len_cons (len_cons len_nil)))) b_cat)))
      (rs_seq (rs_asgO (ro_l (rl_bin re_var (re_l (rl_lst (ra_cons (re_tup (ra_cons (re_l (rl_bin (re_l (rl_lst (ra_cons re_bl ra_nil) (len_cons len_nil))) (re_l (rl_sl re_var (rq_some re_int) rq_none)) b_cat)) (ra_cons re_int ra_nil)) (len_cons (len_cons len_nil))) (ra_cons (re_tup (ra_cons (re_l (rl_bin (re_l (rl_lst (ra_cons re_non (ra_cons re_non ra_nil)) (len_cons (len_cons len_nil)))) (re_l (rl_sl re_var (rq_some re_int) rq_none)) b_cat)) (ra_cons re_int ra_nil)) (len_cons (len_cons len_nil))) (ra_cons (re_tup (ra_cons (re_l (rl_sl re_var (rq_some re_int) rq_none)) (ra_cons re_non ra_nil)) (len_cons (len_cons len_nil))) (ra_cons (re_tup (ra_cons (re_l (rl_sl re_var rq_none (rq_some (re_un re_int u_neg)))) (ra_cons re_non ra_nil)) (len_cons (len_cons len_nil))) ra_nil)))) (len_cons (len_cons (len_cons (len_cons len_nil)))))) b_cat)))
      (rs_app (ra_cons (re_tup (ra_cons (re_l (rl_bin (re_l (rl_lst (ra_cons (re_bin re_var re_int b_ix) (ra_cons (re_bin re_var re_int b_ix) (ra_cons re_non ra_nil))) (len_cons (len_cons (len_cons len_nil))))) (re_l (rl_sl re_var (rq_some re_int) rq_none)) b_cat)) (ra_cons (re_bin (re_l (rl_lst (ra_cons re_non (ra_cons re_int ra_nil)) (len_cons (len_cons len_nil)))) (re_fn (ra_cons (re_bin re_var re_int b_gt) ra_nil) f_int) b_ix) ra_nil)) (len_cons (len_cons len_nil))) ra_nil)))) rs_next)
      (rs_seq (rs_asgO (ro_l (rl_bin re_var (re_l (rl_bin (re_l (rl_lst (ra_cons (re_tup (ra_cons (re_l (rl_bin (re_l (rl_lst (ra_cons (re_bin re_var re_int b_ix) (ra_cons re_non (ra_cons (re_bin re_var re_int b_ix) ra_nil))) (len_cons (len_cons (len_cons len_nil))))) (re_l (rl_sl re_var (rq_some re_int) rq_none)) b_cat)) (ra_cons re_int ra_nil)) (len_cons (len_cons len_nil))) ra_nil) (len_cons len_nil))) (re_fn (ra_cons (re_bin re_var re_int b_gt) ra_nil) f_int) b_rep)) b_cat)))
      (rs_ret (re_l (rl_bin re_var (re_lc (ri_rng1 (ra_cons (re_fn (ra_cons (re_bin re_var re_int b_gt) ra_nil) f_int) ra_nil)) rg_name rt_yes (re_tup (ra_cons (re_l (rl_bin (re_l (rl_bin (re_l (rl_sl re_var rq_none (rq_some re_int))) (re_l (rl_lst (ra_cons (re_bin re_var re_int b_ix) (ra_cons (re_bin re_var re_int b_ix) ra_nil)) (len_cons (len_cons len_nil)))) b_cat)) (re_l (rl_sl re_var (rq_some re_int) rq_none)) b_cat)) (ra_cons re_int ra_nil)) (len_cons (len_cons len_nil)))) b_cat))))))))))) h
def m__law_right : MF := mDef 10 1 (some 0)
    (mSeq (mAsg (mBin gMod (mFn gInt (mCons (mFz (mCallIo 0 m__law_next (mCons (mVar 0) mNil))) mNil)) (mC (.int 13))) (mgN 1))
    (mSeq (mAsg (mFz (mCallIo 0 m__law_rule (mCons (mVar 0) (mCons (mVar 1) mNil)))) (mgN 2))
    (mSeq (mAsg (mLE (mDs (mCons (mFz (mCallIo 0 m__law_mixed (mCons (mVar 0) (mCons (mVar 1) mNil)))) (mCons (mFz (mCallIo 0 m__law_mixed (mCons (mVar 0) (mCons (mVar 1) mNil)))) mNil)))) (mgN 3))
    (mSeq (mFor (mItL (mLE (mBinL gCat (mVar 3) (mLE (mLc (mItL (mVar 3)) (mgN 4) mYes (mFz (mCall m__law_inserted (mCons (mVar 2) (mCons (mVar 4) mNil)))) [4]))))) (mgN 4) (mSeq (mAsg (mFn gRepr (mCons (mLE (mDs (mCons (mVar 2) (mCons (mVar 4) mNil)))) mNil)) (mgN 5))
    (mSeq (mAsg (mLE (mLc (mRng1 (mCons (mBin (gI0 fun i j => .int (i - j)) (mVar 1) (mC (.int 1))) mNil)) (mgN 8) (mT (mBin (gEq false) (mBin gIx (mBin gIx (mVar 2) (mBin gIx (mVar 4) (mBin (gI0 fun i j => .int (i + j)) (mVar 8) (mC (.int 1))))) (mBin gIx (mVar 4) (mVar 8))) (mUn gNeg (mC (.int 1))))) (mVar 8) [8])) (mgN 6))
    (mSeq (mAsg (mIf (mT (mBin (gEq true) (mVar 6) (mLE (mDs mNil)))) (mBin gIx (mVar 6) (mC (.int 0))) (mC .none)) (mgN 7))
    (mSeq (mIf (mOr (mT (mBin (gEq true) (mFz (mCall m_wrong_place (mCons (mVar 2) (mCons (mVar 4) mNil)))) (mVar 7))) (mT (mBin (gEq true) (mFz (mCallN [1, 0] m_wrong_place mNil (mCons (mVar 4) (mCons (mVar 2) mNil)))) (mVar 7)))) (mRet (mC (.bool false))) mNext)
    (mIf (mT (mBin (gEq true) (mFn gRepr (mCons (mLE (mDs (mCons (mVar 2) (mCons (mVar 4) mNil)))) mNil)) (mVar 5))) (mRet (mC (.bool false))) mNext))))))
    (mRet (mBin (gEq false) (mLE (mLc (mItL (mFz (mCall m__law_odd_rows (mCons (mBin gIx (mVar 3) (mC (.int 0))) mNil)))) (mgT [9, 8]) (mT (mBin (gEq true) (mFz (mCall m__law_kept (mCons (mVar 2) (mCons (mVar 9) mNil)))) (mFn gRepr (mCons (mVar 8) mNil)))) (mVar 9) [9, 8])) (mLE (mDs mNil))))))))
theorem ok__law_right (T : Tx K mg ad fd ca ia ifd) : FnG P w K mg base 6 (ad 20) (fd 20) ["draws"] (spOf (some 0) m__law_right) := by
  refine okG T.F__law_right sc__law_right (fun vs H Q E h => by_len h) (fun cdv A ou s H vs Q E hr gu h => ⟨_, (pss_cons (ps_set (i := 1) sc__law_right.nd rfl (Or.inl rfl) (pe_op op_modN (pe_callTy call_int1 (by rfl) T.b_int (by decide +kernel) (pa_cons (pe_callG (ok__law_next T) (hr.mono (by decide)) gu (by rfl) T.g__law_next T.F__law_next.kp T.b__law_next .nil (pa_cons (pv 0) pa_nil)) pa_nil)) pe_int))
      (pss_cons (ps_set (i := 2) sc__law_right.nd rfl (Or.inr rfl) (pe_callG (ok__law_rule T) (hr.mono (by decide)) gu (by rfl) T.g__law_rule T.F__law_rule.kp T.b__law_rule .nil (pa_cons (pv 0) (pa_cons (pv 1) pa_nil))))
      (pss_cons (ps_set (i := 3) sc__law_right.nd rfl (Or.inl rfl) (pe_lst (pa_cons (pe_callG (ok__law_mixed T) (hr.mono (by decide)) gu (by rfl) T.g__law_mixed T.F__law_mixed.kp T.b__law_mixed .nil (pa_cons (pv 0) (pa_cons (pv 1) pa_nil))) (pa_cons (pe_callG (ok__law_mixed T) (hr.mono (by decide)) gu (by rfl) T.g__law_mixed T.F__law_mixed.kp T.b__law_mixed .nil (pa_cons (pv 0) (pa_cons (pv 1) pa_nil))) pa_nil))))
      (pss_cons (ps_for PassesOwn.never rfl (pi_listK (K := K) (pe_op op_cat (pv 3) (pe_lc (own := [("a_row", 4)]) (g := gName 4) (tt := tYes) rfl sc__law_right.nd (pi_listK (K := K) (pv 3)) (blkOk_by (own := [("a_row", 4)]) (by kernel_rfl)) (fun _ _ _ _ _ => (pg_name (i := 4) sc__law_right.nd rfl (Or.inl rfl))) (fun _ _ _ _ _ => pts_nil) (fun _ _ _ _ _ => (pe_callG (ok__law_inserted T) (hr.mono (by decide)) gu (by rfl) T.g__law_inserted T.F__law_inserted.kp T.b__law_inserted .nil (pa_cons (pv 2) (pa_cons (pv 4) pa_nil))))))) (pg_name (i := 4) sc__law_right.nd rfl (Or.inr rfl)) (pss_cons (ps_set (i := 5) sc__law_right.nd rfl (Or.inl rfl) (pe_callB (call_repr gu hr.units) (by rfl) T.b_repr (by decide +kernel) (pa_cons (pe_lst (pa_cons (pv 2) (pa_cons (pv 4) pa_nil))) pa_nil)))
      (pss_cons (ps_setLc (i := 6) (own := [("place", 8)]) (g := gName 8) rfl sc__law_right.nd rfl rfl (sw_true rfl rfl rfl (by decide +kernel)) (pi_range1 (by rfl) T.b_range (pa_cons (pe_op op_sub (pv 1) pe_int) pa_nil)) (blkOk_by (own := [("place", 8)]) (by kernel_rfl)) (fun _ _ _ _ _ => (pg_name (i := 8) sc__law_right.nd rfl (Or.inl rfl))) (fun _ _ _ _ _ => (pts_one (pt_cmpR (eqK (K := K) hr.units) (pe_ix (ixK (K := K)) (pe_ix (ixK (K := K)) (pv 2) (pe_ix (ixK (K := K)) (pv 4) (pe_op op_add (pv 8) pe_int) (fun _ _ => rfl)) (fun _ _ => rfl)) (pe_ix (ixK (K := K)) (pv 4) (pv 8) (fun _ _ => rfl)) (fun _ _ => rfl)) (pe_un un_neg pe_int) (nomark _)))) (fun _ _ _ _ _ => (pv 8)))
      (pss_cons (ps_set (i := 7) sc__law_right.nd rfl (Or.inl rfl) (pe_ifExp (pt_cmpR (neK (K := K) hr.units) (pv 6) (pe_lst pa_nil) (nomark _)) (pe_ix (ixK (K := K)) (pv 6) pe_int (fun _ _ => rfl)) pe_non))
      (pss_cons (ps_if (PW.pt (pw_or (pt_cmpR (neK (K := K) hr.units) (pe_callG (ok_wrong_place T) (hr.mono (by decide)) gu (by rfl) T.g_wrong_place T.F_wrong_place.kp T.b_wrong_place .nil (pa_cons (pv 2) (pa_cons (pv 4) pa_nil))) (pv 7) (nomark _)) (pw_or1 (pt_cmpR (neK (K := K) hr.units) (pe_callGK0 (ok_wrong_place T) (hr.mono (by decide)) gu (by rfl) T.g_wrong_place T.F_wrong_place.kp (kb_of (n := 0) (ks := ["row", "rule"]) T.F_wrong_place [1, 0] (fun _ _ _ _ _ _ us ws l1 l2 => match us, l1, ws, l2 with | [], _, [_, _], _ => rfl)) (pk_cons (pv 4) (pk_cons (pv 2) pk_nil))) (pv 7) (nomark _))))) (pss_one (ps_ret pe_bl)) pss_nil)
      (pss_one (ps_if (pt_cmpR (neK (K := K) hr.units) (pe_callB (call_repr gu hr.units) (by rfl) T.b_repr (by decide +kernel) (pa_cons (pe_lst (pa_cons (pv 2) (pa_cons (pv 4) pa_nil))) pa_nil)) (pv 5) (nomark _)) (pss_one (ps_ret pe_bl)) pss_nil)))))))
      (pss_one (ps_ret (pe_cmpR (eqK (K := K) hr.units) (pe_lc (own := [("bad", 9), ("place", 8)]) (g := gTup K 2 (gCons (gName 9) (gCons (gName 8) gNil))) rfl sc__law_right.nd (pi_listK (K := K) (pe_callG (ok__law_odd_rows T) (hr.mono (by decide)) gu (by rfl) T.g__law_odd_rows T.F__law_odd_rows.kp T.b__law_odd_rows .nil (pa_cons (pe_ix (ixK (K := K)) (pv 3) pe_int (fun _ _ => rfl)) pa_nil))) (blkOk_by (own := [("bad", 9), ("place", 8)]) (by kernel_rfl)) (fun _ _ _ _ _ => (pg_tupK (K := K) rfl (pgs_cons (pg_name (i := 9) sc__law_right.nd rfl (Or.inl rfl)) (pgs_cons (pg_name (i := 8) sc__law_right.nd rfl (Or.inl rfl)) pgs_nil)))) (fun _ _ _ _ _ => (pts_one (pt_cmpR (neK (K := K) hr.units) (pe_callG (ok__law_kept T) (hr.mono (by decide)) gu (by rfl) T.g__law_kept T.F__law_kept.kp T.b__law_kept .nil (pa_cons (pv 2) (pa_cons (pv 9) pa_nil))) (pe_callB (call_repr gu hr.units) (by rfl) T.b_repr (by decide +kernel) (pa_cons (pv 8) pa_nil)) (nomark _)))) (fun _ _ _ _ _ => (pv 9))) (pe_lst pa_nil) (nomark _)))))))), ?_⟩)
  exact def_ok (N := ["draws", "many", "a_rule", "rows", "a_row", "kept", "odd", "due", "place", "bad"]) (m := (mSeq (mAsg (mBin gMod (mFn gInt (mCons (mFz (mCallIo 0 m__law_next (mCons (mVar 0) mNil))) mNil)) (mC (.int 13))) (mgN 1))
    (mSeq (mAsg (mFz (mCallIo 0 m__law_rule (mCons (mVar 0) (mCons (mVar 1) mNil)))) (mgN 2))
    (mSeq (mAsg (mLE (mDs (mCons (mFz (mCallIo 0 m__law_mixed (mCons (mVar 0) (mCons (mVar 1) mNil)))) (mCons (mFz (mCallIo 0 m__law_mixed (mCons (mVar 0) (mCons (mVar 1) mNil)))) mNil)))) (mgN 3))
    (mSeq (mFor (mItL (mLE (mBinL gCat (mVar 3) (mLE (mLc (mItL (mVar 3)) (mgN 4) mYes (mFz (mCall m__law_inserted (mCons (mVar 2) (mCons (mVar 4) mNil)))) [4]))))) (mgN 4) (mSeq (mAsg (mFn gRepr (mCons (mLE (mDs (mCons (mVar 2) (mCons (mVar 4) mNil)))) mNil)) (mgN 5))
    (mSeq (mAsg (mLE (mLc (mRng1 (mCons (mBin (gI0 fun i j => .int (i - j)) (mVar 1) (mC (.int 1))) mNil)) (mgN 8) (mT (mBin (gEq false) (mBin gIx (mBin gIx (mVar 2) (mBin gIx (mVar 4) (mBin (gI0 fun i j => .int (i + j)) (mVar 8) (mC (.int 1))))) (mBin gIx (mVar 4) (mVar 8))) (mUn gNeg (mC (.int 1))))) (mVar 8) [8])) (mgN 6))
    (mSeq (mAsg (mIf (mT (mBin (gEq true) (mVar 6) (mLE (mDs mNil)))) (mBin gIx (mVar 6) (mC (.int 0))) (mC .none)) (mgN 7))
    (mSeq (mIf (mOr (mT (mBin (gEq true) (mFz (mCall m_wrong_place (mCons (mVar 2) (mCons (mVar 4) mNil)))) (mVar 7))) (mT (mBin (gEq true) (mFz (mCallN [1, 0] m_wrong_place mNil (mCons (mVar 4) (mCons (mVar 2) mNil)))) (mVar 7)))) (mRet (mC (.bool false))) mNext)
    (mIf (mT (mBin (gEq true) (mFn gRepr (mCons (mLE (mDs (mCons (mVar 2) (mCons (mVar 4) mNil)))) mNil)) (mVar 5))) (mRet (mC (.bool false))) mNext))))))
    (mRet (mBin (gEq false) (mLE (mLc (mItL (mFz (mCall m__law_odd_rows (mCons (mBin gIx (mVar 3) (mC (.int 0))) mNil)))) (mgT [9, 8]) (mT (mBin (gEq true) (mFz (mCall m__law_kept (mCons (mVar 2) (mCons (mVar 9) mNil)))) (mFn gRepr (mCons (mVar 8) mNil)))) (mVar 9) [9, 8])) (mLE (mDs mNil))))))))) ((rs_seq (rs_asg (re_bin (re_fn (ra_cons (re_o (ro_callIo (ra_cons re_var ra_nil))) ra_nil) f_int) re_int b_mod) rg_name)
      (rs_seq (rs_asg (re_o (ro_callIo (ra_cons re_var (ra_cons re_var ra_nil)))) rg_name)
      (rs_seq (rs_asg (re_l (rl_lst (ra_cons (re_o (ro_callIo (ra_cons re_var (ra_cons re_var ra_nil)))) (ra_cons (re_o (ro_callIo (ra_cons re_var (ra_cons re_var ra_nil)))) ra_nil)) (len_cons (len_cons len_nil)))) rg_name)
      (rs_seq (rs_for (ri_list (re_l (rl_bin re_var (re_lc (ri_list re_var) rg_name rt_yes (re_o (ro_call (ra_cons re_var (ra_cons re_var ra_nil))))) b_cat))) rg_name (rs_seq (rs_asg (re_fn (ra_cons (re_l (rl_lst (ra_cons re_var (ra_cons re_var ra_nil)) (len_cons (len_cons len_nil)))) ra_nil) f_repr) rg_name)
      (rs_seq (rs_asg (re_lc (ri_rng1 (ra_cons (re_bin re_var re_int b_sub) ra_nil)) rg_name (rt_test (re_bin (re_bin (re_bin re_var (re_bin re_var (re_bin re_var re_int b_add) b_ix) b_ix) (re_bin re_var re_var b_ix) b_ix) (re_un re_int u_neg) b_eq)) re_var) rg_name)
      (rs_seq (rs_asg (re_if (rt_test (re_bin re_var (re_l (rl_lst ra_nil len_nil)) b_ne)) (re_bin re_var re_int b_ix) re_non) rg_name)
      (rs_seq (rs_if (rt_or (rt_test (re_bin (re_o (ro_call (ra_cons re_var (ra_cons re_var ra_nil)))) re_var b_ne)) (rt_test (re_bin (re_o (ro_callN ra_nil (ra_cons re_var (ra_cons re_var ra_nil)) len_nil (len_cons (len_cons len_nil)))) re_var b_ne))) (rs_ret re_bl) rs_next)
      (rs_if (rt_test (re_bin (re_fn (ra_cons (re_l (rl_lst (ra_cons re_var (ra_cons re_var ra_nil)) (len_cons (len_cons len_nil)))) ra_nil) f_repr) re_var b_ne)) (rs_ret re_bl) rs_next))))))
      (rs_ret (re_bin (re_lc (ri_list (re_o (ro_call (ra_cons (re_bin re_var re_int b_ix) ra_nil)))) (rg_tup (rgs_cons (rgs_cons rgs_nil))) (rt_test (re_bin (re_o (ro_call (ra_cons re_var (ra_cons re_var ra_nil)))) (re_fn (ra_cons re_var ra_nil) f_repr) b_ne)) re_var) (re_l (rl_lst ra_nil len_nil)) b_eq))))))) h
noncomputable def m_law (K : PySem.W.Frag) : MF := mDef 4 1 none
    (mSeq (mForM (mLc2 (mItL (mLE (mBinL gCat (mLE (mSlS K 0 mNoPart (mPart (mC (.int 6))))) (mLE (mDs (mCons (mC (.int 0)) mNil)))))) (mgN 3) mYes (mCall m__law_draws (mCons (mVar 3) mNil)) [3]) 1 (mFor (mRng1 (mCons (mC (.int 2)) mNil)) (mgN 2) (mIf (mNot (mT (mFz (mCallIo 0 m__law_right (mCons (mVar 1) mNil))))) (mRet (mC (.bool false))) mNext)))
    (mRet (mC (.bool true))))
theorem ok_law (T : Tx K mg ad fd ca ia ifd) : FnG P w K mg base 7 (ad 21) (fd 21) ["script"] (spOf none (m_law K)) := by
  refine okG T.F_law sc_law (fun vs H Q E h => by_len h) (fun cdv A ou s H vs Q E hr gu h => ⟨_, (pss_cons (ps_for PassesOwn.never rfl (pi_listK (K := K) (pe_lc (own := [("cell", 3)]) (g := gName 3) (tt := tYes) rfl sc_law.nd (pi_listK (K := K) (pe_op op_cat (pe_slice (slK (K := K)) (pv 0) po_none (po_some pe_int)) (pe_lst (pa_cons pe_int pa_nil)))) (blkOk_by (own := [("cell", 3)]) (by kernel_rfl)) (fun _ _ _ _ _ => (pg_name (i := 3) sc_law.nd rfl (Or.inl rfl))) (fun _ _ _ _ _ => pts_nil) (fun _ _ _ _ _ => (pe_callG (ok__law_draws T) (hr.mono (by decide)) gu (by rfl) T.g__law_draws T.F__law_draws.kp T.b__law_draws .nil (pa_cons (pv 3) pa_nil))))) (pg_name (i := 1) sc_law.nd rfl (Or.inl rfl)) (pss_one (ps_for PassesOwn.never rfl (pi_range1 (by rfl) T.b_range (pa_cons pe_int pa_nil)) (pg_name (i := 2) sc_law.nd rfl (Or.inl rfl)) (pss_one (ps_if (pt_not (pt_val (pe_callG (ok__law_right T) (hr.mono (by decide)) gu (by rfl) T.g__law_right T.F__law_right.kp T.b__law_right .nil (pa_cons (pv 1) pa_nil)))) (pss_one (ps_ret pe_bl)) pss_nil)))))
      (pss_one (ps_ret pe_bl))), ?_⟩)
  exact def_ok (N := ["script", "draws", "turn", "cell"]) (m := (mSeq (mForM (mLc2 (mItL (mLE (mBinL gCat (mLE (mSlS K 0 mNoPart (mPart (mC (.int 6))))) (mLE (mDs (mCons (mC (.int 0)) mNil)))))) (mgN 3) mYes (mCall m__law_draws (mCons (mVar 3) mNil)) [3]) 1 (mFor (mRng1 (mCons (mC (.int 2)) mNil)) (mgN 2) (mIf (mNot (mT (mFz (mCallIo 0 m__law_right (mCons (mVar 1) mNil))))) (mRet (mC (.bool false))) mNext)))
    (mRet (mC (.bool true))))) ((rs_seq (rs_forM (ro_lc2 (ri_list (re_l (rl_bin (re_l (rl_slS rq_none (rq_some re_int))) (re_l (rl_lst (ra_cons re_int ra_nil) (len_cons len_nil))) b_cat))) rg_name rt_yes (ro_call (ra_cons re_var ra_nil))) (rs_for (ri_rng1 (ra_cons re_int ra_nil)) rg_name (rs_if (rt_not (rt_B (re_o (ro_callIo (ra_cons re_var ra_nil))))) (rs_ret re_bl) rs_next)))
      (rs_ret re_bl))) h
end
end My
namespace My
open PySem PySem.Spec L2 Tr
theorem at30 {α : Type} (a b c : α) : atI [a, b, c] 0 = some a := rfl
theorem at31 {α : Type} (a b c : α) : atI [a, b, c] 1 = some b := rfl
theorem at32 {α : Type} (a b c : α) : atI [a, b, c] 2 = some c := rfl
theorem at20 {α : Type} (a b : α) : atI [a, b] 0 = some a := rfl
theorem at21 {α : Type} (a b : α) : atI [a, b] 1 = some b := rfl
theorem ix30 : ixN 3 0 = some 0 := rfl
theorem ix31 : ixN 3 1 = some 1 := rfl
/-- a square of whole numbers -/
def rowD (n : Nat) (g : Nat → Int) : PyData := .list ((List.range n).map fun y => .int (g y))
def sqD (n : Nat) (f : Nat → Nat → Int) : PyData := .list ((List.range n).map fun x => rowD n (f x))
theorem atI_nat' {α : Type} {xs : List α} {j : Nat} : atI xs ((j : Nat) : Int) = xs[j]? := by
  cases h : xs[j]? with
  | some v => exact atI_nat h
  | none =>
    unfold atI ixN
    have := List.getElem?_eq_none_iff.mp h
    rw [if_pos (by omega), if_neg (by omega)]
    rfl
theorem range_get {α : Type} {n x : Nat} (h : x < n) (f : Nat → α) : ((List.range n).map f)[x]? = some (f x) := by
  rw [List.getElem?_map, List.getElem?_range h]
  rfl
theorem atI_range {α : Type} {n x : Nat} (h : x < n) (f : Nat → α) : atI ((List.range n).map f) ((x : Nat) : Int) = some (f x) := by
  rw [atI_nat', range_get h]
theorem sh_int (i : Int) : SeqAt.shaped (.int i) = true := rfl
theorem eqv_int (i j : Int) : PyData.eqv (.int i) (.int j) = (i == j) := by simp [PyData.eqv]
theorem eqv_refl_int (i : Int) : PyData.eqv (.int i) (.int i) = true := by simp [PyData.eqv]
def dr (c k : Int) (b : Bool) : O := .ow [.int c, .int k, .bool b]
theorem log_lt {a n : Nat} (h : a < 2 ^ n) (h0 : 0 < n) : a.log2 < n := PySem.Flt.log2_lt_of h0 h
theorem mulok {i j : Int} (hi : i.natAbs < 2 ^ 200) (hj : j.natAbs < 2 ^ 200) : decide (i.natAbs.log2 + j.natAbs.log2 < 1000000) = true := by
  have a := log_lt hi (by decide)
  have b := log_lt hj (by decide)
  exact decide_eq_true (by omega)
theorem fmod_lt {i j : Int} (hj : 0 < j) : 0 ≤ i.fmod j ∧ i.fmod j < j := by
  rw [Int.fmod_eq_emod_of_nonneg i (by omega)]
  exact ⟨Int.emod_nonneg _ (by omega), Int.emod_lt_of_pos _ hj⟩
theorem abs_lt {i : Int} {m : Nat} (h0 : 0 ≤ i) (h : i < (m : Int)) : i.natAbs < m := by omega
theorem small_lt {i : Int} (h : i.natAbs < 2 ^ 100) : i.natAbs < 2 ^ 200 := Nat.lt_of_lt_of_le h (Nat.pow_le_pow_right (by decide) (by decide))
theorem run_next {c k : Int} (b : Bool) (hc : 0 ≤ c) (hc2 : c.natAbs < 2 ^ 48000) (hk : 0 ≤ k) (hk2 : k < 1000000000) :
    ∃ r c' : Int, 0 ≤ r ∧ 0 ≤ c' ∧ c'.natAbs < 2 ^ 48000 ∧ m__law_next [dr c k b] = some (.fz (.int r), [dr c' (k + 1) b]) := by
  unfold m__law_next dr
  cases b with
  | true =>
    refine ⟨c.fmod (10 ^ Int.toNat 6), c.fdiv (10 ^ Int.toNat 6), (fmod_lt (by decide +kernel)).1, ?_, ?_, ?_⟩
    · rw [Int.fdiv_eq_ediv_of_nonneg c (by decide +kernel)]
      exact Int.ediv_nonneg hc (by decide +kernel)
    · rw [Int.fdiv_eq_ediv_of_nonneg c (by decide +kernel)]
      have h1 := Int.ediv_le_self (10 ^ Int.toNat 6) hc
      have h2 := Int.ediv_nonneg hc (show (0 : Int) ≤ 10 ^ Int.toNat 6 by decide +kernel)
      exact Nat.lt_of_le_of_lt (by omega) hc2
    · have p1 : decide (0 ≤ (6 : Int) ∧ (Builtin.Int.intBits 10 : Int) * 6 ≤ 2 ^ 27) = true := by decide +kernel
      have p2 : decide ((10 : Int) ^ Int.toNat 6 ≠ 0) = true := by decide +kernel
      have p3 : decide ((10 : Int) ^ Int.toNat 6 ≠ 0 ∧ ((10 : Int) ^ Int.toNat 6).natAbs < 1073741824) = true := by decide +kernel
      (try simp only [mDef, mDef.fin, mSeq, mIf, mOr, mAnd, mNot, mT, mAsg, mAsgO, mRet, mRetO, mRetV, mRetN, mDrop, mNext, mVar, mC, mBin, mUn, mFn, mNil, mCons, mLE, mLO, mDs, mTup, mBinL, mSl, mNoPart, mPart, gPart, mAndV, mOrV, mNotV, mIsi, mFz, mCall, mCallIo, prepA, oneA, bnd, fzP, fzPs, O.dat, vw, sq, sqT, gI, gI0, gMul, gFdiv, gMod, gPow, gEq, gIx, gLen, gInt, gB, gCat, gRep, gNeg, gIn, mgN, mgT, mgTs, mChain, mRg1, mRgv, mItL, mItT, mEnum, mSetI, mApp, mPopAt, mAug, mFor, mLc, mForM, mRng1, mRng2, List.map_cons, List.map_nil, List.length_cons, List.length_nil, List.cons_append, List.nil_append, List.getElem?_cons_zero, List.getElem?_cons_succ, List.set_cons_zero, List.set_cons_succ, Option.map_some, Option.bind_some, Option.map_none, Option.bind_none, if_true, if_false, ite_true, ite_false, List.replicate, Nat.reduceAdd, Nat.reduceSub, Nat.reduceEqDiff, reduceIte, decide_true, decide_false, Bool.not_true, Bool.not_false, Bool.true_and, Bool.and_true, Bool.false_and, Bool.and_false, Bool.false_eq_true, at30, at31, at32, at20, at21, ix30, ix31, *])
  | false =>
    have hk' : 0 ≤ k + 1 := by omega
    have hk'' : k + 1 ≤ 1000000000 := by omega
    obtain ⟨m, hm⟩ : ∃ m, k + 1 = m := ⟨_, rfl⟩
    rw [hm] at hk' hk''
    have s0 : 0 ≤ m * m ∧ m * m ≤ 1000000000 * 1000000000 := ⟨Int.mul_nonneg hk' hk', Int.mul_le_mul hk'' hk'' hk' (by decide)⟩
    obtain ⟨a0, a1⟩ := fmod_lt (i := c) (j := 1000003) (by decide)
    obtain ⟨s1, s2⟩ := s0
    have q1 : decide (m.natAbs.log2 + m.natAbs.log2 < 1000000) = true := mulok (small_lt (by omega)) (small_lt (by omega))
    have q2 : decide ((m * m).natAbs.log2 + (7919 : Int).natAbs.log2 < 1000000) = true := mulok (small_lt (by omega)) (small_lt (by decide))
    have q3 : decide ((c.fmod 1000003 + m * m * 7919 + m).natAbs.log2 + (48271 : Int).natAbs.log2 < 1000000) = true := mulok (small_lt (by omega)) (small_lt (by decide))
    obtain ⟨b0, b1⟩ := fmod_lt (i := (c.fmod 1000003 + m * m * 7919 + m) * 48271) (j := 2147483629) (by decide)
    generalize hn1 : ((c.fmod 1000003 + m * m * 7919 + m) * 48271).fmod 2147483629 = n1 at b0 b1
    have q4 : decide (n1.natAbs.log2 + n1.natAbs.log2 < 1000000) = true := mulok (small_lt (by omega)) (small_lt (by omega))
    obtain ⟨c0, c1⟩ := fmod_lt (i := n1 * n1) (j := 2147483587) (by decide)
    generalize hn2 : (n1 * n1).fmod 2147483587 = n2 at c0 c1
    have q5 : decide (n2.natAbs.log2 + (n2 + 2).natAbs.log2 < 1000000) = true := mulok (small_lt (by omega)) (small_lt (by omega))
    obtain ⟨d0, d1⟩ := fmod_lt (i := n2 * (n2 + 2)) (j := 2147483579) (by decide)
    have p1 : decide ((1000003 : Int) ≠ 0) = true := by decide
    have p2 : decide ((2147483629 : Int) ≠ 0) = true := by decide
    have p3 : decide ((2147483587 : Int) ≠ 0) = true := by decide
    have p4 : decide ((2147483579 : Int) ≠ 0) = true := by decide
    have p5 : decide ((7 : Int) ≠ 0 ∧ (7 : Int).natAbs < 1073741824) = true := by decide
    refine ⟨((n2 * (n2 + 2)).fmod 2147483579).fdiv 7, c, ?_, hc, hc2, ?_⟩
    · rw [Int.fdiv_eq_ediv_of_nonneg _ (by decide)]
      exact Int.ediv_nonneg d0 (by decide)
    · clear a0 a1 s1 s2 b0 b1 c0 c1 d0 d1 hk' hk'' hc hc2 hk hk2
      (try simp only [mDef, mDef.fin, mSeq, mIf, mOr, mAnd, mNot, mT, mAsg, mAsgO, mRet, mRetO, mRetV, mRetN, mDrop, mNext, mVar, mC, mBin, mUn, mFn, mNil, mCons, mLE, mLO, mDs, mTup, mBinL, mSl, mNoPart, mPart, gPart, mAndV, mOrV, mNotV, mIsi, mFz, mCall, mCallIo, prepA, oneA, bnd, fzP, fzPs, O.dat, vw, sq, sqT, gI, gI0, gMul, gFdiv, gMod, gPow, gEq, gIx, gLen, gInt, gB, gCat, gRep, gNeg, gIn, mgN, mgT, mgTs, mChain, mRg1, mRgv, mItL, mItT, mEnum, mSetI, mApp, mPopAt, mAug, mFor, mLc, mForM, mRng1, mRng2, List.map_cons, List.map_nil, List.length_cons, List.length_nil, List.cons_append, List.nil_append, List.getElem?_cons_zero, List.getElem?_cons_succ, List.set_cons_zero, List.set_cons_succ, Option.map_some, Option.bind_some, Option.map_none, Option.bind_none, if_true, if_false, ite_true, ite_false, List.replicate, Nat.reduceAdd, Nat.reduceSub, Nat.reduceEqDiff, reduceIte, decide_true, decide_false, Bool.not_true, Bool.not_false, Bool.true_and, Bool.and_true, Bool.false_and, Bool.and_false, Bool.false_eq_true, at30, at31, at32, at20, at21, ix30, ix31, *])
theorem cut_to {xs : List PyData} {p : Nat} (h : p ≤ xs.length) : cutD xs none (some ((p : Nat) : Int)) = xs.take p := by
  unfold cutD
  rw [HT.sIx_none, HT.sIx_nat, Nat.min_eq_left h, Nat.sub_zero, List.drop_zero]
theorem cut_from {xs : List PyData} {p : Nat} (h : p ≤ xs.length) : cutD xs (some ((p : Nat) : Int)) none = xs.drop p := by
  unfold cutD
  rw [HT.sIx_none, HT.sIx_nat, Nat.min_eq_left h]
  exact List.take_of_length_le (by rw [List.length_drop]; omega)
theorem set_range {α : Type} (n p : Nat) (v : α) (g : Nat → α) : ((List.range n).map g).set p v = (List.range n).map fun y => if y = p then v else g y := by
  refine List.ext_getElem? fun i => ?_
  rw [List.getElem?_set, List.getElem?_map, List.getElem?_map]
  by_cases h : p = i
  · subst h
    simp only [if_true, List.length_map, List.length_range]
    by_cases hp : p < n
    · rw [if_pos hp, List.getElem?_range hp]; simp
    · rw [if_neg hp, List.getElem?_eq_none (by rw [List.length_range]; omega)]; rfl
  · rw [if_neg h]
    by_cases hi : i < n
    · rw [List.getElem?_range hi]; simp [Ne.symm h]
    · rw [List.getElem?_eq_none (by rw [List.length_range]; omega)]; rfl
theorem run_with {n p : Nat} (g : Nat → Int) (v : Int) (hp : p < n) (hn : n ≤ 1000) : m__law_with [.fz (rowD n g), .fz (.int p), .fz (.int v)] = some (.fz (rowD n fun y => if y = p then v else g y), [.fz (rowD n g), .fz (.int p), .fz (.int v)]) := by
  have hl : ((List.range n).map fun y => PyData.int (g y)).length = n := by rw [List.length_map, List.length_range]
  have hz : (1000 : Nat) ≤ sizeLine := by decide
  have e := set_range n p (PyData.int v) fun y => PyData.int (g y)
  have c1 := cut_to (xs := (List.range n).map fun y => PyData.int (g y)) (p := p) (by rw [hl]; omega)
  have c2 := cut_from (xs := (List.range n).map fun y => PyData.int (g y)) (p := p + 1) (by rw [hl]; omega)
  have c3 : (((p + 1 : Nat) : Nat) : Int) = (p : Int) + 1 := by omega
  rw [c3] at c2
  unfold m__law_with rowD
  generalize ((List.range n).map fun y => PyData.int (g y)) = L at hl c1 c2 e ⊢
  have l1 : (L.take p).length + 1 ≤ sizeLine := by rw [List.length_take, hl]; omega
  have l2 : (L.take p ++ [PyData.int v]).length + (L.drop (p + 1)).length ≤ sizeLine := by rw [List.length_append, List.length_take, List.length_drop, hl, List.length_singleton]; omega
  (try simp only [mDef, mDef.fin, mSeq, mIf, mOr, mAnd, mNot, mT, mAsg, mAsgO, mRet, mRetO, mRetV, mRetN, mDrop, mNext, mVar, mC, mBin, mUn, mFn, mNil, mCons, mLE, mLO, mDs, mTup, mBinL, mSl, mNoPart, mPart, gPart, mAndV, mOrV, mNotV, mIsi, mFz, mCall, mCallIo, prepA, oneA, bnd, fzP, fzPs, O.dat, vw, sq, sqT, gI, gI0, gMul, gFdiv, gMod, gPow, gEq, gIx, gLen, gInt, gB, gCat, gRep, gNeg, gIn, mgN, mgT, mgTs, mChain, mRg1, mRgv, mItL, mItT, mEnum, mSetI, mApp, mPopAt, mAug, mFor, mLc, mForM, mRng1, mRng2, List.map_cons, List.map_nil, List.length_cons, List.length_nil, List.cons_append, List.nil_append, List.getElem?_cons_zero, List.getElem?_cons_succ, List.set_cons_zero, List.set_cons_succ, Option.map_some, Option.bind_some, Option.map_none, Option.bind_none, if_true, if_false, ite_true, ite_false, List.replicate, Nat.reduceAdd, Nat.reduceSub, Nat.reduceEqDiff, reduceIte, decide_true, decide_false, Bool.not_true, Bool.not_false, Bool.true_and, Bool.and_true, Bool.false_and, Bool.and_false, Bool.false_eq_true, at30, at31, at32, at20, at21, ix30, ix31, *])
  have e2 : L.take p ++ PyData.int v :: L.drop (p + 1) = L.set p (PyData.int v) := by rw [List.set_eq_take_append_cons_drop, if_pos (by omega)]
  rw [List.append_assoc, List.singleton_append, e2, e]
  have e3 : (fun y => if y = p then PyData.int v else PyData.int (g y)) = fun y => PyData.int (if y = p then v else g y) := by
    funext y
    split <;> rfl
  rw [e3]
theorem run_draws (c : Int) : ∃ d : Int, 0 ≤ d ∧ d.natAbs < 2 ^ 48000 ∧ m__law_draws [.fz (.int c)] = some (dr d 0 (decide ((10 : Int) ^ Int.toNat 18 ≤ c)), [.fz (.int c)]) := by
  have p1 : decide (0 ≤ (60 : Int) ∧ (Builtin.Int.intBits 10 : Int) * 60 ≤ 2 ^ 27) = true := by decide +kernel
  have p2 : decide (0 ≤ (60 : Int) ∧ (Builtin.Int.intBits (10 ^ Int.toNat 60) : Int) * 60 ≤ 2 ^ 27) = true := by decide +kernel
  have p3 : decide (0 ≤ (4 : Int) ∧ (Builtin.Int.intBits ((10 ^ Int.toNat 60) ^ Int.toNat 60) : Int) * 4 ≤ 2 ^ 27) = true := by decide +kernel
  have p4 : decide ((((10 : Int) ^ Int.toNat 60) ^ Int.toNat 60) ^ Int.toNat 4 ≠ 0) = true := by decide +kernel
  have p5 : decide (0 ≤ (18 : Int) ∧ (Builtin.Int.intBits 10 : Int) * 18 ≤ 2 ^ 27) = true := by decide +kernel
  have p6 : 0 < (((10 : Int) ^ Int.toNat 60) ^ Int.toNat 60) ^ Int.toNat 4 := by decide +kernel
  have p7 : ((((10 : Int) ^ Int.toNat 60) ^ Int.toNat 60) ^ Int.toNat 4).natAbs < 2 ^ 48000 := by decide +kernel
  have p8 : 3 ≤ sizeLine := by decide
  unfold m__law_draws dr
  generalize hM : (((10 : Int) ^ Int.toNat 60) ^ Int.toNat 60) ^ Int.toNat 4 = M at p4 p6 p7
  obtain ⟨a0, a1⟩ := fmod_lt (i := c) (j := M) p6
  refine ⟨c.fmod M, a0, Nat.lt_trans (by omega) p7, ?_⟩
  clear a0 a1 p6 p7
  (try simp only [mDef, mDef.fin, mSeq, mIf, mOr, mAnd, mNot, mT, mAsg, mAsgO, mRet, mRetO, mRetV, mRetN, mDrop, mNext, mVar, mC, mBin, mUn, mFn, mNil, mCons, mLE, mLO, mDs, mTup, mBinL, mSl, mNoPart, mPart, gPart, mAndV, mOrV, mNotV, mIsi, mFz, mCall, mCallIo, prepA, oneA, bnd, fzP, fzPs, O.dat, vw, sq, sqT, gI, gI0, gMul, gFdiv, gMod, gPow, gEq, gIx, gLen, gInt, gB, gCat, gRep, gNeg, gIn, mgN, mgT, mgTs, mChain, mRg1, mRgv, mItL, mItT, mEnum, mSetI, mApp, mPopAt, mAug, mFor, mLc, mForM, mRng1, mRng2, List.map_cons, List.map_nil, List.length_cons, List.length_nil, List.cons_append, List.nil_append, List.getElem?_cons_zero, List.getElem?_cons_succ, List.set_cons_zero, List.set_cons_succ, Option.map_some, Option.bind_some, Option.map_none, Option.bind_none, if_true, if_false, ite_true, ite_false, List.replicate, Nat.reduceAdd, Nat.reduceSub, Nat.reduceEqDiff, reduceIte, decide_true, decide_false, Bool.not_true, Bool.not_false, Bool.true_and, Bool.and_true, Bool.false_and, Bool.and_false, Bool.false_eq_true, at30, at31, at32, at20, at21, ix30, ix31, *])
theorem mSeq_nx {m n : MS} {env e : En} (h : m env = some (.nx, e)) : mSeq m n env = n e := by unfold mSeq; simp only [h]
def DrOk (B : Int) (ds : List PyData) : Prop := ∃ (c k : Int) (b : Bool), ds = [.int c, .int k, .bool b] ∧ 0 ≤ c ∧ c.natAbs < 2 ^ 48000 ∧ 0 ≤ k ∧ k ≤ B
theorem DrOk.mono {B B' : Int} {ds : List PyData} (h : DrOk B ds) (hb : B ≤ B') : DrOk B' ds := by
  obtain ⟨c, k, b, h1, h2, h3, h4, h5⟩ := h
  exact ⟨c, k, b, h1, h2, h3, h4, by omega⟩
theorem draw_next {B : Int} {ds : List PyData} (h : DrOk B ds) (hB : B < 1000000000) : ∃ (r : Int) (ds' : List PyData), 0 ≤ r ∧ DrOk (B + 1) ds' ∧ m__law_next [.ow ds] = some (.fz (.int r), [.ow ds']) := by
  obtain ⟨c, k, b, rfl, h2, h3, h4, h5⟩ := h
  obtain ⟨r, c', r0, c0, c1, e⟩ := run_next b h2 h3 h4 (by omega)
  exact ⟨r, _, r0, ⟨c', k + 1, b, rfl, c0, c1, by omega, by omega⟩, e⟩
def rows (n : Nat) (f : Nat → Nat → Int) : List PyData := (List.range n).map fun x => rowD n (f x)
theorem rows_len {n : Nat} {f : Nat → Nat → Int} : (rows n f).length = n := by unfold rows; rw [List.length_map, List.length_range]
theorem rows_at {n x : Nat} {f : Nat → Nat → Int} (h : x < n) : atI (rows n f) (x : Int) = some (rowD n (f x)) := atI_range h _
def updF (f : Nat → Nat → Int) (i j : Nat) (v : Int) : Nat → Nat → Int := fun x y => if x = i ∧ y = j then v else f x y
theorem rows_upd {n i j : Nat} {f : Nat → Nat → Int} {v : Int} : (rows n f).set i (rowD n fun y => if y = j then v else f i y) = rows n (updF f i j v) := by
  unfold rows
  rw [set_range]
  congr 1
  funext x
  by_cases h : x = i
  · subst h
    rw [if_pos rfl]
    congr 1
    funext y
    unfold updF
    by_cases hy : y = j
    · simp [hy]
    · simp [hy]
  · rw [if_neg h]
    congr 1
    funext y
    unfold updF
    rw [if_neg (fun z => h z.1)]
theorem ix_nat {n i : Nat} (h : i < n) : ixN n (i : Int) = some i := by
  unfold ixN
  rw [if_pos (by omega), if_pos (by omega)]
  simp
def Skew (n : Nat) (f : Nat → Nat → Int) : Prop := (∀ x y, f x y = -1 ∨ f x y = 0 ∨ f x y = 1) ∧ ∀ x y, f y x = -f x y
theorem Skew.upd {n i j : Nat} {f : Nat → Nat → Int} {v : Int} (h : Skew n f) (hv : v = -1 ∨ v = 0 ∨ v = 1) (ne : i ≠ j) : Skew n (updF (updF f i j v) j i (-v)) := by
  refine ⟨fun x y => ?_, fun x y => ?_⟩
  · have := h.1 x y
    unfold updF
    grind
  · have := h.2 x y
    unfold updF
    grind
theorem mod2 (r : Int) : r.fmod 2 = 0 ∨ r.fmod 2 = 1 := by
  have := fmod_lt (i := r) (j := 2) (by decide)
  omega
theorem with_row {n i j : Nat} (f : Nat → Nat → Int) (v : Int) (hj : j < n) (hn : n ≤ 1000) : m__law_with [.fz (rowD n (f i)), .fz (.int j), .fz (.int v)] = some (.fz (rowD n fun y => if y = j then v else f i y), [.fz (rowD n (f i)), .fz (.int j), .fz (.int v)]) := run_with (f i) v hj hn
theorem step_answers {B a b : Int} {ds : List PyData} {n i j : Nat} {f : Nat → Nat → Int} {x7 x8 : Option O} (hd : DrOk B ds) (hB : B < 1000000000) (hb : 0 < b) (hi : i < n) (hj : j < i) (hn : n ≤ 12) (hf : Skew n f) :
    ∃ ds' v y7 y8, DrOk (B + 1) ds' ∧ (v = -1 ∨ v = 0 ∨ v = 1) ∧ (a ≤ 0 → v ≠ 0) ∧ (mSeq (mAsg (mFz (mCallIo 0 m__law_next (mCons (mVar 0) mNil))) (mgN 7))
    (mSeq (mAsg (mBin gIx (mLE (mDs (mCons (mBin (gI0 fun i j => .int (i - j)) (mC (.int 1)) (mBin gMul (mC (.int 2)) (mBin gMod (mFn gInt (mCons (mVar 7) mNil)) (mC (.int 2))))) (mCons (mC (.int 0)) mNil)))) (mFn gInt (mCons (mBin (gI0 fun i j => .bool (decide (i < j))) (mBin gMod (mFn gInt (mCons (mBin gFdiv (mVar 7) (mC (.int 2))) mNil)) (mBin gIx (mVar 2) (mC (.int 1)))) (mBin gIx (mVar 2) (mC (.int 0)))) mNil))) (mgN 8))
    (mSeq (mSetI 3 (mVar 4) (mFz (mCall m__law_with (mCons (mBin gIx (mVar 3) (mVar 4)) (mCons (mVar 5) (mCons (mVar 8) mNil))))))
    (mSetI 3 (mVar 5) (mFz (mCall m__law_with (mCons (mBin gIx (mVar 3) (mVar 5)) (mCons (mVar 4) (mCons (mUn gNeg (mVar 8)) mNil)))))))))
      [some (.ow ds), some (.fz (.int n)), some (.fz (.list [.int a, .int b])), some (.ow (rows n f)), some (.fz (.int i)), some (.fz (.int j)), none, x7, x8] =
      some (.nx, [some (.ow ds'), some (.fz (.int n)), some (.fz (.list [.int a, .int b])), some (.ow (rows n (updF (updF f i j v) j i (-v)))), some (.fz (.int i)), some (.fz (.int j)), none, y7, y8]) := by
  obtain ⟨r, ds', r0, d', e0⟩ := draw_next hd hB
  obtain ⟨v, hv, hv0, e1⟩ : ∃ v : Int, (v = -1 ∨ v = 0 ∨ v = 1) ∧ (a ≤ 0 → v ≠ 0) ∧ (mAsg (mBin gIx (mLE (mDs (mCons (mBin (gI0 fun i j => .int (i - j)) (mC (.int 1)) (mBin gMul (mC (.int 2)) (mBin gMod (mFn gInt (mCons (mVar 7) mNil)) (mC (.int 2))))) (mCons (mC (.int 0)) mNil)))) (mFn gInt (mCons (mBin (gI0 fun i j => .bool (decide (i < j))) (mBin gMod (mFn gInt (mCons (mBin gFdiv (mVar 7) (mC (.int 2))) mNil)) (mBin gIx (mVar 2) (mC (.int 1)))) (mBin gIx (mVar 2) (mC (.int 0)))) mNil))) (mgN 8)) [some (.ow ds'), some (.fz (.int n)), some (.fz (.list [.int a, .int b])), some (.ow (rows n f)), some (.fz (.int i)), some (.fz (.int j)), none, some (.fz (.int r)), x8] = some (.nx, [some (.ow ds'), some (.fz (.int n)), some (.fz (.list [.int a, .int b])), some (.ow (rows n f)), some (.fz (.int i)), some (.fz (.int j)), none, some (.fz (.int r)), some (.fz (.int v))]) := by
    have p1 : decide ((2 : Int) ≠ 0) = true := by decide
    have p2 : decide (b ≠ 0) = true := decide_eq_true (by omega)
    have p6 := (fmod_lt (i := r.fdiv 2) hb).1
    have p3 : decide ((2 : Int) ≠ 0 ∧ (2 : Int).natAbs < 1073741824) = true := by decide
    have p4 : 2 ≤ sizeLine := by decide
    have p5 : decide ((2 : Int).natAbs.log2 + (r.fmod 2).natAbs.log2 < 1000000) = true := by rcases mod2 r with h | h <;> rw [h] <;> decide
    rcases Bool.eq_false_or_eq_true (decide ((r.fdiv 2).fmod b < a)) with hc | hc
    · refine ⟨0, by omega, fun z => ?_, ?_⟩
      · have := of_decide_eq_true hc
        omega
      (try simp only [mDef, mDef.fin, mSeq, mIf, mOr, mAnd, mNot, mT, mAsg, mAsgO, mRet, mRetO, mRetV, mRetN, mDrop, mNext, mVar, mC, mBin, mUn, mFn, mNil, mCons, mLE, mLO, mDs, mTup, mBinL, mSl, mNoPart, mPart, gPart, mAndV, mOrV, mNotV, mIsi, mFz, mCall, mCallIo, prepA, oneA, bnd, fzP, fzPs, O.dat, vw, sq, sqT, gI, gI0, gMul, gFdiv, gMod, gPow, gEq, gIx, gLen, gInt, gB, gCat, gRep, gNeg, gIn, mgN, mgT, mgTs, mChain, mRg1, mRgv, mItL, mItT, mEnum, mSetI, mApp, mPopAt, mAug, mFor, mLc, mForM, mRng1, mRng2, List.map_cons, List.map_nil, List.length_cons, List.length_nil, List.cons_append, List.nil_append, List.getElem?_cons_zero, List.getElem?_cons_succ, List.set_cons_zero, List.set_cons_succ, Option.map_some, Option.bind_some, Option.map_none, Option.bind_none, if_true, if_false, ite_true, ite_false, List.replicate, Nat.reduceAdd, Nat.reduceSub, Nat.reduceEqDiff, reduceIte, decide_true, decide_false, Bool.not_true, Bool.not_false, Bool.true_and, Bool.and_true, Bool.false_and, Bool.and_false, Bool.false_eq_true, at30, at31, at32, at20, at21, ix30, ix31])
      simp only [p1, p2, p3, p4, p5, hc, if_true]
      (try simp only [mDef, mDef.fin, mSeq, mIf, mOr, mAnd, mNot, mT, mAsg, mAsgO, mRet, mRetO, mRetV, mRetN, mDrop, mNext, mVar, mC, mBin, mUn, mFn, mNil, mCons, mLE, mLO, mDs, mTup, mBinL, mSl, mNoPart, mPart, gPart, mAndV, mOrV, mNotV, mIsi, mFz, mCall, mCallIo, prepA, oneA, bnd, fzP, fzPs, O.dat, vw, sq, sqT, gI, gI0, gMul, gFdiv, gMod, gPow, gEq, gIx, gLen, gInt, gB, gCat, gRep, gNeg, gIn, mgN, mgT, mgTs, mChain, mRg1, mRgv, mItL, mItT, mEnum, mSetI, mApp, mPopAt, mAug, mFor, mLc, mForM, mRng1, mRng2, List.map_cons, List.map_nil, List.length_cons, List.length_nil, List.cons_append, List.nil_append, List.getElem?_cons_zero, List.getElem?_cons_succ, List.set_cons_zero, List.set_cons_succ, Option.map_some, Option.bind_some, Option.map_none, Option.bind_none, if_true, if_false, ite_true, ite_false, List.replicate, Nat.reduceAdd, Nat.reduceSub, Nat.reduceEqDiff, reduceIte, decide_true, decide_false, Bool.not_true, Bool.not_false, Bool.true_and, Bool.and_true, Bool.false_and, Bool.and_false, Bool.false_eq_true, at30, at31, at32, at20, at21, ix30, ix31, *])
    · refine ⟨1 - 2 * r.fmod 2, by rcases mod2 r with h | h <;> rw [h] <;> decide, fun _ => by rcases mod2 r with h | h <;> rw [h] <;> decide, ?_⟩
      (try simp only [mDef, mDef.fin, mSeq, mIf, mOr, mAnd, mNot, mT, mAsg, mAsgO, mRet, mRetO, mRetV, mRetN, mDrop, mNext, mVar, mC, mBin, mUn, mFn, mNil, mCons, mLE, mLO, mDs, mTup, mBinL, mSl, mNoPart, mPart, gPart, mAndV, mOrV, mNotV, mIsi, mFz, mCall, mCallIo, prepA, oneA, bnd, fzP, fzPs, O.dat, vw, sq, sqT, gI, gI0, gMul, gFdiv, gMod, gPow, gEq, gIx, gLen, gInt, gB, gCat, gRep, gNeg, gIn, mgN, mgT, mgTs, mChain, mRg1, mRgv, mItL, mItT, mEnum, mSetI, mApp, mPopAt, mAug, mFor, mLc, mForM, mRng1, mRng2, List.map_cons, List.map_nil, List.length_cons, List.length_nil, List.cons_append, List.nil_append, List.getElem?_cons_zero, List.getElem?_cons_succ, List.set_cons_zero, List.set_cons_succ, Option.map_some, Option.bind_some, Option.map_none, Option.bind_none, if_true, if_false, ite_true, ite_false, List.replicate, Nat.reduceAdd, Nat.reduceSub, Nat.reduceEqDiff, reduceIte, decide_true, decide_false, Bool.not_true, Bool.not_false, Bool.true_and, Bool.and_true, Bool.false_and, Bool.and_false, Bool.false_eq_true, at30, at31, at32, at20, at21, ix30, ix31])
      simp only [p1, p2, p3, p4, p5, hc, if_true]
      (try simp only [mDef, mDef.fin, mSeq, mIf, mOr, mAnd, mNot, mT, mAsg, mAsgO, mRet, mRetO, mRetV, mRetN, mDrop, mNext, mVar, mC, mBin, mUn, mFn, mNil, mCons, mLE, mLO, mDs, mTup, mBinL, mSl, mNoPart, mPart, gPart, mAndV, mOrV, mNotV, mIsi, mFz, mCall, mCallIo, prepA, oneA, bnd, fzP, fzPs, O.dat, vw, sq, sqT, gI, gI0, gMul, gFdiv, gMod, gPow, gEq, gIx, gLen, gInt, gB, gCat, gRep, gNeg, gIn, mgN, mgT, mgTs, mChain, mRg1, mRgv, mItL, mItT, mEnum, mSetI, mApp, mPopAt, mAug, mFor, mLc, mForM, mRng1, mRng2, List.map_cons, List.map_nil, List.length_cons, List.length_nil, List.cons_append, List.nil_append, List.getElem?_cons_zero, List.getElem?_cons_succ, List.set_cons_zero, List.set_cons_succ, Option.map_some, Option.bind_some, Option.map_none, Option.bind_none, if_true, if_false, ite_true, ite_false, List.replicate, Nat.reduceAdd, Nat.reduceSub, Nat.reduceEqDiff, reduceIte, decide_true, decide_false, Bool.not_true, Bool.not_false, Bool.true_and, Bool.and_true, Bool.false_and, Bool.and_false, Bool.false_eq_true, at30, at31, at32, at20, at21, ix30, ix31, *])
  refine ⟨ds', v, some (.fz (.int r)), some (.fz (.int v)), d', hv, hv0, ?_⟩
  refine (mSeq_nx (e := [some (.ow ds'), some (.fz (.int n)), some (.fz (.list [.int a, .int b])), some (.ow (rows n f)), some (.fz (.int i)), some (.fz (.int j)), none, some (.fz (.int r)), x8]) (by (try simp only [mDef, mDef.fin, mSeq, mIf, mOr, mAnd, mNot, mT, mAsg, mAsgO, mRet, mRetO, mRetV, mRetN, mDrop, mNext, mVar, mC, mBin, mUn, mFn, mNil, mCons, mLE, mLO, mDs, mTup, mBinL, mSl, mNoPart, mPart, gPart, mAndV, mOrV, mNotV, mIsi, mFz, mCall, mCallIo, prepA, oneA, bnd, fzP, fzPs, O.dat, vw, sq, sqT, gI, gI0, gMul, gFdiv, gMod, gPow, gEq, gIx, gLen, gInt, gB, gCat, gRep, gNeg, gIn, mgN, mgT, mgTs, mChain, mRg1, mRgv, mItL, mItT, mEnum, mSetI, mApp, mPopAt, mAug, mFor, mLc, mForM, mRng1, mRng2, List.map_cons, List.map_nil, List.length_cons, List.length_nil, List.cons_append, List.nil_append, List.getElem?_cons_zero, List.getElem?_cons_succ, List.set_cons_zero, List.set_cons_succ, Option.map_some, Option.bind_some, Option.map_none, Option.bind_none, if_true, if_false, ite_true, ite_false, List.replicate, Nat.reduceAdd, Nat.reduceSub, Nat.reduceEqDiff, reduceIte, decide_true, decide_false, Bool.not_true, Bool.not_false, Bool.true_and, Bool.and_true, Bool.false_and, Bool.and_false, Bool.false_eq_true, at30, at31, at32, at20, at21, ix30, ix31]); simp only [e0]; (try simp only [mDef, mDef.fin, mSeq, mIf, mOr, mAnd, mNot, mT, mAsg, mAsgO, mRet, mRetO, mRetV, mRetN, mDrop, mNext, mVar, mC, mBin, mUn, mFn, mNil, mCons, mLE, mLO, mDs, mTup, mBinL, mSl, mNoPart, mPart, gPart, mAndV, mOrV, mNotV, mIsi, mFz, mCall, mCallIo, prepA, oneA, bnd, fzP, fzPs, O.dat, vw, sq, sqT, gI, gI0, gMul, gFdiv, gMod, gPow, gEq, gIx, gLen, gInt, gB, gCat, gRep, gNeg, gIn, mgN, mgT, mgTs, mChain, mRg1, mRgv, mItL, mItT, mEnum, mSetI, mApp, mPopAt, mAug, mFor, mLc, mForM, mRng1, mRng2, List.map_cons, List.map_nil, List.length_cons, List.length_nil, List.cons_append, List.nil_append, List.getElem?_cons_zero, List.getElem?_cons_succ, List.set_cons_zero, List.set_cons_succ, Option.map_some, Option.bind_some, Option.map_none, Option.bind_none, if_true, if_false, ite_true, ite_false, List.replicate, Nat.reduceAdd, Nat.reduceSub, Nat.reduceEqDiff, reduceIte, decide_true, decide_false, Bool.not_true, Bool.not_false, Bool.true_and, Bool.and_true, Bool.false_and, Bool.and_false, Bool.false_eq_true, at30, at31, at32, at20, at21, ix30, ix31]))).trans ?_
  refine (mSeq_nx e1).trans ?_
  have h1 := rows_at (f := f) hi
  have h2 := with_row (i := i) (j := j) f v (by omega) (show n ≤ 1000 by omega)
  have h3 := ix_nat hi
  have h4 := rows_len (n := n) (f := f)
  have h5 := rows_upd (n := n) (i := i) (j := j) (f := f) (v := v)
  refine (mSeq_nx (e := [some (.ow ds'), some (.fz (.int n)), some (.fz (.list [.int a, .int b])), some (.ow (rows n (updF f i j v))), some (.fz (.int i)), some (.fz (.int j)), none, some (.fz (.int r)), some (.fz (.int v))]) (by (try simp only [mDef, mDef.fin, mSeq, mIf, mOr, mAnd, mNot, mT, mAsg, mAsgO, mRet, mRetO, mRetV, mRetN, mDrop, mNext, mVar, mC, mBin, mUn, mFn, mNil, mCons, mLE, mLO, mDs, mTup, mBinL, mSl, mNoPart, mPart, gPart, mAndV, mOrV, mNotV, mIsi, mFz, mCall, mCallIo, prepA, oneA, bnd, fzP, fzPs, O.dat, vw, sq, sqT, gI, gI0, gMul, gFdiv, gMod, gPow, gEq, gIx, gLen, gInt, gB, gCat, gRep, gNeg, gIn, mgN, mgT, mgTs, mChain, mRg1, mRgv, mItL, mItT, mEnum, mSetI, mApp, mPopAt, mAug, mFor, mLc, mForM, mRng1, mRng2, List.map_cons, List.map_nil, List.length_cons, List.length_nil, List.cons_append, List.nil_append, List.getElem?_cons_zero, List.getElem?_cons_succ, List.set_cons_zero, List.set_cons_succ, Option.map_some, Option.bind_some, Option.map_none, Option.bind_none, if_true, if_false, ite_true, ite_false, List.replicate, Nat.reduceAdd, Nat.reduceSub, Nat.reduceEqDiff, reduceIte, decide_true, decide_false, Bool.not_true, Bool.not_false, Bool.true_and, Bool.and_true, Bool.false_and, Bool.and_false, Bool.false_eq_true, at30, at31, at32, at20, at21, ix30, ix31]); simp only [h1]; (try simp only [mDef, mDef.fin, mSeq, mIf, mOr, mAnd, mNot, mT, mAsg, mAsgO, mRet, mRetO, mRetV, mRetN, mDrop, mNext, mVar, mC, mBin, mUn, mFn, mNil, mCons, mLE, mLO, mDs, mTup, mBinL, mSl, mNoPart, mPart, gPart, mAndV, mOrV, mNotV, mIsi, mFz, mCall, mCallIo, prepA, oneA, bnd, fzP, fzPs, O.dat, vw, sq, sqT, gI, gI0, gMul, gFdiv, gMod, gPow, gEq, gIx, gLen, gInt, gB, gCat, gRep, gNeg, gIn, mgN, mgT, mgTs, mChain, mRg1, mRgv, mItL, mItT, mEnum, mSetI, mApp, mPopAt, mAug, mFor, mLc, mForM, mRng1, mRng2, List.map_cons, List.map_nil, List.length_cons, List.length_nil, List.cons_append, List.nil_append, List.getElem?_cons_zero, List.getElem?_cons_succ, List.set_cons_zero, List.set_cons_succ, Option.map_some, Option.bind_some, Option.map_none, Option.bind_none, if_true, if_false, ite_true, ite_false, List.replicate, Nat.reduceAdd, Nat.reduceSub, Nat.reduceEqDiff, reduceIte, decide_true, decide_false, Bool.not_true, Bool.not_false, Bool.true_and, Bool.and_true, Bool.false_and, Bool.and_false, Bool.false_eq_true, at30, at31, at32, at20, at21, ix30, ix31]); simp only [h2]; (try simp only [mDef, mDef.fin, mSeq, mIf, mOr, mAnd, mNot, mT, mAsg, mAsgO, mRet, mRetO, mRetV, mRetN, mDrop, mNext, mVar, mC, mBin, mUn, mFn, mNil, mCons, mLE, mLO, mDs, mTup, mBinL, mSl, mNoPart, mPart, gPart, mAndV, mOrV, mNotV, mIsi, mFz, mCall, mCallIo, prepA, oneA, bnd, fzP, fzPs, O.dat, vw, sq, sqT, gI, gI0, gMul, gFdiv, gMod, gPow, gEq, gIx, gLen, gInt, gB, gCat, gRep, gNeg, gIn, mgN, mgT, mgTs, mChain, mRg1, mRgv, mItL, mItT, mEnum, mSetI, mApp, mPopAt, mAug, mFor, mLc, mForM, mRng1, mRng2, List.map_cons, List.map_nil, List.length_cons, List.length_nil, List.cons_append, List.nil_append, List.getElem?_cons_zero, List.getElem?_cons_succ, List.set_cons_zero, List.set_cons_succ, Option.map_some, Option.bind_some, Option.map_none, Option.bind_none, if_true, if_false, ite_true, ite_false, List.replicate, Nat.reduceAdd, Nat.reduceSub, Nat.reduceEqDiff, reduceIte, decide_true, decide_false, Bool.not_true, Bool.not_false, Bool.true_and, Bool.and_true, Bool.false_and, Bool.and_false, Bool.false_eq_true, at30, at31, at32, at20, at21, ix30, ix31]); simp only [h4, h3, h5])).trans ?_
  have g1 := rows_at (f := updF f i j v) (show j < n by omega)
  have g2 := with_row (i := j) (j := i) (updF f i j v) (-v) (by omega) (show n ≤ 1000 by omega)
  have g3 := ix_nat (show j < n by omega)
  have g4 := rows_len (n := n) (f := updF f i j v)
  have g5 := rows_upd (n := n) (i := j) (j := i) (f := updF f i j v) (v := -v)
  (try simp only [mDef, mDef.fin, mSeq, mIf, mOr, mAnd, mNot, mT, mAsg, mAsgO, mRet, mRetO, mRetV, mRetN, mDrop, mNext, mVar, mC, mBin, mUn, mFn, mNil, mCons, mLE, mLO, mDs, mTup, mBinL, mSl, mNoPart, mPart, gPart, mAndV, mOrV, mNotV, mIsi, mFz, mCall, mCallIo, prepA, oneA, bnd, fzP, fzPs, O.dat, vw, sq, sqT, gI, gI0, gMul, gFdiv, gMod, gPow, gEq, gIx, gLen, gInt, gB, gCat, gRep, gNeg, gIn, mgN, mgT, mgTs, mChain, mRg1, mRgv, mItL, mItT, mEnum, mSetI, mApp, mPopAt, mAug, mFor, mLc, mForM, mRng1, mRng2, List.map_cons, List.map_nil, List.length_cons, List.length_nil, List.cons_append, List.nil_append, List.getElem?_cons_zero, List.getElem?_cons_succ, List.set_cons_zero, List.set_cons_succ, Option.map_some, Option.bind_some, Option.map_none, Option.bind_none, if_true, if_false, ite_true, ite_false, List.replicate, Nat.reduceAdd, Nat.reduceSub, Nat.reduceEqDiff, reduceIte, decide_true, decide_false, Bool.not_true, Bool.not_false, Bool.true_and, Bool.and_true, Bool.false_and, Bool.and_false, Bool.false_eq_true, at30, at31, at32, at20, at21, ix30, ix31]); simp only [g1]; (try simp only [mDef, mDef.fin, mSeq, mIf, mOr, mAnd, mNot, mT, mAsg, mAsgO, mRet, mRetO, mRetV, mRetN, mDrop, mNext, mVar, mC, mBin, mUn, mFn, mNil, mCons, mLE, mLO, mDs, mTup, mBinL, mSl, mNoPart, mPart, gPart, mAndV, mOrV, mNotV, mIsi, mFz, mCall, mCallIo, prepA, oneA, bnd, fzP, fzPs, O.dat, vw, sq, sqT, gI, gI0, gMul, gFdiv, gMod, gPow, gEq, gIx, gLen, gInt, gB, gCat, gRep, gNeg, gIn, mgN, mgT, mgTs, mChain, mRg1, mRgv, mItL, mItT, mEnum, mSetI, mApp, mPopAt, mAug, mFor, mLc, mForM, mRng1, mRng2, List.map_cons, List.map_nil, List.length_cons, List.length_nil, List.cons_append, List.nil_append, List.getElem?_cons_zero, List.getElem?_cons_succ, List.set_cons_zero, List.set_cons_succ, Option.map_some, Option.bind_some, Option.map_none, Option.bind_none, if_true, if_false, ite_true, ite_false, List.replicate, Nat.reduceAdd, Nat.reduceSub, Nat.reduceEqDiff, reduceIte, decide_true, decide_false, Bool.not_true, Bool.not_false, Bool.true_and, Bool.and_true, Bool.false_and, Bool.and_false, Bool.false_eq_true, at30, at31, at32, at20, at21, ix30, ix31]); simp only [g2]; (try simp only [mDef, mDef.fin, mSeq, mIf, mOr, mAnd, mNot, mT, mAsg, mAsgO, mRet, mRetO, mRetV, mRetN, mDrop, mNext, mVar, mC, mBin, mUn, mFn, mNil, mCons, mLE, mLO, mDs, mTup, mBinL, mSl, mNoPart, mPart, gPart, mAndV, mOrV, mNotV, mIsi, mFz, mCall, mCallIo, prepA, oneA, bnd, fzP, fzPs, O.dat, vw, sq, sqT, gI, gI0, gMul, gFdiv, gMod, gPow, gEq, gIx, gLen, gInt, gB, gCat, gRep, gNeg, gIn, mgN, mgT, mgTs, mChain, mRg1, mRgv, mItL, mItT, mEnum, mSetI, mApp, mPopAt, mAug, mFor, mLc, mForM, mRng1, mRng2, List.map_cons, List.map_nil, List.length_cons, List.length_nil, List.cons_append, List.nil_append, List.getElem?_cons_zero, List.getElem?_cons_succ, List.set_cons_zero, List.set_cons_succ, Option.map_some, Option.bind_some, Option.map_none, Option.bind_none, if_true, if_false, ite_true, ite_false, List.replicate, Nat.reduceAdd, Nat.reduceSub, Nat.reduceEqDiff, reduceIte, decide_true, decide_false, Bool.not_true, Bool.not_false, Bool.true_and, Bool.and_true, Bool.false_and, Bool.and_false, Bool.false_eq_true, at30, at31, at32, at20, at21, ix30, ix31]); simp only [g4, g3, g5]
/-! what a run ends with -/
def Ends (m : MS) (env : En) (Q : Ctl → En → Prop) : Prop := ∃ c e, m env = some (c, e) ∧ Q c e
theorem Ends.of {m : MS} {env e : En} {c : Ctl} {Q : Ctl → En → Prop} (h : m env = some (c, e)) (q : Q c e) : Ends m env Q := ⟨c, e, h, q⟩
theorem Ends.seq {m n : MS} {env : En} {P : En → Prop} {Q : Ctl → En → Prop} (h : Ends m env fun c e => c = .nx ∧ P e) (k : ∀ e, P e → Ends n e Q) : Ends (mSeq m n) env Q := by
  obtain ⟨c, e, h1, rfl, h2⟩ := h
  obtain ⟨c', e', h3, h4⟩ := k e h2
  exact ⟨c', e', (mSeq_nx h1).trans h3, h4⟩
theorem Ends.step {m n : MS} {env e : En} {Q : Ctl → En → Prop} (h : m env = some (.nx, e)) (k : Ends n e Q) : Ends (mSeq m n) env Q := by
  obtain ⟨c', e', h3, h4⟩ := k
  exact ⟨c', e', (mSeq_nx h).trans h3, h4⟩
theorem Ends.loop {mi : ML} {mg : PyData → En → Option En} {mb : MS} {env e0 : En} {ds : List PyData} {Q : Ctl → En → Prop} (J : Nat → En → Prop) (h : mi env = some (ds, e0)) (h0 : J 0 e0)
    (st : ∀ i d, ds[i]? = some d → ∀ e, J i e → ∃ e1, mg d e = some e1 ∧ Ends mb e1 fun c e2 => c = .nx ∧ J (i + 1) e2) (q : ∀ e, J ds.length e → Q .nx e) : Ends (mFor mi mg mb) env Q := by
  obtain ⟨e', h1, h2⟩ := forGo_inv (mg := mg) (mb := mb) (ds := ds) J (fun i d hd e hj => by
    obtain ⟨e1, a, c, e2, b, rfl, d⟩ := st i d hd e hj
    exact ⟨e1, a, e2, b, d⟩) e0 h0
  exact ⟨.nx, e', by unfold mFor bnd; simp only [h, h1], q e' h2⟩
theorem mDef_rt {n np : Nat} {pn : Option Nat} {m : MS} {os : List O} {Q : O → List O → Prop} (h1 : os.length = np) (h2 : Ends m (os.map some ++ List.replicate (n - os.length) none) fun c e => ∃ r os', c = .rt r ∧ mDef.fin pn os e r = some (r, os') ∧ Q r os') : ∃ r os', mDef n np pn m os = some (r, os') ∧ Q r os' := by
  obtain ⟨c, e, h3, r, os', rfl, h4, h5⟩ := h2
  refine ⟨r, os', ?_, h5⟩
  unfold mDef
  simp only [h1, if_true]
  rw [← h1, h3]
  exact h4
theorem rng1_nat {ma : MA} {env e : En} {n : Nat} (h : ma env = some ([.val (.int n)], e)) (hn : n < 1000000) : mRng1 ma env = some (rgD 0 n, e) := by
  unfold mRng1 bnd
  simp only [h]
  rw [if_pos (by omega), Int.toNat_natCast]
theorem rg_at {n i : Nat} {d : PyData} (h : (rgD 0 n)[i]? = some d) : i < n ∧ d = .int i := by
  rw [rgD_get] at h
  split at h
  · rename_i hi
    cases h
    exact ⟨hi, by rw [Int.zero_add]⟩
  · cases h
theorem rep_zero {n : Nat} : (List.replicate n [PyData.int 0]).flatten = (List.range n).map fun _ => PyData.int 0 := by
  induction n with
  | zero => rfl
  | succ n ih => rw [List.replicate_succ', List.flatten_append, ih, List.range_succ, List.map_append]; rfl
theorem lcO {mi : ML} {me : ME} {i : Nat} {env e : En} {ds : List PyData} (y : PyData → PyData) (h : mi env = some (ds, e)) (hw : wipeE e [i] = e) (hy : ∀ d ∈ ds, ∃ p e3, me (e.set i (some (.fz d))) = some (p, e3) ∧ ∃ e4, fzP e3 p = some (y d, e4) ∧ wipeE e4 [i] = e) (hz : ds.length ≤ sizeLine) :
    mLc mi (mgN i) mYes me [i] env = some (ds.map y, e) := by
  unfold mLc bnd
  simp only [h, hw]
  exact lcGo_map y hy hz
theorem bounds {n B i : Int} (h0 : 0 ≤ i) (hi : i < n) (hn : n ≤ 12) : i * n + n ≤ 144 := by
  have : i ≤ 11 := by omega
  have := Int.mul_le_mul this hn (by omega) (by omega)
  omega
theorem asgO_of {i : Nat} {mo : MO} {env e : En} {o : O} (h : mo env = some (o, e)) : mAsgO i mo env = some (.nx, e.set i (some o)) := by unfold mAsgO bnd; simp only [h]
theorem asg_of {i : Nat} {me : ME} {env e e2 : En} {p : P} {d : PyData} (h : me env = some (p, e)) (h2 : fzP e p = some (d, e2)) : mAsg me (mgN i) env = some (.nx, e2.set i (some (.fz d))) := by unfold mAsg bnd mgN; simp only [h, h2]
theorem lO_of {m : ML} {env e : En} {ds : List PyData} (h : m env = some (ds, e)) : mLO m env = some (.ow ds, e) := by unfold mLO bnd; simp only [h]
theorem lE_of {m : ML} {env e : En} {ds : List PyData} (h : m env = some (ds, e)) : mLE m env = some (.val (.list ds), e) := by unfold mLE bnd; simp only [h]
theorem rep_of {ma mb : ME} {env e e2 : En} {p : P} {xs : List PyData} {n : Nat} (h : ma env = some (p, e)) (h2 : mb e = some (.val (.int n), e2)) (h3 : sq e2 p = some xs) (hn : n < 1000000) (hz : xs.length * n ≤ sizeLine) : mBinL gRep ma mb env = some ((List.replicate n xs).flatten, e2) := by
  unfold mBinL bnd gRep
  simp only [h, h2, h3]
  rw [if_pos ⟨by omega, by omega, by rw [Int.toNat_natCast]; exact hz⟩, Int.toNat_natCast]
  rfl
theorem run_answers {B a b : Int} {ds : List PyData} {n : Nat} (hd : DrOk B ds) (hB : B + 200 < 1000000000) (hb : 0 < b) (hn : n ≤ 12) :
    ∃ r os', m__law_answers [.ow ds, .fz (.int n), .fz (.list [.int a, .int b])] = some (r, os') ∧ ∃ ds' f, r = .ow (rows n f) ∧ os' = [.ow ds', .fz (.int n), .fz (.list [.int a, .int b])] ∧ DrOk (B + 144) ds' ∧ Skew n f ∧ (a ≤ 0 → ∀ x y, x < n → y < n → x ≠ y → f x y ≠ 0) := by
  refine mDef_rt rfl ?_
  have hz : 1000 ≤ sizeLine := by decide
  refine Ends.step (e := [some (.ow ds), some (.fz (.int n)), some (.fz (.list [.int a, .int b])), some (.ow (rows n fun _ _ => 0)), none, none, none, none, none]) ?_ ?_
  · have e := lcO (i := 6) (env := [some (.ow ds), some (.fz (.int n)), some (.fz (.list [.int a, .int b])), none, none, none, none, none, none]) (e := [some (.ow ds), some (.fz (.int n)), some (.fz (.list [.int a, .int b])), none, none, none, none, none, none]) (me := (mLE (mBinL gRep (mLE (mDs (mCons (mC (.int 0)) mNil))) (mVar 1)))) (mi := mRng1 (mCons (mVar 1) mNil)) (ds := rgD 0 n) (fun _ => rowD n fun _ => 0) (rng1_nat rfl (by omega)) rfl (fun d hd => ?_) (by rw [rgD_len]; omega)
    · refine (asgO_of (lO_of e)).trans ?_
      rw [show (rgD 0 n).map (fun _ => rowD n fun _ => 0) = rows n fun _ _ => 0 from by unfold rgD rows; rw [List.map_map]; rfl]
      rfl
    · refine ⟨.val (rowD n fun _ => 0), [some (.ow ds), some (.fz (.int n)), some (.fz (.list [.int a, .int b])), none, none, none, some (.fz d), none, none], ?_, _, rfl, rfl⟩
      refine (lE_of (rep_of (n := n) (xs := [.int 0]) rfl rfl rfl (by omega) (by simp only [List.length_singleton]; omega))).trans ?_
      rw [rep_zero]
      rfl
  refine Ends.seq (P := fun e => ∃ ds' f x4 x5 x7 x8, e = [some (.ow ds'), some (.fz (.int n)), some (.fz (.list [.int a, .int b])), some (.ow (rows n f)), x4, x5, none, x7, x8] ∧ DrOk (B + 144) ds' ∧ Skew n f ∧ (a ≤ 0 → ∀ x y, x < n → y < n → x ≠ y → f x y ≠ 0)) ?_ ?_
  · refine Ends.loop (ds := rgD 0 n) (fun i e => ∃ ds' f x4 x5 x7 x8, e = [some (.ow ds'), some (.fz (.int n)), some (.fz (.list [.int a, .int b])), some (.ow (rows n f)), x4, x5, none, x7, x8] ∧ DrOk (B + i * n) ds' ∧ Skew n f ∧ (a ≤ 0 → ∀ x y, y < x → x < i → f x y ≠ 0)) (rng1_nat rfl (by omega)) ⟨ds, _, _, _, _, _, rfl, by simpa using hd, ⟨fun _ _ => .inr (.inl rfl), fun _ _ => rfl⟩, fun _ x y _ h => absurd h (by omega)⟩ ?_ ?_
    · rintro i d hi e ⟨ds1, f, x4, x5, x7, x8, rfl, hd1, hf, hz1⟩
      obtain ⟨hi', rfl⟩ := rg_at hi
      refine ⟨_, rfl, ?_⟩
      have bi := bounds (B := B) (n := n) (i := i) (by omega) (by omega) (by omega)
      refine Ends.loop (ds := rgD 0 i) (fun j e => ∃ ds' f x5 x7 x8, e = [some (.ow ds'), some (.fz (.int n)), some (.fz (.list [.int a, .int b])), some (.ow (rows n f)), some (.fz (.int i)), x5, none, x7, x8] ∧ DrOk (B + i * n + j) ds' ∧ Skew n f ∧ (a ≤ 0 → ∀ x y, y < x → (x < i ∨ x = i ∧ y < j) → f x y ≠ 0)) (rng1_nat rfl (by omega)) ⟨ds1, f, _, _, _, rfl, by simpa using hd1, hf, fun z x y h1 h2 => hz1 z x y h1 (by omega)⟩ ?_ ?_
      · rintro j d hj e ⟨ds2, f2, y5, y7, y8, rfl, hd2, hf2, hz2⟩
        obtain ⟨hj', rfl⟩ := rg_at hj
        refine ⟨_, rfl, ?_⟩
        obtain ⟨ds3, v, z7, z8, hd3, hv, hv0, e3⟩ := step_answers (a := a) (b := b) (x7 := y7) (x8 := y8) hd2 (by omega) hb hi' hj' hn hf2
        refine Ends.of e3 ⟨rfl, ds3, _, _, _, _, rfl, by rw [Int.natCast_add, ← Int.add_assoc]; exact hd3, hf2.upd hv (by omega), fun z x y h1 h2 => ?_⟩
        have q0 := hv0 z
        unfold updF
        by_cases c1 : x = i ∧ y = j
        · rw [if_neg (by omega), if_pos c1]
          exact q0
        · rw [if_neg (by omega), if_neg c1]
          exact hz2 z x y h1 (by omega)
      · rintro e ⟨ds2, f2, y5, y7, y8, rfl, hd2, hf2, hz2⟩
        refine ⟨rfl, ds2, f2, _, _, _, _, rfl, hd2.mono ?_, hf2, fun z x y h1 h2 => hz2 z x y h1 (by rw [rgD_len]; omega)⟩
        rw [rgD_len, Int.natCast_add, Int.add_mul]
        omega
    · rintro e ⟨ds2, f2, y4, y5, y7, y8, rfl, hd2, hf2, hz2⟩
      refine ⟨rfl, ds2, f2, _, _, _, _, rfl, hd2.mono ?_, hf2, fun z x y h1 h2 h3 => ?_⟩
      rotate_left
      · rw [rgD_len] at hz2
        by_cases c1 : y < x
        · exact hz2 z x y c1 h1
        · have := hz2 z y x (by omega) h2
          have := hf2.2 x y
          omega
      rw [rgD_len]
      have := Int.mul_le_mul (show (n : Int) ≤ 12 by omega) (show (n : Int) ≤ 12 by omega) (by omega) (by omega)
      omega
  · rintro e ⟨ds2, f2, y4, y5, y7, y8, rfl, hd2, hf2, hz2⟩
    exact Ends.of rfl ⟨_, _, rfl, rfl, ds2, f2, rfl, rfl, hd2, hf2, hz2⟩
theorem callIo0 {mf : MF} {ma : MA} {env e e2 : En} {i : Nat} {ps : List P} {os os' : List O} {o o' r : O} (h : ma env = some (.var i :: ps, e)) (h1 : prepA none ps e = some (os, e2)) (h2 : e2[i]? = some (some o)) (h3 : mf (o :: os) = some (r, o' :: os')) : mCallIo 0 mf ma env = some (r, e2.set i (some o')) := by
  unfold mCallIo bnd
  simp only [h, List.getElem?_cons_zero, prepA, oneA, h1, h2, List.set_cons_zero, h3]
theorem rows_congr {n : Nat} {f g : Nat → Nat → Int} (h : ∀ x y, x < n → y < n → f x y = g x y) : rows n f = rows n g := by
  unfold rows rowD
  refine List.map_congr_left fun x hx => ?_
  congr 1
  refine List.map_congr_left fun y hy => ?_
  rw [h x y (List.mem_range.mp hx) (List.mem_range.mp hy)]
def lineF (c : Int) (i j : Nat) (f : Nat → Nat → Int) : Nat → Nat → Int := fun x y => if (x < i ∨ (x = i ∧ y < j)) ∧ (x : Int).fdiv c ≠ (y : Int).fdiv c then (if x < y then -1 else 1) else f x y
theorem setI_with {n i j k : Nat} {env : En} {mi me : ME} {g : Nat → Nat → Int} {v : Int} (hk : env[k]? = some (some (.ow (rows n g)))) (hi : i < n) (h1 : mi env = some (.val (.int i), env)) (h2 : me env = some (.val (rowD n fun y => if y = j then v else g i y), env)) : mSetI k mi me env = some (.nx, env.set k (some (.ow (rows n (updF g i j v))))) := by
  unfold mSetI bnd
  simp only [h2, fzP, hk, h1, rows_len, ix_nat hi, rows_upd]
theorem call_with {n i j : Nat} {env : En} {ma : MA} {g : Nat → Nat → Int} {v : Int} (h : ma env = some ([.val (rowD n (g i)), .val (.int j), .val (.int v)], env)) (hj : j < n) (hn : n ≤ 12) : mFz (mCall m__law_with ma) env = some (.val (rowD n fun y => if y = j then v else g i y), env) := by
  have h2 := with_row (i := i) (j := j) g v hj (show n ≤ 1000 by omega)
  unfold mFz mCall bnd
  simp only [h, prepA, oneA, fzP, h2, O.dat]
theorem cons_of {me : ME} {ma : MA} {env e e2 : En} {p : P} {ps : List P} (h : me env = some (p, e)) (h2 : ma e = some (ps, e2)) : mCons me ma env = some (p :: ps, e2) := by
  unfold mCons bnd
  simp only [h, h2]
theorem ix_row {n i k : Nat} {env : En} {mi : ME} {g : Nat → Nat → Int} (hk : env[k]? = some (some (.ow (rows n g)))) (hi : i < n) (h1 : mi env = some (.val (.int i), env)) : mBin gIx (mVar k) mi env = some (.val (rowD n (g i)), env) := by
  unfold mBin mVar bnd
  simp only [hk, h1, gIx, sqT, sq, Option.bind_some, rows_at hi, Option.map_some]
theorem if_of {ms1 ms2 : MS} {mt : MT} {env e : En} {b : Bool} {Q : Ctl → En → Prop} (h : mt env = some (b, e)) (k : Ends (if b then ms1 else ms2) e Q) : Ends (mIf mt ms1 ms2) env Q := by
  obtain ⟨c, e', h1, h2⟩ := k
  refine ⟨c, e', ?_, h2⟩
  unfold mIf bnd
  simp only [h]
  cases b with
  | true => exact h1
  | false => exact h1
theorem step_lined {n i j : Nat} {c : Int} {ds : List PyData} {f : Nat → Nat → Int} (hi : i < n) (hj : j < n) (hn : n ≤ 12) (hc : 0 < c) (hc2 : c < 10) :
    Ends (mIf (mT (mBin (gEq true) (mBin gFdiv (mVar 4) (mVar 3)) (mBin gFdiv (mVar 5) (mVar 3)))) (mSetI 2 (mVar 4) (mFz (mCall m__law_with (mCons (mBin gIx (mVar 2) (mVar 4)) (mCons (mVar 5) (mCons (mBin (gI0 fun i j => .int (i - j)) (mC (.int 1)) (mBin gMul (mC (.int 2)) (mFn gInt (mCons (mBin (gI0 fun i j => .bool (decide (i < j))) (mVar 4) (mVar 5)) mNil)))) mNil)))))) mNext)
      [some (.ow ds), some (.fz (.int n)), some (.ow (rows n (lineF c i j f))), some (.fz (.int c)), some (.fz (.int i)), some (.fz (.int j))]
      fun k e => k = .nx ∧ e = [some (.ow ds), some (.fz (.int n)), some (.ow (rows n (lineF c i (j + 1) f))), some (.fz (.int c)), some (.fz (.int i)), some (.fz (.int j))] := by
  have p1 : decide (c ≠ 0 ∧ c.natAbs < 1073741824) = true := decide_eq_true (by omega)
  refine if_of (b := decide ((i : Int).fdiv c ≠ (j : Int).fdiv c)) (e := [some (.ow ds), some (.fz (.int n)), some (.ow (rows n (lineF c i j f))), some (.fz (.int c)), some (.fz (.int i)), some (.fz (.int j))]) ?_ ?_
  · (try simp only [mDef, mDef.fin, mSeq, mIf, mOr, mAnd, mNot, mT, mAsg, mAsgO, mRet, mRetO, mRetV, mRetN, mDrop, mNext, mVar, mC, mBin, mUn, mFn, mNil, mCons, mLE, mLO, mDs, mTup, mBinL, mSl, mNoPart, mPart, gPart, mAndV, mOrV, mNotV, mIsi, mFz, mCall, mCallIo, prepA, oneA, bnd, fzP, fzPs, O.dat, vw, sq, sqT, gI, gI0, gMul, gFdiv, gMod, gPow, gEq, gIx, gLen, gInt, gB, gCat, gRep, gNeg, gIn, mgN, mgT, mgTs, mChain, mRg1, mRgv, mItL, mItT, mEnum, mSetI, mApp, mPopAt, mAug, mFor, mLc, mForM, mRng1, mRng2, List.map_cons, List.map_nil, List.length_cons, List.length_nil, List.cons_append, List.nil_append, List.getElem?_cons_zero, List.getElem?_cons_succ, List.set_cons_zero, List.set_cons_succ, Option.map_some, Option.bind_some, Option.map_none, Option.bind_none, if_true, if_false, ite_true, ite_false, List.replicate, Nat.reduceAdd, Nat.reduceSub, Nat.reduceEqDiff, reduceIte, decide_true, decide_false, Bool.not_true, Bool.not_false, Bool.true_and, Bool.and_true, Bool.false_and, Bool.and_false, Bool.false_eq_true, at30, at31, at32, at20, at21, ix30, ix31])
    simp only [p1, if_true]
    (try simp only [mDef, mDef.fin, mSeq, mIf, mOr, mAnd, mNot, mT, mAsg, mAsgO, mRet, mRetO, mRetV, mRetN, mDrop, mNext, mVar, mC, mBin, mUn, mFn, mNil, mCons, mLE, mLO, mDs, mTup, mBinL, mSl, mNoPart, mPart, gPart, mAndV, mOrV, mNotV, mIsi, mFz, mCall, mCallIo, prepA, oneA, bnd, fzP, fzPs, O.dat, vw, sq, sqT, gI, gI0, gMul, gFdiv, gMod, gPow, gEq, gIx, gLen, gInt, gB, gCat, gRep, gNeg, gIn, mgN, mgT, mgTs, mChain, mRg1, mRgv, mItL, mItT, mEnum, mSetI, mApp, mPopAt, mAug, mFor, mLc, mForM, mRng1, mRng2, List.map_cons, List.map_nil, List.length_cons, List.length_nil, List.cons_append, List.nil_append, List.getElem?_cons_zero, List.getElem?_cons_succ, List.set_cons_zero, List.set_cons_succ, Option.map_some, Option.bind_some, Option.map_none, Option.bind_none, if_true, if_false, ite_true, ite_false, List.replicate, Nat.reduceAdd, Nat.reduceSub, Nat.reduceEqDiff, reduceIte, decide_true, decide_false, Bool.not_true, Bool.not_false, Bool.true_and, Bool.and_true, Bool.false_and, Bool.and_false, Bool.false_eq_true, at30, at31, at32, at20, at21, ix30, ix31])
    simp only [p1, if_true]
    (try simp only [mDef, mDef.fin, mSeq, mIf, mOr, mAnd, mNot, mT, mAsg, mAsgO, mRet, mRetO, mRetV, mRetN, mDrop, mNext, mVar, mC, mBin, mUn, mFn, mNil, mCons, mLE, mLO, mDs, mTup, mBinL, mSl, mNoPart, mPart, gPart, mAndV, mOrV, mNotV, mIsi, mFz, mCall, mCallIo, prepA, oneA, bnd, fzP, fzPs, O.dat, vw, sq, sqT, gI, gI0, gMul, gFdiv, gMod, gPow, gEq, gIx, gLen, gInt, gB, gCat, gRep, gNeg, gIn, mgN, mgT, mgTs, mChain, mRg1, mRgv, mItL, mItT, mEnum, mSetI, mApp, mPopAt, mAug, mFor, mLc, mForM, mRng1, mRng2, List.map_cons, List.map_nil, List.length_cons, List.length_nil, List.cons_append, List.nil_append, List.getElem?_cons_zero, List.getElem?_cons_succ, List.set_cons_zero, List.set_cons_succ, Option.map_some, Option.bind_some, Option.map_none, Option.bind_none, if_true, if_false, ite_true, ite_false, List.replicate, Nat.reduceAdd, Nat.reduceSub, Nat.reduceEqDiff, reduceIte, decide_true, decide_false, Bool.not_true, Bool.not_false, Bool.true_and, Bool.and_true, Bool.false_and, Bool.and_false, Bool.false_eq_true, at30, at31, at32, at20, at21, ix30, ix31])
    simp only [sh_int, eqv_int, Bool.and_self, if_true]
    (try simp only [mDef, mDef.fin, mSeq, mIf, mOr, mAnd, mNot, mT, mAsg, mAsgO, mRet, mRetO, mRetV, mRetN, mDrop, mNext, mVar, mC, mBin, mUn, mFn, mNil, mCons, mLE, mLO, mDs, mTup, mBinL, mSl, mNoPart, mPart, gPart, mAndV, mOrV, mNotV, mIsi, mFz, mCall, mCallIo, prepA, oneA, bnd, fzP, fzPs, O.dat, vw, sq, sqT, gI, gI0, gMul, gFdiv, gMod, gPow, gEq, gIx, gLen, gInt, gB, gCat, gRep, gNeg, gIn, mgN, mgT, mgTs, mChain, mRg1, mRgv, mItL, mItT, mEnum, mSetI, mApp, mPopAt, mAug, mFor, mLc, mForM, mRng1, mRng2, List.map_cons, List.map_nil, List.length_cons, List.length_nil, List.cons_append, List.nil_append, List.getElem?_cons_zero, List.getElem?_cons_succ, List.set_cons_zero, List.set_cons_succ, Option.map_some, Option.bind_some, Option.map_none, Option.bind_none, if_true, if_false, ite_true, ite_false, List.replicate, Nat.reduceAdd, Nat.reduceSub, Nat.reduceEqDiff, reduceIte, decide_true, decide_false, Bool.not_true, Bool.not_false, Bool.true_and, Bool.and_true, Bool.false_and, Bool.and_false, Bool.false_eq_true, at30, at31, at32, at20, at21, ix30, ix31])
    by_cases h : (i : Int).fdiv c = (j : Int).fdiv c
    · simp [h]
    · simp [h]
  by_cases h : (i : Int).fdiv c = (j : Int).fdiv c
  · rw [if_neg (by simp [h])]
    refine Ends.of rfl ⟨rfl, ?_⟩
    rw [rows_congr (g := lineF c i (j + 1) f)]
    intro x y _ _
    unfold lineF
    grind
  · rw [if_pos (by simp [h])]
    obtain ⟨v, hv, e⟩ : ∃ v : Int, v = (if i < j then -1 else 1) ∧ (mBin (gI0 fun i j => .int (i - j)) (mC (.int 1)) (mBin gMul (mC (.int 2)) (mFn gInt (mCons (mBin (gI0 fun i j => .bool (decide (i < j))) (mVar 4) (mVar 5)) mNil)))) [some (.ow ds), some (.fz (.int n)), some (.ow (rows n (lineF c i j f))), some (.fz (.int c)), some (.fz (.int i)), some (.fz (.int j))] = some (.val (.int v), [some (.ow ds), some (.fz (.int n)), some (.ow (rows n (lineF c i j f))), some (.fz (.int c)), some (.fz (.int i)), some (.fz (.int j))]) := by
      by_cases hl : i < j
      · have q : decide ((i : Int) < (j : Int)) = true := decide_eq_true (by omega)
        have p2 : decide ((2 : Int).natAbs.log2 + (1 : Int).natAbs.log2 < 1000000) = true := by decide
        refine ⟨-1, by rw [if_pos hl], ?_⟩
        (try simp only [mDef, mDef.fin, mSeq, mIf, mOr, mAnd, mNot, mT, mAsg, mAsgO, mRet, mRetO, mRetV, mRetN, mDrop, mNext, mVar, mC, mBin, mUn, mFn, mNil, mCons, mLE, mLO, mDs, mTup, mBinL, mSl, mNoPart, mPart, gPart, mAndV, mOrV, mNotV, mIsi, mFz, mCall, mCallIo, prepA, oneA, bnd, fzP, fzPs, O.dat, vw, sq, sqT, gI, gI0, gMul, gFdiv, gMod, gPow, gEq, gIx, gLen, gInt, gB, gCat, gRep, gNeg, gIn, mgN, mgT, mgTs, mChain, mRg1, mRgv, mItL, mItT, mEnum, mSetI, mApp, mPopAt, mAug, mFor, mLc, mForM, mRng1, mRng2, List.map_cons, List.map_nil, List.length_cons, List.length_nil, List.cons_append, List.nil_append, List.getElem?_cons_zero, List.getElem?_cons_succ, List.set_cons_zero, List.set_cons_succ, Option.map_some, Option.bind_some, Option.map_none, Option.bind_none, if_true, if_false, ite_true, ite_false, List.replicate, Nat.reduceAdd, Nat.reduceSub, Nat.reduceEqDiff, reduceIte, decide_true, decide_false, Bool.not_true, Bool.not_false, Bool.true_and, Bool.and_true, Bool.false_and, Bool.and_false, Bool.false_eq_true, at30, at31, at32, at20, at21, ix30, ix31])
        simp only [q, if_true]
        (try simp only [mDef, mDef.fin, mSeq, mIf, mOr, mAnd, mNot, mT, mAsg, mAsgO, mRet, mRetO, mRetV, mRetN, mDrop, mNext, mVar, mC, mBin, mUn, mFn, mNil, mCons, mLE, mLO, mDs, mTup, mBinL, mSl, mNoPart, mPart, gPart, mAndV, mOrV, mNotV, mIsi, mFz, mCall, mCallIo, prepA, oneA, bnd, fzP, fzPs, O.dat, vw, sq, sqT, gI, gI0, gMul, gFdiv, gMod, gPow, gEq, gIx, gLen, gInt, gB, gCat, gRep, gNeg, gIn, mgN, mgT, mgTs, mChain, mRg1, mRgv, mItL, mItT, mEnum, mSetI, mApp, mPopAt, mAug, mFor, mLc, mForM, mRng1, mRng2, List.map_cons, List.map_nil, List.length_cons, List.length_nil, List.cons_append, List.nil_append, List.getElem?_cons_zero, List.getElem?_cons_succ, List.set_cons_zero, List.set_cons_succ, Option.map_some, Option.bind_some, Option.map_none, Option.bind_none, if_true, if_false, ite_true, ite_false, List.replicate, Nat.reduceAdd, Nat.reduceSub, Nat.reduceEqDiff, reduceIte, decide_true, decide_false, Bool.not_true, Bool.not_false, Bool.true_and, Bool.and_true, Bool.false_and, Bool.and_false, Bool.false_eq_true, at30, at31, at32, at20, at21, ix30, ix31])
        simp only [p2, if_true]
        rfl
      · have q : decide ((i : Int) < (j : Int)) = false := decide_eq_false (by omega)
        have p2 : decide ((2 : Int).natAbs.log2 + (0 : Int).natAbs.log2 < 1000000) = true := by decide
        refine ⟨1, by rw [if_neg hl], ?_⟩
        (try simp only [mDef, mDef.fin, mSeq, mIf, mOr, mAnd, mNot, mT, mAsg, mAsgO, mRet, mRetO, mRetV, mRetN, mDrop, mNext, mVar, mC, mBin, mUn, mFn, mNil, mCons, mLE, mLO, mDs, mTup, mBinL, mSl, mNoPart, mPart, gPart, mAndV, mOrV, mNotV, mIsi, mFz, mCall, mCallIo, prepA, oneA, bnd, fzP, fzPs, O.dat, vw, sq, sqT, gI, gI0, gMul, gFdiv, gMod, gPow, gEq, gIx, gLen, gInt, gB, gCat, gRep, gNeg, gIn, mgN, mgT, mgTs, mChain, mRg1, mRgv, mItL, mItT, mEnum, mSetI, mApp, mPopAt, mAug, mFor, mLc, mForM, mRng1, mRng2, List.map_cons, List.map_nil, List.length_cons, List.length_nil, List.cons_append, List.nil_append, List.getElem?_cons_zero, List.getElem?_cons_succ, List.set_cons_zero, List.set_cons_succ, Option.map_some, Option.bind_some, Option.map_none, Option.bind_none, if_true, if_false, ite_true, ite_false, List.replicate, Nat.reduceAdd, Nat.reduceSub, Nat.reduceEqDiff, reduceIte, decide_true, decide_false, Bool.not_true, Bool.not_false, Bool.true_and, Bool.and_true, Bool.false_and, Bool.and_false, Bool.false_eq_true, at30, at31, at32, at20, at21, ix30, ix31])
        simp only [q, Bool.false_eq_true, if_false]
        (try simp only [mDef, mDef.fin, mSeq, mIf, mOr, mAnd, mNot, mT, mAsg, mAsgO, mRet, mRetO, mRetV, mRetN, mDrop, mNext, mVar, mC, mBin, mUn, mFn, mNil, mCons, mLE, mLO, mDs, mTup, mBinL, mSl, mNoPart, mPart, gPart, mAndV, mOrV, mNotV, mIsi, mFz, mCall, mCallIo, prepA, oneA, bnd, fzP, fzPs, O.dat, vw, sq, sqT, gI, gI0, gMul, gFdiv, gMod, gPow, gEq, gIx, gLen, gInt, gB, gCat, gRep, gNeg, gIn, mgN, mgT, mgTs, mChain, mRg1, mRgv, mItL, mItT, mEnum, mSetI, mApp, mPopAt, mAug, mFor, mLc, mForM, mRng1, mRng2, List.map_cons, List.map_nil, List.length_cons, List.length_nil, List.cons_append, List.nil_append, List.getElem?_cons_zero, List.getElem?_cons_succ, List.set_cons_zero, List.set_cons_succ, Option.map_some, Option.bind_some, Option.map_none, Option.bind_none, if_true, if_false, ite_true, ite_false, List.replicate, Nat.reduceAdd, Nat.reduceSub, Nat.reduceEqDiff, reduceIte, decide_true, decide_false, Bool.not_true, Bool.not_false, Bool.true_and, Bool.and_true, Bool.false_and, Bool.and_false, Bool.false_eq_true, at30, at31, at32, at20, at21, ix30, ix31])
        simp only [p2, if_true]
        rfl
    refine Ends.of (setI_with (n := n) (i := i) (j := j) (v := v) (g := lineF c i j f) rfl hi rfl (call_with (g := lineF c i j f) (cons_of (ix_row rfl hi rfl) (cons_of rfl (cons_of e rfl))) hj hn)) ⟨rfl, ?_⟩
    rw [rows_congr (f := updF (lineF c i j f) i j v) (g := lineF c i (j + 1) f)]
    · rfl
    intro x y _ _
    unfold updF lineF
    grind
theorem fz_of {mo : MO} {env e : En} {o : O} {d : PyData} (h : mo env = some (o, e)) (hd : o.dat = some d) : mFz mo env = some (.val d, e) := by unfold mFz bnd; simp only [h, hd]
theorem next_mod {B : Int} {ds : List PyData} {env : En} {m : Int} (hd : DrOk B ds) (hB : B < 1000000000) (hm : 0 < m) (h0 : env[0]? = some (some (.ow ds))) :
    ∃ (r : Int) (ds' : List PyData), 0 ≤ r ∧ r < m ∧ DrOk (B + 1) ds' ∧ ∀ mi : ME, mi (env.set 0 (some (.ow ds'))) = some (.val (.int m), env.set 0 (some (.ow ds'))) →
      mBin gMod (mFn gInt (mCons (mFz (mCallIo 0 m__law_next (mCons (mVar 0) mNil))) mNil)) mi env = some (.val (.int r), env.set 0 (some (.ow ds'))) := by
  obtain ⟨r, ds', r0, hd', e⟩ := draw_next hd hB
  obtain ⟨a0, a1⟩ := fmod_lt (i := r) (j := m) hm
  refine ⟨r.fmod m, ds', a0, a1, hd', fun mi hi => ?_⟩
  have e2 : mCallIo 0 m__law_next (mCons (mVar 0) mNil) env = some (.fz (.int r), env.set 0 (some (.ow ds'))) := callIo0 (ps := []) (os := []) (cons_of (by unfold mVar; simp only [h0]) rfl) rfl h0 e
  have p : decide (m ≠ 0) = true := decide_eq_true (by omega)
  unfold mBin mFn bnd
  rw [cons_of (fz_of e2 (d := .int r) rfl) (ps := []) (e2 := env.set 0 (some (.ow ds'))) rfl]
  simp only [gInt, Option.map_some, hi, gMod, gI, p, if_true]
theorem skew_line {n : Nat} {c : Int} {f : Nat → Nat → Int} (h : Skew n f) : Skew n fun x y => if (x : Int).fdiv c ≠ (y : Int).fdiv c then (if x < y then -1 else 1) else f x y := by
  refine ⟨fun x y => ?_, fun x y => ?_⟩
  · have := h.1 x y
    grind
  · have := h.2 x y
    grind
theorem run_lined {B : Int} {ds : List PyData} {n : Nat} (hd : DrOk B ds) (hB : B + 1000 < 1000000000) (hn : n ≤ 12) :
    ∃ r os', m__law_lined [.ow ds, .fz (.int n)] = some (r, os') ∧ ∃ ds' f, r = .fz (.list (rows n f)) ∧ os' = [.ow ds', .fz (.int n)] ∧ DrOk (B + 145) ds' ∧ Skew n f := by
  refine mDef_rt rfl ?_
  obtain ⟨_, _, ea, ds1, f, rfl, rfl, hd1, hf, _⟩ := run_answers (a := 1) (b := 3) hd (by omega) (by decide) hn
  refine Ends.step (e := [some (.ow ds1), some (.fz (.int n)), some (.ow (rows n f)), none, none, none]) ?_ ?_
  · exact (asgO_of (callIo0 (env := [some (.ow ds), some (.fz (.int n)), none, none, none, none]) (ps := [.val (.int n), .val (.list [.int 1, .int 3])]) (os := [.fz (.int n), .fz (.list [.int 1, .int 3])]) rfl rfl rfl ea)).trans rfl
  obtain ⟨r, ds2, r0, r1, hd2, en⟩ := next_mod (m := 3) (env := [some (.ow ds1), some (.fz (.int n)), some (.ow (rows n f)), none, none, none]) hd1 (by omega) (by decide) rfl
  refine Ends.step (e := [some (.ow ds2), some (.fz (.int n)), some (.ow (rows n f)), some (.fz (.int (1 + r))), none, none]) ?_ ?_
  · refine (asg_of (p := .val (.int (1 + r))) (e := [some (.ow ds2), some (.fz (.int n)), some (.ow (rows n f)), none, none, none]) ?_ rfl).trans rfl
    have e2 := en (mC (.int 3)) rfl
    rw [List.set_cons_zero] at e2
    generalize mBin gMod (mFn gInt (mCons (mFz (mCallIo 0 m__law_next (mCons (mVar 0) mNil))) mNil)) (mC (.int 3)) = X at e2
    unfold mBin bnd mC
    simp only [e2, gI0, Option.map_some]
  refine Ends.seq (P := fun e => ∃ x4 x5, e = [some (.ow ds2), some (.fz (.int n)), some (.ow (rows n fun x y => if (x : Int).fdiv (1 + r) ≠ (y : Int).fdiv (1 + r) then (if x < y then -1 else 1) else f x y)), some (.fz (.int (1 + r))), x4, x5]) ?_ ?_
  · refine Ends.loop (ds := rgD 0 n) (fun i e => ∃ x4 x5, e = [some (.ow ds2), some (.fz (.int n)), some (.ow (rows n (lineF (1 + r) i 0 f))), some (.fz (.int (1 + r))), x4, x5]) (rng1_nat rfl (by omega)) ⟨none, none, by rw [rows_congr (f := lineF (1 + r) 0 0 f) (g := f)]; intro x y _ _; unfold lineF; grind⟩ ?_ ?_
    · rintro i d hi e ⟨x4, x5, rfl⟩
      obtain ⟨hi', rfl⟩ := rg_at hi
      refine ⟨_, rfl, ?_⟩
      refine Ends.loop (ds := rgD 0 n) (fun j e => ∃ x5, e = [some (.ow ds2), some (.fz (.int n)), some (.ow (rows n (lineF (1 + r) i j f))), some (.fz (.int (1 + r))), some (.fz (.int i)), x5]) (rng1_nat rfl (by omega)) ⟨_, rfl⟩ ?_ ?_
      · rintro j d hj e ⟨y5, rfl⟩
        obtain ⟨hj', rfl⟩ := rg_at hj
        refine ⟨_, rfl, ?_⟩
        obtain ⟨k, e', e1, rfl, rfl⟩ := step_lined (ds := ds2) (c := 1 + r) (f := f) hi' hj' hn (by omega) (by omega)
        exact ⟨.nx, _, e1, rfl, _, rfl⟩
      · rintro e ⟨y5, rfl⟩
        refine ⟨rfl, some (.fz (.int i)), y5, ?_⟩
        rw [rgD_len, rows_congr (f := lineF (1 + r) i n f) (g := lineF (1 + r) (i + 1) 0 f)]
        intro x y _ _
        unfold lineF
        grind
    · rintro e ⟨y4, y5, rfl⟩
      refine ⟨rfl, y4, y5, ?_⟩
      rw [rgD_len, rows_congr (f := lineF (1 + r) n 0 f) (g := fun x y => if (x : Int).fdiv (1 + r) ≠ (y : Int).fdiv (1 + r) then (if x < y then -1 else 1) else f x y)]
      intro x y _ _
      unfold lineF
      grind
  · rintro e ⟨y4, y5, rfl⟩
    exact Ends.of rfl ⟨_, _, rfl, rfl, ds2, _, rfl, rfl, hd2.mono (by omega), skew_line hf⟩
def closeF (s : Nat → Int) (t : Int) : Nat → Nat → Int := fun x y => (if s y + t < s x then 1 else 0) - (if s x + t < s y then 1 else 0)
theorem skew_close {n : Nat} {s : Nat → Int} {t : Int} : Skew n (closeF s t) := by
  refine ⟨fun x y => ?_, fun x y => ?_⟩
  · unfold closeF
    grind
  · unfold closeF
    grind
theorem rowD_map {n : Nat} {s : Nat → Int} (y : PyData → PyData) (g : Nat → Int) (h : ∀ k, k < n → y (.int (s k)) = .int (g k)) : PyData.list (((List.range n).map fun k => PyData.int (s k)).map y) = rowD n g := by
  unfold rowD
  rw [List.map_map]
  congr 1
  refine List.map_congr_left fun k hk => ?_
  exact h k (List.mem_range.mp hk)
theorem app_of {j : Nat} {ma : MA} {env e1 e2 : En} {p : P} {d : PyData} {ds0 ds : List PyData} (h0 : env[j]? = some (some (.ow ds0))) (h1 : ma env = some ([p], e1)) (h2 : fzP e1 p = some (d, e2)) (h3 : e2[j]? = some (some (.ow ds))) (hz : ds.length < sizeLine) : mApp j ma env = some (.nx, e2.set j (some (.ow (ds ++ [d])))) := by
  unfold mApp
  simp only [h0, h1, h2, h3]
  rw [if_pos hz]
theorem nat_ge {i : Int} (h : 0 ≤ i) : ∃ n : Nat, i = n := ⟨i.toNat, by omega⟩
theorem lcV {mi : ML} {me : ME} {i : Nat} {env e : En} {ds : List PyData} (y : PyData → PyData) (h : mi env = some (ds, e)) (hw : e.set i none = e) (hy : ∀ d ∈ ds, me (e.set i (some (.fz d))) = some (.val (y d), e.set i (some (.fz d)))) (hz : ds.length ≤ sizeLine) :
    mLc mi (mgN i) mYes me [i] env = some (ds.map y, e) :=
  lcO y h hw (fun d hd => ⟨_, _, hy d hd, _, rfl, by unfold wipeE wipeE; rw [List.set_set]; exact hw⟩) hz
def closeD (s : Nat → Int) (t : Int) (x : Nat) : PyData → PyData := fun d => match d with | .int o => .int ((if o + t < s x then 1 else 0) - (if s x + t < o then 1 else 0)) | _ => .none
theorem run_close {n : Nat} (s : Nat → Int) (t : Int) (hn : n ≤ 12) : ∃ r os', m__law_close [.fz (rowD n s), .fz (.int t)] = some (r, os') ∧ r = .fz (.list (rows n (closeF s t))) := by
  refine mDef_rt rfl ?_
  have hz : 1000 ≤ sizeLine := by decide
  have hl : ((List.range n).map fun k => PyData.int (s k)).length = n := by rw [List.length_map, List.length_range]
  refine Ends.step (e := [some (.fz (rowD n s)), some (.fz (.int t)), some (.ow []), none, none]) rfl ?_
  refine Ends.seq (P := fun e => ∃ x3, e = [some (.fz (rowD n s)), some (.fz (.int t)), some (.ow (rows n (closeF s t))), x3, none]) ?_ ?_
  · refine Ends.loop (ds := (List.range n).map fun k => PyData.int (s k)) (fun i e => ∃ x3, e = [some (.fz (rowD n s)), some (.fz (.int t)), some (.ow ((rows n (closeF s t)).take i)), x3, none]) rfl ⟨none, rfl⟩ ?_ ?_
    · rintro i d hi e ⟨x3, rfl⟩
      have hi' : i < n := by
        have := List.getElem?_eq_some_iff.mp hi
        obtain ⟨a, _⟩ := this
        rw [hl] at a
        exact a
      rw [range_get hi'] at hi
      cases hi
      refine ⟨_, rfl, ?_⟩
      have e1 := lcV (i := 4) (mi := mItL (mVar 0)) (ds := (List.range n).map fun k => PyData.int (s k)) (env := [some (.fz (rowD n s)), some (.fz (.int t)), some (.ow ((rows n (closeF s t)).take i)), some (.fz (.int (s i))), none]) (e := [some (.fz (rowD n s)), some (.fz (.int t)), some (.ow ((rows n (closeF s t)).take i)), some (.fz (.int (s i))), none])
        (me := (mBin (gI0 fun i j => .int (i - j)) (mFn gInt (mCons (mBin (gI0 fun i j => .bool (decide (i < j))) (mBin (gI0 fun i j => .int (i + j)) (mVar 4) (mVar 1)) (mVar 3)) mNil)) (mFn gInt (mCons (mBin (gI0 fun i j => .bool (decide (i < j))) (mBin (gI0 fun i j => .int (i + j)) (mVar 3) (mVar 1)) (mVar 4)) mNil))))
        (closeD s t i) rfl rfl (fun d hd => by
          obtain ⟨k, hk, rfl⟩ := List.mem_map.mp hd
          (try simp only [mDef, mDef.fin, mSeq, mIf, mOr, mAnd, mNot, mT, mAsg, mAsgO, mRet, mRetO, mRetV, mRetN, mDrop, mNext, mVar, mC, mBin, mUn, mFn, mNil, mCons, mLE, mLO, mDs, mTup, mBinL, mSl, mNoPart, mPart, gPart, mAndV, mOrV, mNotV, mIsi, mFz, mCall, mCallIo, prepA, oneA, bnd, fzP, fzPs, O.dat, vw, sq, sqT, gI, gI0, gMul, gFdiv, gMod, gPow, gEq, gIx, gLen, gInt, gB, gCat, gRep, gNeg, gIn, mgN, mgT, mgTs, mChain, mRg1, mRgv, mItL, mItT, mEnum, mSetI, mApp, mPopAt, mAug, mFor, mLc, mForM, mRng1, mRng2, List.map_cons, List.map_nil, List.length_cons, List.length_nil, List.cons_append, List.nil_append, List.getElem?_cons_zero, List.getElem?_cons_succ, List.set_cons_zero, List.set_cons_succ, Option.map_some, Option.bind_some, Option.map_none, Option.bind_none, if_true, if_false, ite_true, ite_false, List.replicate, Nat.reduceAdd, Nat.reduceSub, Nat.reduceEqDiff, reduceIte, decide_true, decide_false, Bool.not_true, Bool.not_false, Bool.true_and, Bool.and_true, Bool.false_and, Bool.and_false, Bool.false_eq_true, at30, at31, at32, at20, at21, ix30, ix31])
          unfold closeD
          simp only [decide_eq_true_eq]) (by rw [hl]; omega)
      refine Ends.of (app_of (ds0 := (rows n (closeF s t)).take i) (ds := (rows n (closeF s t)).take i) rfl (cons_of (lE_of e1) rfl) rfl rfl (by rw [List.length_take, rows_len]; omega)) ⟨rfl, some (.fz (.int (s i))), ?_⟩
      rw [rowD_map (n := n) (s := s) (closeD s t i) (closeF s t i) (fun k _ => rfl), List.take_add_one, show (rows n (closeF s t))[i]? = some (rowD n (closeF s t i)) from range_get hi' _]
      rfl
    · rintro e ⟨x3, rfl⟩
      refine ⟨rfl, x3, ?_⟩
      rw [hl, List.take_of_length_le (by rw [rows_len]; exact Nat.le_refl _)]
  · rintro e ⟨x3, rfl⟩
    exact Ends.of rfl ⟨_, _, rfl, rfl, rfl⟩
def Below (n : Nat) (xs : List PyData) : Prop := ∀ d ∈ xs, ∃ x : Nat, x < n ∧ d = .int x
theorem lay_below {n : Nat} : ∀ {xs : List PyData}, Below n xs → PyData.canLayAll0 xs = true ∧ PyData.depthAll xs = 0
  | [], _ => ⟨rfl, rfl⟩
  | d :: ds, h => by
    obtain ⟨x, _, rfl⟩ := h d (by simp)
    obtain ⟨a, b⟩ := lay_below (xs := ds) fun e he => h e (by simp [he])
    unfold PyData.canLayAll0 PyData.depthAll
    rw [a, b]
    exact ⟨rfl, rfl⟩
theorem shaped_below {n : Nat} {xs : List PyData} (h : Below n xs) : SeqAt.shaped (.list xs) = true := by
  obtain ⟨a, b⟩ := lay_below h
  unfold SeqAt.shaped PyData.canLay0 PyData.depth
  rw [a, b]
  decide
theorem test_left {n : Nat} {xs : List PyData} {env : En} (h : Below n xs) (h2 : env[2]? = some (some (.ow xs))) : mT (mBin (gEq true) (mVar 2) (mLE (mDs mNil))) env = some (!xs.isEmpty, env) := by
  have s := shaped_below h
  have s0 : SeqAt.shaped (.list []) = true := by decide
  cases xs with
  | nil =>
    simp only [mT, mBin, mVar, h2, bnd, mLE, mDs, mNil, fzPs, h2, gEq, vw, s0, Bool.and_self, if_true, Option.map_some, gB]
    rfl
  | cons x xs =>
    simp only [mT, mBin, mVar, h2, bnd, mLE, mDs, mNil, fzPs, h2, gEq, vw, s, s0, Bool.and_self, if_true, Option.map_some, gB]
    rfl
theorem pop_of {j : Nat} {ma : MA} {env e1 : En} {i : Nat} {d : PyData} {ds0 ds : List PyData} (h0 : env[j]? = some (some (.ow ds0))) (h1 : ma env = some ([.val (.int i)], e1)) (h2 : e1[j]? = some (some (.ow ds))) (h3 : ds[i]? = some d) (hz : ds.length ≤ 1000) : mPopAt j ma env = some (.val d, e1.set j (some (.ow (ds.eraseIdx i)))) := by
  have hi : i < ds.length := (List.getElem?_eq_some_iff.mp h3).1
  have q : seqIndex? (i : Int) ds.length = some i := by
    have a : ¬ ((i : Int) < 0) := by omega
    have b : (i : Int) < (ds.length : Int) := by omega
    simp [seqIndex?, a, b]
  unfold mPopAt
  simp only [h0, h1, h2]
  rw [if_pos ⟨by omega, by omega⟩]
  simp only [q, h3]
theorem ret_of {me : ME} {env e e2 : En} {p : P} {d : PyData} (h : me env = some (p, e)) (h2 : fzP e p = some (d, e2)) : mRet me env = some (.rt (.fz d), e2) := by unfold mRet bnd; simp only [h, h2]
def exD (n : Nat) (nm : Nat → Nat) (f : Nat → Nat → Int) : PyData → PyData := fun d => match d with | .int x => rowD n (fun b => f x.toNat (nm b)) | _ => .none
def exE (g : Nat → Int) : PyData → PyData := fun d => match d with | .int x => .int (g x.toNat) | _ => .none
theorem lRg1_of {me : ME} {env e : En} {n : Nat} (h : me env = some (.val (.int n), e)) (hn : n < 1000000) : mLRg1 me env = some (rgD 0 n, e) := by
  have : okRg 0 (n : Int) = true := by
    unfold okRg
    exact decide_eq_true (by omega)
  unfold mLRg1 bnd
  simp only [h]
  rw [if_pos this, Int.toNat_natCast]
def exF (nm : Nat → Nat) (f : Nat → Nat → Int) : Nat → Nat → Int := fun x y => f (nm x) (nm y)
theorem below_fn {n : Nat} {xs : List PyData} (h : Below n xs) : ∃ nm : Nat → Nat, (∀ x, x < xs.length → nm x < n) ∧ xs = (List.range xs.length).map fun k => .int (nm k) := by
  refine ⟨fun k => match xs[k]? with | some (.int i) => i.toNat | _ => 0, fun x hx => ?_, ?_⟩
  · obtain ⟨d, hd⟩ : ∃ d, xs[x]? = some d := ⟨_, List.getElem?_eq_getElem hx⟩
    obtain ⟨y, hy, rfl⟩ := h d (List.mem_of_getElem? hd)
    simp only [hd, Int.toNat_natCast]
    exact hy
  · refine List.ext_getElem? fun k => ?_
    by_cases hk : k < xs.length
    · rw [range_get hk]
      obtain ⟨d, hd⟩ : ∃ d, xs[k]? = some d := ⟨_, List.getElem?_eq_getElem hk⟩
      obtain ⟨y, hy, rfl⟩ := h d (List.mem_of_getElem? hd)
      simp only [hd, Int.toNat_natCast]
    · rw [List.getElem?_eq_none (by omega), List.getElem?_eq_none (by rw [List.length_map, List.length_range]; omega)]
theorem ends_while {mc : MT} {mb : MS} {env : En} {Q : Ctl → En → Prop} (J : Nat → En → Prop) (k n : Nat) (hk : k < n) (h0 : J k env) (hz : ∀ e, J 0 e → ∃ e1, mc e = some (false, e1) ∧ Q .nx e1) (hs : ∀ k e, J (k + 1) e → ∃ e1, mc e = some (true, e1) ∧ Ends mb e1 fun c e2 => c = .nx ∧ J k e2) : Ends (mWhile mc mb n) env Q := by
  obtain ⟨e', h1, h2⟩ := while_inv (mc := mc) (mb := mb) (R := Q .nx) J hz (fun k e hj => by
    obtain ⟨e1, a, c, e2, b, rfl, d⟩ := hs k e hj
    exact ⟨e1, a, e2, b, d⟩) k n env hk h0
  exact ⟨.nx, e', h1, h2⟩
theorem ix2_row {n i j k : Nat} {env : En} {mi mj : ME} {g : Nat → Nat → Int} (hk : env[k]? = some (some (.fz (sqD n g)))) (hi : i < n) (hj : j < n) (h1 : mi env = some (.val (.int i), env)) (h2 : mj env = some (.val (.int j), env)) : mBin gIx (mBin gIx (mVar k) mi) mj env = some (.val (.int (g i j)), env) := by
  have a := atI_range hi fun x => rowD n (g x)
  have b := atI_range hj fun y => PyData.int (g i y)
  unfold mBin mVar bnd
  simp only [hk, h1, gIx]
  unfold sqD
  simp only [sqT, sq, Option.bind_some, a, Option.map_some]
  unfold rowD
  simp only [h2, sqT, sq, Option.bind_some, b, Option.map_some]
theorem run_exchanged {B : Int} {ds : List PyData} {n : Nat} {f : Nat → Nat → Int} (hd : DrOk B ds) (hB : B + 1000 < 1000000000) (hn : n ≤ 12) (hf : Skew n f) :
    ∃ r os', m__law_exchanged [.ow ds, .fz (sqD n f)] = some (r, os') ∧ ∃ ds' g, r = .fz (.list (rows n g)) ∧ os' = [.ow ds', .fz (sqD n f)] ∧ DrOk (B + 12) ds' ∧ Skew n g := by
  refine mDef_rt rfl ?_
  have hz : 1000 ≤ sizeLine := by decide
  refine Ends.step (e := [some (.ow ds), some (.fz (sqD n f)), some (.ow (rgD 0 n)), none, none, none]) ?_ ?_
  · have e : mLRg1 (mFn gLen (mCons (mVar 1) mNil)) [some (.ow ds), some (.fz (sqD n f)), none, none, none, none] = some (rgD 0 n, [some (.ow ds), some (.fz (sqD n f)), none, none, none, none]) := by
      have e0 : mFn gLen (mCons (mVar 1) mNil) [some (.ow ds), some (.fz (sqD n f)), none, none, none, none] = some (.val (.int n), [some (.ow ds), some (.fz (sqD n f)), none, none, none, none]) := by
        unfold sqD
        (try simp only [mDef, mDef.fin, mSeq, mIf, mOr, mAnd, mNot, mT, mAsg, mAsgO, mRet, mRetO, mRetV, mRetN, mDrop, mNext, mVar, mC, mBin, mUn, mFn, mNil, mCons, mLE, mLO, mDs, mTup, mBinL, mSl, mNoPart, mPart, gPart, mAndV, mOrV, mNotV, mIsi, mFz, mCall, mCallIo, prepA, oneA, bnd, fzP, fzPs, O.dat, vw, sq, sqT, gI, gI0, gMul, gFdiv, gMod, gPow, gEq, gIx, gLen, gInt, gB, gCat, gRep, gNeg, gIn, mgN, mgT, mgTs, mChain, mRg1, mRgv, mItL, mItT, mEnum, mSetI, mApp, mPopAt, mAug, mFor, mLc, mForM, mRng1, mRng2, List.map_cons, List.map_nil, List.length_cons, List.length_nil, List.cons_append, List.nil_append, List.getElem?_cons_zero, List.getElem?_cons_succ, List.set_cons_zero, List.set_cons_succ, Option.map_some, Option.bind_some, Option.map_none, Option.bind_none, if_true, if_false, ite_true, ite_false, List.replicate, Nat.reduceAdd, Nat.reduceSub, Nat.reduceEqDiff, reduceIte, decide_true, decide_false, Bool.not_true, Bool.not_false, Bool.true_and, Bool.and_true, Bool.false_and, Bool.and_false, Bool.false_eq_true, at30, at31, at32, at20, at21, ix30, ix31])
        rw [List.length_map, List.length_range]
      exact lRg1_of e0 (by omega)
    exact (asgO_of (lO_of e)).trans rfl
  refine Ends.step (e := [some (.ow ds), some (.fz (sqD n f)), some (.ow (rgD 0 n)), some (.ow []), none, none]) rfl ?_
  refine Ends.seq (P := fun e => ∃ ds' names, e = [some (.ow ds'), some (.fz (sqD n f)), some (.ow []), some (.ow names), none, none] ∧ names.length = n ∧ Below n names ∧ DrOk (B + 12) ds') ?_ ?_
  · refine ends_while (fun k e => ∃ ds' left names, e = [some (.ow ds'), some (.fz (sqD n f)), some (.ow left), some (.ow names), none, none] ∧ left.length = k ∧ names.length + k = n ∧ Below n left ∧ Below n names ∧ DrOk (B + (names.length : Nat)) ds') n 1000 (by omega) ⟨ds, rgD 0 n, [], rfl, rgD_len, by simp, ?_, fun _ h => (by cases h), by simpa using hd⟩ ?_ ?_
    · intro d hd
      obtain ⟨i, hi⟩ := List.getElem?_of_mem hd
      obtain ⟨a, rfl⟩ := rg_at hi
      exact ⟨i, a, rfl⟩
    · rintro e ⟨ds', left, names, rfl, hl, hn2, b1, b2, hd'⟩
      cases List.length_eq_zero_iff.mp hl
      exact ⟨_, test_left b1 rfl, rfl, ds', names, rfl, by omega, b2, hd'.mono (by omega)⟩
    · rintro k e ⟨ds', left, names, rfl, hl, hn2, b1, b2, hd'⟩
      refine ⟨_, (test_left b1 rfl).trans (by rw [show (!left.isEmpty) = true from by cases left with | nil => cases hl | cons _ _ => rfl]), ?_⟩
      obtain ⟨r, ds2, r0, r1, hd2, en⟩ := next_mod (m := ((k + 1 : Nat) : Int)) (env := [some (.ow ds'), some (.fz (sqD n f)), some (.ow left), some (.ow names), none, none]) hd' (by omega) (by omega) rfl
      obtain ⟨r, rfl⟩ := nat_ge r0
      obtain ⟨d, hdl⟩ : ∃ d, left[r]? = some d := ⟨_, List.getElem?_eq_getElem (by omega)⟩
      have e2 := en (mFn gLen (mCons (mVar 2) mNil)) (by
        rw [List.set_cons_zero, ← hl]
        rfl)
      rw [List.set_cons_zero] at e2
      have e3 := pop_of (j := 2) (ma := mCons (mBin gMod (mFn gInt (mCons (mFz (mCallIo 0 m__law_next (mCons (mVar 0) mNil))) mNil)) (mFn gLen (mCons (mVar 2) mNil))) mNil) (env := [some (.ow ds'), some (.fz (sqD n f)), some (.ow left), some (.ow names), none, none]) (ds0 := left) (ds := left) rfl (cons_of e2 rfl) rfl hdl (by omega)
      rw [List.set_cons_succ, List.set_cons_succ, List.set_cons_zero] at e3
      refine Ends.of (app_of (ds0 := names) (ds := names) (d := d) rfl (cons_of e3 rfl) rfl rfl (by omega)) ⟨rfl, ds2, left.eraseIdx r, names ++ [d], rfl, ?_, ?_, fun x hx => b1 x (List.mem_of_mem_eraseIdx hx), ?_, ?_⟩
      · rw [List.length_eraseIdx, if_pos (by omega)]
        omega
      · rw [List.length_append, List.length_singleton]
        omega
      · intro x hx
        rcases List.mem_append.mp hx with h | h
        · exact b2 x h
        · cases List.mem_singleton.mp h
          exact b1 _ (List.mem_of_getElem? hdl)
      · rw [List.length_append, List.length_singleton]
        exact hd2.mono (by omega)
  · rintro e ⟨ds', names, rfl, hl, b, hd'⟩
    obtain ⟨nm, h1, h2⟩ := below_fn b
    rw [hl] at h1 h2
    have hl' : ((List.range n).map fun k => PyData.int (nm k)).length = n := by rw [List.length_map, List.length_range]
    subst h2
    have e1 := lcV (i := 4) (mi := mItL (mVar 3)) (ds := (List.range n).map fun k => PyData.int (nm k)) (env := [some (.ow ds'), some (.fz (sqD n f)), some (.ow []), some (.ow ((List.range n).map fun k => PyData.int (nm k))), none, none]) (e := [some (.ow ds'), some (.fz (sqD n f)), some (.ow []), some (.fz (rowD n fun k => nm k)), none, none])
      (me := (mLE (mLc (mItL (mVar 3)) (mgN 5) mYes (mBin gIx (mBin gIx (mVar 1) (mVar 4)) (mVar 5)) [5]))) (exD n nm f) rfl rfl (fun d hd => by
        obtain ⟨a, ha, rfl⟩ := List.mem_map.mp hd
        refine (lE_of (lcV (i := 5) (mi := mItL (mVar 3)) (ds := (List.range n).map fun k => PyData.int (nm k)) (env := [some (.ow ds'), some (.fz (sqD n f)), some (.ow []), some (.fz (rowD n fun k => nm k)), some (.fz (.int (nm a))), none]) (e := [some (.ow ds'), some (.fz (sqD n f)), some (.ow []), some (.fz (rowD n fun k => nm k)), some (.fz (.int (nm a))), none]) (exE (f (nm a))) rfl rfl (fun d hd => ?_) (by rw [hl']; omega))).trans ?_
        · obtain ⟨b, hb, rfl⟩ := List.mem_map.mp hd
          exact ix2_row rfl (h1 a (List.mem_range.mp ha)) (h1 b (List.mem_range.mp hb)) rfl rfl
        · rw [rowD_map (n := n) (s := fun k => nm k) (exE (f (nm a))) (fun b => f (nm a) (nm b)) (fun k _ => rfl)]
          rfl) (by rw [hl']; omega)
    refine Ends.of (e := [some (.ow ds'), some (.fz (sqD n f)), some (.ow []), some (.fz (rowD n fun k => nm k)), none, none]) (c := .rt (.fz (.list (rows n (exF nm f))))) ?_ ⟨_, _, rfl, rfl, ds', exF nm f, rfl, rfl, hd', ⟨fun x y => hf.1 _ _, fun x y => hf.2 _ _⟩⟩
    refine (ret_of (lE_of e1) rfl).trans ?_
    rw [List.map_map]
    rfl
theorem Ends.stop {m n : MS} {env : En} {Q : Ctl → En → Prop} (h : Ends m env fun c e => c ≠ .nx ∧ Q c e) : Ends (mSeq m n) env Q := by
  obtain ⟨c, e, h1, h2, h3⟩ := h
  refine ⟨c, e, ?_, h3⟩
  unfold mSeq
  rw [h1]
  cases c with
  | nx => exact absurd rfl h2
  | _ => rfl
theorem call_of {mf : MF} {ma : MA} {env e e2 : En} {ps : List P} {os os' : List O} {r : O} (h : ma env = some (ps, e)) (h1 : prepA none ps e = some (os, e2)) (h3 : mf os = some (r, os')) : mCall mf ma env = some (r, e2) := by
  unfold mCall bnd
  simp only [h, h1, h3]
theorem lc_inv {mi : ML} {mg : PyData → En → Option En} {mt : MT} {me : ME} {vs : List Nat} {env e : En} {ds : List PyData} (J : Nat → List PyData → En → Prop) (h : mi env = some (ds, e)) (h0 : J 0 [] (wipeE e vs))
    (st : ∀ i d, ds[i]? = some d → ∀ acc env, J i acc env → ∃ e1, mg d env = some e1 ∧ ∃ e2, mt e1 = some (true, e2) ∧ ∃ p e3, me e2 = some (p, e3) ∧ ∃ y e4, fzP e3 p = some (y, e4) ∧ J (i + 1) (acc ++ [y]) (wipeE e4 vs)) (hz : ds.length ≤ sizeLine) :
    ∃ acc e', mLc mi mg mt me vs env = some (acc, e') ∧ J ds.length acc e' := by
  obtain ⟨acc, e', h1, h2⟩ := lcGo_inv (ds := ds) J st [] (wipeE e vs) h0 (by simpa using hz)
  refine ⟨acc, e', ?_, h2⟩
  unfold mLc bnd
  simp only [h]
  exact h1
theorem ints_fn {xs : List PyData} (h : ∀ d ∈ xs, ∃ i, d = .int i) : ∃ s : Nat → Int, PyData.list xs = rowD xs.length s := by
  refine ⟨fun k => match xs[k]? with | some (.int i) => i | _ => 0, ?_⟩
  unfold rowD
  congr 1
  refine List.ext_getElem? fun k => ?_
  by_cases hk : k < xs.length
  · rw [range_get hk]
    obtain ⟨d, hd⟩ : ∃ d, xs[k]? = some d := ⟨_, List.getElem?_eq_getElem hk⟩
    obtain ⟨y, rfl⟩ := h d (List.mem_of_getElem? hd)
    simp only [hd]
  · rw [List.getElem?_eq_none (by omega), List.getElem?_eq_none (by rw [List.length_map, List.length_range]; omega)]
theorem lt4 {env : En} {i : Int} (h : env[2]? = some (some (.fz (.int i)))) : mT (mBin (gI0 fun i j => .bool (decide (i < j))) (mVar 2) (mC (.int 4))) env = some (decide (i < 4), env) := by
  simp only [mT, mBin, mVar, h, bnd, mC, gI0, Option.map_some, gB]
theorem eq4 {env : En} {i : Int} (h : env[2]? = some (some (.fz (.int i)))) : mT (mBin (gEq false) (mVar 2) (mC (.int 4))) env = some (i == 4, env) := by
  simp only [mT, mBin, mVar, h, bnd, mC, gEq, vw, sh_int, eqv_int, Bool.and_self, if_true, Bool.false_xor, Option.map_some, gB]
theorem two_n {n : Nat} {env : En} (hn : n ≤ 12) (h : env[1]? = some (some (.fz (.int n)))) : mBin (gI0 fun i j => .int (i + j)) (mBin gMul (mC (.int 2)) (mVar 1)) (mC (.int 1)) env = some (.val (.int (2 * n + 1)), env) := by
  have p : decide ((2 : Int).natAbs.log2 + ((n : Int)).natAbs.log2 < 1000000) = true := mulok (small_lt (by decide)) (small_lt (by omega))
  simp only [mBin, mVar, h, bnd, mC, gMul, gI, p, if_true, gI0, Option.map_some]
theorem run_rule {B : Int} {ds : List PyData} {n : Nat} (hd : DrOk B ds) (hB : B + 2000 < 1000000000) (hn : n ≤ 12) :
    ∃ r os', m__law_rule [.ow ds, .fz (.int n)] = some (r, os') ∧ ∃ ds' f, r = .fz (sqD n f) ∧ os' = [.ow ds', .fz (.int n)] ∧ DrOk (B + 200) ds' ∧ Skew n f := by
  refine mDef_rt rfl ?_
  have hz : 1000 ≤ sizeLine := by decide
  obtain ⟨pick, ds1, r0, r1, hd1, en⟩ := next_mod (m := 6) (env := [some (.ow ds), some (.fz (.int n)), none, none, none]) hd (by omega) (by decide) rfl
  refine Ends.step (e := [some (.ow ds1), some (.fz (.int n)), some (.fz (.int pick)), none, none]) ((asg_of (en (mC (.int 6)) rfl) rfl).trans rfl) ?_
  by_cases h4 : pick < 4
  · refine Ends.stop (if_of (lt4 rfl) ?_)
    rw [decide_eq_true h4, if_pos rfl]
    obtain ⟨a, b, hb, e0⟩ : ∃ a b : Int, 0 < b ∧ (mBin gIx (mLE (mDs (mCons (mLE (mDs (mCons (mC (.int 0)) (mCons (mC (.int 1)) mNil)))) (mCons (mLE (mDs (mCons (mC (.int 1)) (mCons (mC (.int 2)) mNil)))) (mCons (mLE (mDs (mCons (mC (.int 1)) (mCons (mC (.int 5)) mNil)))) (mCons (mLE (mDs (mCons (mC (.int 1)) (mCons (mC (.int 9)) mNil)))) mNil)))))) (mVar 2)) [some (.ow ds1), some (.fz (.int n)), some (.fz (.int pick)), none, none] = some (.val (.list [.int a, .int b]), [some (.ow ds1), some (.fz (.int n)), some (.fz (.int pick)), none, none]) := by
      rcases (show pick = 0 ∨ pick = 1 ∨ pick = 2 ∨ pick = 3 by omega) with rfl | rfl | rfl | rfl
      · exact ⟨0, 1, by decide, rfl⟩
      · exact ⟨1, 2, by decide, rfl⟩
      · exact ⟨1, 5, by decide, rfl⟩
      · exact ⟨1, 9, by decide, rfl⟩
    obtain ⟨_, _, ea, ds2, f, rfl, rfl, hd2, hf, _⟩ := run_answers (a := a) (b := b) hd1 (by omega) hb hn
    refine Ends.of (ret_of (fz_of (callIo0 (ps := [.val (.int n), .val (.list [.int a, .int b])]) (os := [.fz (.int n), .fz (.list [.int a, .int b])]) (cons_of rfl (cons_of rfl (cons_of e0 rfl))) rfl rfl ea) rfl) rfl) ⟨by simp, _, _, rfl, rfl, ds2, f, rfl, rfl, hd2.mono (by omega), hf⟩
  refine Ends.step (e := [some (.ow ds1), some (.fz (.int n)), some (.fz (.int pick)), none, none]) ?_ ?_
  · unfold mIf bnd
    simp only [lt4 (env := [some (.ow ds1), some (.fz (.int n)), some (.fz (.int pick)), none, none]) rfl, decide_eq_false h4]
    rfl
  by_cases h5 : pick = 4
  · refine Ends.stop (if_of (eq4 rfl) ?_)
    subst h5
    rw [if_pos (by decide)]
    obtain ⟨_, _, ea, ds2, f, rfl, rfl, hd2, hf⟩ := run_lined hd1 (by omega) hn
    obtain ⟨_, _, eb, ds3, g, rfl, rfl, hd3, hg⟩ := run_exchanged hd2 (by omega) hn hf
    have e1 := callIo0 (mf := m__law_lined) (ma := (mCons (mVar 0) (mCons (mVar 1) mNil))) (env := [some (.ow ds1), some (.fz (.int n)), some (.fz (.int 4)), none, none]) (ps := [.val (.int n)]) (os := [.fz (.int n)]) rfl rfl rfl ea
    refine Ends.of (ret_of (fz_of (callIo0 (ps := [.val (sqD n f)]) (os := [.fz (sqD n f)]) (cons_of rfl (cons_of (fz_of e1 rfl) rfl)) rfl rfl eb) rfl) rfl) ⟨by simp, _, _, rfl, rfl, ds3, g, rfl, rfl, hd3.mono (by omega), hg⟩
  refine Ends.step (e := [some (.ow ds1), some (.fz (.int n)), some (.fz (.int pick)), none, none]) ?_ ?_
  · unfold mIf bnd
    simp only [eq4 (env := [some (.ow ds1), some (.fz (.int n)), some (.fz (.int pick)), none, none]) rfl, show (pick == 4) = false from by simpa using h5]
    rfl
  obtain ⟨acc, e', e2, ⟨ds2, rfl, hd2, hl, hi⟩⟩ := lc_inv (mi := mRng1 (mCons (mVar 1) mNil)) (mg := mgN 4) (mt := mYes) (vs := [4]) (ds := rgD 0 n) (env := [some (.ow ds1), some (.fz (.int n)), some (.fz (.int pick)), none, none])
    (me := mBin gMod (mFn gInt (mCons (mFz (mCallIo 0 m__law_next (mCons (mVar 0) mNil))) mNil)) (mBin (gI0 fun i j => .int (i + j)) (mBin gMul (mC (.int 2)) (mVar 1)) (mC (.int 1))))
    (fun k acc e => ∃ ds', e = [some (.ow ds'), some (.fz (.int n)), some (.fz (.int pick)), none, none] ∧ DrOk (B + 1 + k) ds' ∧ acc.length = k ∧ ∀ d ∈ acc, ∃ i, d = .int i) (rng1_nat rfl (by omega)) ⟨ds1, rfl, by simpa using hd1, rfl, fun _ h => (by cases h)⟩
    (fun i d hi acc env hj => by
      obtain ⟨ds', rfl, hd', hl, hi2⟩ := hj
      obtain ⟨hi', rfl⟩ := rg_at hi
      obtain ⟨r, ds3, _, _, hd3, en3⟩ := next_mod (m := 2 * n + 1) (env := [some (.ow ds'), some (.fz (.int n)), some (.fz (.int pick)), none, some (.fz (.int i))]) hd' (by omega) (by omega) rfl
      refine ⟨_, rfl, _, rfl, _, _, en3 _ (two_n hn rfl), _, _, rfl, ds3, rfl, by rw [Int.natCast_add, ← Int.add_assoc]; exact hd3, by rw [List.length_append, hl]; rfl, ?_⟩
      intro x hx
      rcases List.mem_append.mp hx with h | h
      · exact hi2 x h
      · cases List.mem_singleton.mp h
        exact ⟨_, rfl⟩) (by rw [rgD_len]; omega)
  rw [rgD_len] at hd2 hl
  obtain ⟨s, hs⟩ := ints_fn hi
  rw [hl] at hs
  refine Ends.step (e := [some (.ow ds2), some (.fz (.int n)), some (.fz (.int pick)), some (.fz (rowD n s)), none]) ((asg_of (lE_of e2) rfl).trans (by rw [hs]; rfl)) ?_
  obtain ⟨t, ds3, t0, t1, hd3, en3⟩ := next_mod (m := 4) (env := [some (.ow ds2), some (.fz (.int n)), some (.fz (.int pick)), some (.fz (rowD n s)), none]) hd2 (by omega) (by decide) rfl
  obtain ⟨_, os3, e3, rfl⟩ := run_close s t hn
  refine Ends.of (ret_of (fz_of (call_of (ps := [.val (rowD n s), .val (.int t)]) (os := [.fz (rowD n s), .fz (.int t)]) (cons_of rfl (cons_of (en3 (mC (.int 4)) rfl) rfl)) rfl e3) rfl) rfl) ⟨_, _, rfl, rfl, ds3, closeF s t, rfl, rfl, hd3.mono (by omega), skew_close⟩
theorem mDef_nx {n np : Nat} {pn : Option Nat} {m : MS} {os : List O} {Q : O → List O → Prop} (h1 : os.length = np) (h2 : Ends m (os.map some ++ List.replicate (n - os.length) none) fun c e => c = .nx ∧ ∃ os', mDef.fin pn os e (.fz .none) = some (.fz .none, os') ∧ Q (.fz .none) os') : ∃ r os', mDef n np pn m os = some (r, os') ∧ Q r os' := by
  obtain ⟨c, e, h3, rfl, os', h4, h5⟩ := h2
  refine ⟨_, os', ?_, h5⟩
  unfold mDef
  simp only [h1, if_true]
  rw [← h1, h3]
  exact h4
theorem run_whole (i : Int) : m_is_whole [.fz (.int i)] = some (.fz (.bool true), [.fz (.int i)]) := by
  unfold m_is_whole
  (try simp only [mDef, mDef.fin, mSeq, mIf, mOr, mAnd, mNot, mT, mAsg, mAsgO, mRet, mRetO, mRetV, mRetN, mDrop, mNext, mVar, mC, mBin, mUn, mFn, mNil, mCons, mLE, mLO, mDs, mTup, mBinL, mSl, mNoPart, mPart, gPart, mAndV, mOrV, mNotV, mIsi, mFz, mCall, mCallIo, prepA, oneA, bnd, fzP, fzPs, O.dat, vw, sq, sqT, gI, gI0, gMul, gFdiv, gMod, gPow, gEq, gIx, gLen, gInt, gB, gCat, gRep, gNeg, gIn, mgN, mgT, mgTs, mChain, mRg1, mRgv, mItL, mItT, mEnum, mSetI, mApp, mPopAt, mAug, mFor, mLc, mForM, mRng1, mRng2, List.map_cons, List.map_nil, List.length_cons, List.length_nil, List.cons_append, List.nil_append, List.getElem?_cons_zero, List.getElem?_cons_succ, List.set_cons_zero, List.set_cons_succ, Option.map_some, Option.bind_some, Option.map_none, Option.bind_none, if_true, if_false, ite_true, ite_false, List.replicate, Nat.reduceAdd, Nat.reduceSub, Nat.reduceEqDiff, reduceIte, decide_true, decide_false, Bool.not_true, Bool.not_false, Bool.true_and, Bool.and_true, Bool.false_and, Bool.and_false, Bool.false_eq_true, at30, at31, at32, at20, at21, ix30, ix31])
  rfl
theorem run_answer {i : Int} (h : i = -1 ∨ i = 0 ∨ i = 1) : m_is_answer [.fz (.int i)] = some (.fz (.bool true), [.fz (.int i)]) := by
  unfold m_is_answer
  (try simp only [mDef, mDef.fin, mSeq, mIf, mOr, mAnd, mNot, mT, mAsg, mAsgO, mRet, mRetO, mRetV, mRetN, mDrop, mNext, mVar, mC, mBin, mUn, mFn, mNil, mCons, mLE, mLO, mDs, mTup, mBinL, mSl, mNoPart, mPart, gPart, mAndV, mOrV, mNotV, mIsi, mFz, mCall, mCallIo, prepA, oneA, bnd, fzP, fzPs, O.dat, vw, sq, sqT, gI, gI0, gMul, gFdiv, gMod, gPow, gEq, gIx, gLen, gInt, gB, gCat, gRep, gNeg, gIn, mgN, mgT, mgTs, mChain, mRg1, mRgv, mItL, mItT, mEnum, mSetI, mApp, mPopAt, mAug, mFor, mLc, mForM, mRng1, mRng2, List.map_cons, List.map_nil, List.length_cons, List.length_nil, List.cons_append, List.nil_append, List.getElem?_cons_zero, List.getElem?_cons_succ, List.set_cons_zero, List.set_cons_succ, Option.map_some, Option.bind_some, Option.map_none, Option.bind_none, if_true, if_false, ite_true, ite_false, List.replicate, Nat.reduceAdd, Nat.reduceSub, Nat.reduceEqDiff, reduceIte, decide_true, decide_false, Bool.not_true, Bool.not_false, Bool.true_and, Bool.and_true, Bool.false_and, Bool.and_false, Bool.false_eq_true, at30, at31, at32, at20, at21, ix30, ix31])
  simp only [run_whole]
  (try simp only [mDef, mDef.fin, mSeq, mIf, mOr, mAnd, mNot, mT, mAsg, mAsgO, mRet, mRetO, mRetV, mRetN, mDrop, mNext, mVar, mC, mBin, mUn, mFn, mNil, mCons, mLE, mLO, mDs, mTup, mBinL, mSl, mNoPart, mPart, gPart, mAndV, mOrV, mNotV, mIsi, mFz, mCall, mCallIo, prepA, oneA, bnd, fzP, fzPs, O.dat, vw, sq, sqT, gI, gI0, gMul, gFdiv, gMod, gPow, gEq, gIx, gLen, gInt, gB, gCat, gRep, gNeg, gIn, mgN, mgT, mgTs, mChain, mRg1, mRgv, mItL, mItT, mEnum, mSetI, mApp, mPopAt, mAug, mFor, mLc, mForM, mRng1, mRng2, List.map_cons, List.map_nil, List.length_cons, List.length_nil, List.cons_append, List.nil_append, List.getElem?_cons_zero, List.getElem?_cons_succ, List.set_cons_zero, List.set_cons_succ, Option.map_some, Option.bind_some, Option.map_none, Option.bind_none, if_true, if_false, ite_true, ite_false, List.replicate, Nat.reduceAdd, Nat.reduceSub, Nat.reduceEqDiff, reduceIte, decide_true, decide_false, Bool.not_true, Bool.not_false, Bool.true_and, Bool.and_true, Bool.false_and, Bool.and_false, Bool.false_eq_true, at30, at31, at32, at20, at21, ix30, ix31])
  rcases h with rfl | rfl | rfl <;> rfl
theorem allB_true {α : Type} : ∀ (ds : List α), allB (ds.map fun _ => PyData.bool true) = some (ds.map fun _ => true)
  | [] => rfl
  | _ :: ds => by
    rw [List.map_cons, allB, allB_true ds]
    rfl
theorem all_true {α : Type} (env : En) (ds : List α) : gAll env [.val (.list (ds.map fun _ => PyData.bool true))] = some (.val (.bool true)) := by
  unfold gAll
  simp only [sq, Option.bind_some, allB_true, Option.map_some]
  congr 3
  simp
theorem mall_true {ml : ML} {env e : En} {α : Type} {ds : List α} (h : ml env = some (ds.map fun _ => PyData.bool true, e)) : mT (mFn gAll (mCons (mLE ml) mNil)) env = some (true, e) := by
  unfold mT mFn bnd
  rw [cons_of (lE_of h) rfl]
  simp only [all_true, Option.map_some, gB]
theorem not_of {m : MT} {env e : En} {b : Bool} (h : m env = some (b, e)) : mNot m env = some (!b, e) := by unfold mNot bnd; simp only [h]
theorem or_ff {m n : MT} {env e e2 : En} {b : Bool} (h : m env = some (false, e)) (h2 : n e = some (b, e2)) : mOr m n env = some (b, e2) := by unfold mOr bnd; simp only [h, h2]
theorem or_tt {m n : MT} {env e : En} (h : m env = some (true, e)) : mOr m n env = some (true, e) := by unfold mOr bnd; simp only [h]
theorem and_tt {m n : MT} {env e e2 : En} {b : Bool} (h : m env = some (true, e)) (h2 : n e = some (b, e2)) : mAnd m n env = some (b, e2) := by unfold mAnd bnd; simp only [h, h2]
theorem and_ff {m n : MT} {env e : En} (h : m env = some (false, e)) : mAnd m n env = some (false, e) := by unfold mAnd bnd; simp only [h]
theorem if_no {m1 m2 : MS} {mt : MT} {env e : En} {r : Option (Ctl × En)} (h : mt env = some (false, e)) (h2 : m2 e = r) : mIf mt m1 m2 env = r := by unfold mIf bnd; simp only [h, h2]
theorem if_yes {m1 m2 : MS} {mt : MT} {env e : En} {r : Option (Ctl × En)} (h : mt env = some (true, e)) (h2 : m1 e = r) : mIf mt m1 m2 env = r := by unfold mIf bnd; simp only [h, h2]
theorem tst_of {me : ME} {env e : En} {b : Bool} (h : me env = some (.val (.bool b), e)) : mT me env = some (b, e) := by unfold mT bnd; simp only [h, gB, Option.map_some]
theorem eq_int {neg : Bool} {ma mb : ME} {env e e2 : En} {i j : Int} (h : ma env = some (.val (.int i), e)) (h2 : mb e = some (.val (.int j), e2)) : mBin (gEq neg) ma mb env = some (.val (.bool (neg ^^ (i == j))), e2) := by
  unfold mBin bnd
  simp only [h, h2, gEq, vw, sh_int, eqv_int, Bool.and_self, if_true, Option.map_some]
theorem len_fz {k : Nat} {env : En} {xs : List PyData} (h : env[k]? = some (some (.fz (.list xs)))) : mFn gLen (mCons (mVar k) mNil) env = some (.val (.int (xs.length : Nat)), env) := by
  unfold mFn bnd
  rw [cons_of (p := .val (.list xs)) (e := env) (by unfold mVar; simp only [h]) rfl]
  simp only [gLen, vw, Option.map_some]
theorem len_sq {k n : Nat} {env : En} {f : Nat → Nat → Int} (h : env[k]? = some (some (.fz (sqD n f)))) : mFn gLen (mCons (mVar k) mNil) env = some (.val (.int n), env) := by
  rw [len_fz h, List.length_map, List.length_range]
theorem len_row {k n : Nat} {env : En} {g : Nat → Int} (h : env[k]? = some (some (.fz (rowD n g)))) : mFn gLen (mCons (mVar k) mNil) env = some (.val (.int n), env) := by
  rw [len_fz h, List.length_map, List.length_range]
theorem enum_sq {k n : Nat} {env : En} {f : Nat → Nat → Int} (h : env[k]? = some (some (.fz (sqD n f)))) : mEnum (mCons (mVar k) mNil) env = some (enD (rows n f), env) := by
  unfold mEnum bnd
  rw [cons_of (p := .val (sqD n f)) (e := env) (by unfold mVar; simp only [h]) rfl]
  rfl
theorem enum_row {k n : Nat} {env : En} {g : Nat → Int} (h : env[k]? = some (some (.fz (rowD n g)))) : mEnum (mCons (mVar k) mNil) env = some (enD ((List.range n).map fun y => .int (g y)), env) := by
  unfold mEnum bnd
  rw [cons_of (p := .val (rowD n g)) (e := env) (by unfold mVar; simp only [h]) rfl]
  rfl
theorem en_at {n i : Nat} {d : PyData} {α : Type} {y : Nat → PyData} (h : (enD ((List.range n).map y))[i]? = some d) : i < n ∧ d = .tuple [.int i, y i] := by
  rw [enD_get] at h
  by_cases hi : i < n
  · rw [range_get hi] at h
    cases h
    exact ⟨hi, rfl⟩
  · rw [List.getElem?_eq_none (by rw [List.length_map, List.length_range]; omega)] at h
    cases h
theorem enD_len {ds : List PyData} : (enD ds).length = ds.length := by unfold enD; rw [List.length_map, List.length_range]
theorem isi_of {T : String} {k : Nat} {env : En} {d : PyData} (h : env[k]? = some (some (.fz d))) : mIsi T (mVar k) env = some (.val (.bool (isT T d)), env) := by
  unfold mIsi mVar bnd
  simp only [h, vw, Option.map_some]
theorem run_check {n : Nat} {f : Nat → Nat → Int} (hn : n ≤ 12) (hf : Skew n f) : ∃ r os', m_check_rule [.fz (sqD n f)] = some (r, os') ∧ r = .fz .none ∧ os' = [.fz (sqD n f)] := by
  refine mDef_nx rfl ?_
  have hz : 1000 ≤ sizeLine := by decide
  refine Ends.step (e := [some (.fz (sqD n f)), none, none, none, none, none]) ?_ ?_
  · have hA : mNot (mT (mIsi "list" (mVar 0))) [some (.fz (sqD n f)), none, none, none, none, none] = some (false, [some (.fz (sqD n f)), none, none, none, none, none]) := (not_of (tst_of (isi_of (d := sqD n f) rfl))).trans rfl
    refine if_no (or_ff hA (not_of (mall_true (ds := rows n f) (lcV (i := 3) (ds := rows n f) (env := [some (.fz (sqD n f)), none, none, none, none, none]) (e := [some (.fz (sqD n f)), none, none, none, none, none]) (fun _ => .bool true) rfl rfl (fun d hd => ?_) (by rw [rows_len]; omega))))) rfl
    obtain ⟨x, _, rfl⟩ := List.mem_map.mp hd
    exact (isi_of rfl).trans rfl
  refine Ends.step (e := [some (.fz (sqD n f)), some (.fz (.int n)), none, none, none, none]) ((asg_of (len_sq rfl) rfl).trans rfl) ?_
  refine Ends.seq (P := fun e => ∃ x2 x3, e = [some (.fz (sqD n f)), some (.fz (.int n)), x2, x3, none, none]) ?_ ?_
  · refine Ends.loop (ds := enD (rows n f)) (fun i e => ∃ x2 x3, e = [some (.fz (sqD n f)), some (.fz (.int n)), x2, x3, none, none]) (enum_sq rfl) ⟨_, _, rfl⟩ ?_ fun e h => ⟨rfl, h⟩
    rintro i d hi e ⟨x2, x3, rfl⟩
    obtain ⟨hi', rfl⟩ := en_at (α := Nat) hi
    refine ⟨_, rfl, Ends.of (e := [some (.fz (sqD n f)), some (.fz (.int n)), some (.fz (.int i)), some (.fz (rowD n (f i))), none, none]) (if_no (or_ff (tst_of ((eq_int (len_row rfl) rfl).trans (by rw [show (true ^^ ((n : Int) == (n : Int))) = false from by simp]; rfl))) (not_of (mall_true (ds := (List.range n).map fun y => PyData.int (f i y)) (lcV (i := 5) (ds := (List.range n).map fun y => PyData.int (f i y)) (e := [some (.fz (sqD n f)), some (.fz (.int n)), some (.fz (.int i)), some (.fz (rowD n (f i))), none, none]) (env := [some (.fz (sqD n f)), some (.fz (.int n)), some (.fz (.int i)), some (.fz (rowD n (f i))), none, none]) (fun _ => .bool true) rfl rfl (fun d hd => ?_) (by rw [List.length_map, List.length_range]; omega))))) rfl) ⟨rfl, _, _, rfl⟩⟩
    obtain ⟨y, _, rfl⟩ := List.mem_map.mp hd
    exact (fz_of (call_of (ps := [.val (.int (f i y))]) (os := [.fz (.int (f i y))]) rfl rfl (run_answer (hf.1 i y))) rfl).trans rfl
  · rintro e ⟨x2, x3, rfl⟩
    refine Ends.loop (ds := enD (rows n f)) (fun i e => ∃ x2 x3 x4 x5, e = [some (.fz (sqD n f)), some (.fz (.int n)), x2, x3, x4, x5]) (enum_sq rfl) ⟨_, _, _, _, rfl⟩ ?_ ?_
    · rintro i d hi e ⟨x2, x3, x4, x5, rfl⟩
      obtain ⟨hi', rfl⟩ := en_at (α := Nat) hi
      refine ⟨_, rfl, ?_⟩
      refine Ends.loop (ds := enD ((List.range n).map fun y => PyData.int (f i y))) (fun j e => ∃ x4 x5, e = [some (.fz (sqD n f)), some (.fz (.int n)), some (.fz (.int i)), some (.fz (rowD n (f i))), x4, x5]) (enum_row rfl) ⟨_, _, rfl⟩ ?_ ?_
      · rintro j d hj e ⟨x4, x5, rfl⟩
        obtain ⟨hj', rfl⟩ := en_at (α := Nat) hj
        have q : (true ^^ (f i j == -f j i)) = false := by rw [← hf.2 j i]; simp
        have e2 := ix2_row (k := 0) (env := [some (.fz (sqD n f)), some (.fz (.int n)), some (.fz (.int i)), some (.fz (rowD n (f i))), some (.fz (.int j)), some (.fz (.int (f i j)))]) (mi := mVar 4) (mj := mVar 2) rfl hj' hi' rfl rfl
        have e3 : mUn gNeg (mBin gIx (mBin gIx (mVar 0) (mVar 4)) (mVar 2)) [some (.fz (sqD n f)), some (.fz (.int n)), some (.fz (.int i)), some (.fz (rowD n (f i))), some (.fz (.int j)), some (.fz (.int (f i j)))] = some (.val (.int (-f j i)), [some (.fz (sqD n f)), some (.fz (.int n)), some (.fz (.int i)), some (.fz (rowD n (f i))), some (.fz (.int j)), some (.fz (.int (f i j)))]) := by
          unfold mUn bnd
          simp only [e2, gNeg, Option.map_some]
        have e4 := eq_int (neg := true) (ma := mVar 5) (i := f i j) (env := [some (.fz (sqD n f)), some (.fz (.int n)), some (.fz (.int i)), some (.fz (rowD n (f i))), some (.fz (.int j)), some (.fz (.int (f i j)))]) rfl e3
        rw [q] at e4
        exact ⟨_, rfl, Ends.of (if_no (tst_of e4) rfl) ⟨rfl, _, _, rfl⟩⟩
      · rintro e ⟨x4, x5, rfl⟩
        exact ⟨rfl, _, _, _, _, rfl⟩
    · rintro e ⟨x2, x3, x4, x5, rfl⟩
      exact ⟨rfl, _, rfl, rfl, rfl⟩

theorem textFrom_le {m : Nat} : ∀ (ts : List Str) (k : Nat) (acc : Str), (∀ t ∈ ts, t.length ≤ m) → (textFrom k acc ts).length ≤ acc.length + ts.length * (m + 2)
  | [], _, acc, _ => by show acc.length ≤ acc.length + 0 * (m + 2); omega
  | t :: r, k, acc, h => by
    have ih := textFrom_le r (k + 1) (acc ++ (if k > 0 then ", " else "" : String) ++ t) fun u hu => h u (by simp [hu])
    have e : (acc ++ (if k > 0 then ", " else "" : String) ++ t).length = acc.length + (if k > 0 then 2 else 0) + t.length := by
      rw [strLen_append, strLen_append]
      split <;> rfl
    have ht := h t (by simp)
    have hs : (if k > 0 then 2 else 0 : Nat) ≤ 2 := by split <;> omega
    rw [e] at ih
    show (textFrom (k + 1) _ r).length ≤ acc.length + (r.length + 1) * (m + 2)
    rw [Nat.add_mul]
    omega
theorem listText_le {m : Nat} {ts : List Str} (h : ∀ t ∈ ts, t.length ≤ m) : (listText ts).length ≤ 2 + ts.length * (m + 2) := by
  have := textFrom_le ts 0 "[" h
  unfold listText
  rw [strLen_append]
  have e1 : ("[" : Str).length = 1 := rfl
  have e2 : ("]" : Str).length = 1 := rfl
  omega
theorem reprDs_map : ∀ ds : List PyData, reprDs ds = ds.map reprD
  | [] => rfl
  | d :: ds => by show reprD d :: reprDs ds = _; rw [reprDs_map ds]; rfl
theorem reprOks_all : ∀ {ds : List PyData}, (∀ d ∈ ds, reprOk d = true) → reprOks ds = true
  | [], _ => rfl
  | d :: ds, h => by
    show (reprOk d && reprOks ds) = true
    rw [h d (by simp), reprOks_all fun e he => h e (by simp [he])]
    rfl
theorem deepDs_le {m : Nat} : ∀ {ds : List PyData}, (∀ d ∈ ds, deepD d ≤ m) → deepDs ds ≤ m
  | [], _ => Nat.zero_le _
  | d :: ds, h => by
    show max (deepD d) (deepDs ds) ≤ m
    exact Nat.max_le.mpr ⟨h d (by simp), deepDs_le fun e he => h e (by simp [he])⟩
theorem row_repr {n : Nat} {g : Nat → Int} (hn : n ≤ 12) (h : ∀ x, g x = -1 ∨ g x = 0 ∨ g x = 1) : reprOk (rowD n g) = true ∧ deepD (rowD n g) ≤ 1 ∧ (reprD (rowD n g)).length ≤ 50 := by
  refine ⟨reprOks_all fun d hd => ?_, Nat.succ_le_succ (deepDs_le fun d hd => ?_), ?_⟩
  · obtain ⟨x, _, rfl⟩ := List.mem_map.mp hd
    rcases h x with e | e | e <;> rw [e] <;> decide
  · obtain ⟨x, _, rfl⟩ := List.mem_map.mp hd
    exact Nat.le_refl _
  · show (listText (reprDs _)).length ≤ 50
    rw [reprDs_map, List.map_map]
    have := listText_le (m := 2) (ts := (List.range n).map (reprD ∘ fun y => PyData.int (g y))) fun t ht => by
      obtain ⟨x, _, rfl⟩ := List.mem_map.mp ht
      show (reprD (.int (g x))).length ≤ 2
      rcases h x with e | e | e <;> rw [e] <;> decide +kernel
    rw [List.length_map, List.length_range] at this
    omega
theorem sq_repr {n : Nat} {f : Nat → Nat → Int} (hn : n ≤ 12) (hf : Skew n f) : reprOk (sqD n f) = true ∧ deepD (sqD n f) ≤ 60 ∧ (reprD (sqD n f)).length ≤ sizeLine := by
  have hz : 1000 ≤ sizeLine := by decide
  refine ⟨reprOks_all fun d hd => ?_, Nat.le_trans (Nat.succ_le_succ (deepDs_le (m := 1) fun d hd => ?_)) (by decide), ?_⟩
  · obtain ⟨x, _, rfl⟩ := List.mem_map.mp hd
    exact (row_repr hn (hf.1 x)).1
  · obtain ⟨x, _, rfl⟩ := List.mem_map.mp hd
    exact (row_repr hn (hf.1 x)).2.1
  · show (listText (reprDs _)).length ≤ _
    rw [reprDs_map, List.map_map]
    have := listText_le (m := 50) (ts := (List.range n).map (reprD ∘ fun x => rowD n (f x))) fun t ht => by
      obtain ⟨x, _, rfl⟩ := List.mem_map.mp ht
      exact (row_repr hn (hf.1 x)).2.2
    rw [List.length_map, List.length_range] at this
    omega
theorem repr_of {k n : Nat} {f : Nat → Nat → Int} {env : En} (hk : env[k]? = some (some (.fz (sqD n f)))) (hn : n ≤ 12) (hf : Skew n f) : mFn gRepr (mCons (mVar k) mNil) env = some (.val (.str (reprD (sqD n f))), env) := by
  unfold mFn bnd
  rw [cons_of (p := .val (sqD n f)) (e := env) (by unfold mVar; simp only [hk]) rfl]
  simp only [gRepr, vw]
  rw [if_pos ⟨rfl, sq_repr hn hf⟩]
  rfl
theorem eq_of {neg : Bool} {ma mb : ME} {env e e2 : En} {p q : P} {a b : PyData} (h : ma env = some (p, e)) (h2 : mb e = some (q, e2)) (ha : vw e2 p = some a) (hb : vw e2 q = some b) (sa : SeqAt.shaped a = true) (sb : SeqAt.shaped b = true) : mBin (gEq neg) ma mb env = some (.val (.bool (neg ^^ PyData.eqv a b)), e2) := by
  unfold mBin bnd
  simp only [h, h2, gEq, ha, hb, sa, sb, Bool.and_self, if_true, Option.map_some]
theorem ds2_of {ma mb : ME} {env e e2 : En} {a b : PyData} (h : ma env = some (.val a, e)) (h2 : mb e = some (.val b, e2)) : mLE (mDs (mCons ma (mCons mb mNil))) env = some (.val (.list [a, b]), e2) := by
  refine lE_of ?_
  unfold mDs bnd
  rw [cons_of h (cons_of h2 rfl)]
  rfl
theorem callN_of {mf : MF} {ma mk : MA} {env e e1 e2 : En} {ix : List Nat} {ps qs : List P} {os os' : List O} {r : O} (h : ma env = some (ps, e)) (h' : mk e = some (qs, e1)) (h1 : prepA none (permP ix ps qs) e1 = some (os, e2)) (h3 : mf os = some (r, os')) : mCallN ix mf ma mk env = some (r, e2) := by
  unfold mCallN bnd
  simp only [h, h', h1, h3]
theorem strOk_app {a b : Str} (ha : PyData.strOk a = true) (hb : PyData.strOk b = true) : PyData.strOk (a ++ b) = true := by
  unfold PyData.strOk at *
  show (a.cps ++ b.cps).all _ = true
  rw [Array.all_append, ha, hb]
  rfl
theorem textFrom_ok : ∀ (ts : List Str) (k : Nat) (acc : Str), PyData.strOk acc = true → (∀ t ∈ ts, PyData.strOk t = true) → PyData.strOk (textFrom k acc ts) = true
  | [], _, _, h, _ => h
  | t :: r, k, acc, h, ht => textFrom_ok r (k + 1) _ (strOk_app (strOk_app h (by split <;> decide +kernel)) (ht t (by simp))) fun u hu => ht u (by simp [hu])
theorem listText_ok {ts : List Str} (h : ∀ t ∈ ts, PyData.strOk t = true) : PyData.strOk (listText ts) = true := strOk_app (textFrom_ok ts 0 _ (by decide +kernel) h) (by decide +kernel)
theorem sq_str {n : Nat} {f : Nat → Nat → Int} (hf : Skew n f) : SeqAt.shaped (.str (reprD (sqD n f))) = true := by
  have q : PyData.strOk (reprD (sqD n f)) = true := by
    show PyData.strOk (listText (reprDs _)) = true
    refine listText_ok fun t ht => ?_
    rw [reprDs_map, List.map_map] at ht
    obtain ⟨x, _, rfl⟩ := List.mem_map.mp ht
    show PyData.strOk (listText (reprDs _)) = true
    refine listText_ok fun t ht => ?_
    rw [reprDs_map, List.map_map] at ht
    obtain ⟨y, _, rfl⟩ := List.mem_map.mp ht
    show PyData.strOk (reprD (.int (f x y))) = true
    rcases hf.1 x y with e | e | e <;> rw [e] <;> decide +kernel
  unfold SeqAt.shaped PyData.canLay0
  rw [q]
  exact decide_eq_true (Nat.zero_le 64)

def isWh : PyData → Bool
  | .int _ => true
  | _ => false
theorem whole_any (d : PyData) : m_is_whole [.fz d] = some (.fz (.bool (isWh d)), [.fz d]) := by
  cases d <;> (unfold m_is_whole; (try simp only [mDef, mDef.fin, mSeq, mIf, mOr, mAnd, mNot, mT, mAsg, mAsgO, mRet, mRetO, mRetV, mRetN, mDrop, mNext, mVar, mC, mBin, mUn, mFn, mNil, mCons, mLE, mLO, mDs, mTup, mBinL, mSl, mNoPart, mPart, gPart, mAndV, mOrV, mNotV, mIsi, mFz, mCall, mCallIo, prepA, oneA, bnd, fzP, fzPs, O.dat, vw, sq, sqT, gI, gI0, gMul, gFdiv, gMod, gPow, gEq, gIx, gLen, gInt, gB, gCat, gRep, gNeg, gIn, mgN, mgT, mgTs, mChain, mRg1, mRgv, mItL, mItT, mEnum, mSetI, mApp, mPopAt, mAug, mFor, mLc, mForM, mRng1, mRng2, List.map_cons, List.map_nil, List.length_cons, List.length_nil, List.cons_append, List.nil_append, List.getElem?_cons_zero, List.getElem?_cons_succ, List.set_cons_zero, List.set_cons_succ, Option.map_some, Option.bind_some, Option.map_none, Option.bind_none, if_true, if_false, ite_true, ite_false, List.replicate, Nat.reduceAdd, Nat.reduceSub, Nat.reduceEqDiff, reduceIte, decide_true, decide_false, Bool.not_true, Bool.not_false, Bool.true_and, Bool.and_true, Bool.false_and, Bool.and_false, Bool.false_eq_true, at30, at31, at32, at20, at21, ix30, ix31]); rfl)
def isItem (n : Nat) : PyData → Bool
  | .int i => decide (0 ≤ i) && decide (i < (n : Int))
  | _ => false
theorem item_any (n : Nat) (d : PyData) : m_is_item [.fz (.int n), .fz d] = some (.fz (.bool (isItem n d)), [.fz (.int n), .fz d]) := by
  unfold m_is_item
  (try simp only [mDef, mDef.fin, mSeq, mIf, mOr, mAnd, mNot, mT, mAsg, mAsgO, mRet, mRetO, mRetV, mRetN, mDrop, mNext, mVar, mC, mBin, mUn, mFn, mNil, mCons, mLE, mLO, mDs, mTup, mBinL, mSl, mNoPart, mPart, gPart, mAndV, mOrV, mNotV, mIsi, mFz, mCall, mCallIo, prepA, oneA, bnd, fzP, fzPs, O.dat, vw, sq, sqT, gI, gI0, gMul, gFdiv, gMod, gPow, gEq, gIx, gLen, gInt, gB, gCat, gRep, gNeg, gIn, mgN, mgT, mgTs, mChain, mRg1, mRgv, mItL, mItT, mEnum, mSetI, mApp, mPopAt, mAug, mFor, mLc, mForM, mRng1, mRng2, List.map_cons, List.map_nil, List.length_cons, List.length_nil, List.cons_append, List.nil_append, List.getElem?_cons_zero, List.getElem?_cons_succ, List.set_cons_zero, List.set_cons_succ, Option.map_some, Option.bind_some, Option.map_none, Option.bind_none, if_true, if_false, ite_true, ite_false, List.replicate, Nat.reduceAdd, Nat.reduceSub, Nat.reduceEqDiff, reduceIte, decide_true, decide_false, Bool.not_true, Bool.not_false, Bool.true_and, Bool.and_true, Bool.false_and, Bool.and_false, Bool.false_eq_true, at30, at31, at32, at20, at21, ix30, ix31])
  simp only [whole_any]
  (try simp only [mDef, mDef.fin, mSeq, mIf, mOr, mAnd, mNot, mT, mAsg, mAsgO, mRet, mRetO, mRetV, mRetN, mDrop, mNext, mVar, mC, mBin, mUn, mFn, mNil, mCons, mLE, mLO, mDs, mTup, mBinL, mSl, mNoPart, mPart, gPart, mAndV, mOrV, mNotV, mIsi, mFz, mCall, mCallIo, prepA, oneA, bnd, fzP, fzPs, O.dat, vw, sq, sqT, gI, gI0, gMul, gFdiv, gMod, gPow, gEq, gIx, gLen, gInt, gB, gCat, gRep, gNeg, gIn, mgN, mgT, mgTs, mChain, mRg1, mRgv, mItL, mItT, mEnum, mSetI, mApp, mPopAt, mAug, mFor, mLc, mForM, mRng1, mRng2, List.map_cons, List.map_nil, List.length_cons, List.length_nil, List.cons_append, List.nil_append, List.getElem?_cons_zero, List.getElem?_cons_succ, List.set_cons_zero, List.set_cons_succ, Option.map_some, Option.bind_some, Option.map_none, Option.bind_none, if_true, if_false, ite_true, ite_false, List.replicate, Nat.reduceAdd, Nat.reduceSub, Nat.reduceEqDiff, reduceIte, decide_true, decide_false, Bool.not_true, Bool.not_false, Bool.true_and, Bool.and_true, Bool.false_and, Bool.and_false, Bool.false_eq_true, at30, at31, at32, at20, at21, ix30, ix31])
  cases d with
  | int i =>
    simp only [isWh, isItem]
    (try simp only [mDef, mDef.fin, mSeq, mIf, mOr, mAnd, mNot, mT, mAsg, mAsgO, mRet, mRetO, mRetV, mRetN, mDrop, mNext, mVar, mC, mBin, mUn, mFn, mNil, mCons, mLE, mLO, mDs, mTup, mBinL, mSl, mNoPart, mPart, gPart, mAndV, mOrV, mNotV, mIsi, mFz, mCall, mCallIo, prepA, oneA, bnd, fzP, fzPs, O.dat, vw, sq, sqT, gI, gI0, gMul, gFdiv, gMod, gPow, gEq, gIx, gLen, gInt, gB, gCat, gRep, gNeg, gIn, mgN, mgT, mgTs, mChain, mRg1, mRgv, mItL, mItT, mEnum, mSetI, mApp, mPopAt, mAug, mFor, mLc, mForM, mRng1, mRng2, List.map_cons, List.map_nil, List.length_cons, List.length_nil, List.cons_append, List.nil_append, List.getElem?_cons_zero, List.getElem?_cons_succ, List.set_cons_zero, List.set_cons_succ, Option.map_some, Option.bind_some, Option.map_none, Option.bind_none, if_true, if_false, ite_true, ite_false, List.replicate, Nat.reduceAdd, Nat.reduceSub, Nat.reduceEqDiff, reduceIte, decide_true, decide_false, Bool.not_true, Bool.not_false, Bool.true_and, Bool.and_true, Bool.false_and, Bool.and_false, Bool.false_eq_true, at30, at31, at32, at20, at21, ix30, ix31])
    by_cases h : 0 ≤ i
    · simp only [h, gAndB, decide_true]
      (try simp only [mDef, mDef.fin, mSeq, mIf, mOr, mAnd, mNot, mT, mAsg, mAsgO, mRet, mRetO, mRetV, mRetN, mDrop, mNext, mVar, mC, mBin, mUn, mFn, mNil, mCons, mLE, mLO, mDs, mTup, mBinL, mSl, mNoPart, mPart, gPart, mAndV, mOrV, mNotV, mIsi, mFz, mCall, mCallIo, prepA, oneA, bnd, fzP, fzPs, O.dat, vw, sq, sqT, gI, gI0, gMul, gFdiv, gMod, gPow, gEq, gIx, gLen, gInt, gB, gCat, gRep, gNeg, gIn, mgN, mgT, mgTs, mChain, mRg1, mRgv, mItL, mItT, mEnum, mSetI, mApp, mPopAt, mAug, mFor, mLc, mForM, mRng1, mRng2, List.map_cons, List.map_nil, List.length_cons, List.length_nil, List.cons_append, List.nil_append, List.getElem?_cons_zero, List.getElem?_cons_succ, List.set_cons_zero, List.set_cons_succ, Option.map_some, Option.bind_some, Option.map_none, Option.bind_none, if_true, if_false, ite_true, ite_false, List.replicate, Nat.reduceAdd, Nat.reduceSub, Nat.reduceEqDiff, reduceIte, decide_true, decide_false, Bool.not_true, Bool.not_false, Bool.true_and, Bool.and_true, Bool.false_and, Bool.and_false, Bool.false_eq_true, at30, at31, at32, at20, at21, ix30, ix31])
    · simp only [h, gAndB, decide_false]
      (try simp only [mDef, mDef.fin, mSeq, mIf, mOr, mAnd, mNot, mT, mAsg, mAsgO, mRet, mRetO, mRetV, mRetN, mDrop, mNext, mVar, mC, mBin, mUn, mFn, mNil, mCons, mLE, mLO, mDs, mTup, mBinL, mSl, mNoPart, mPart, gPart, mAndV, mOrV, mNotV, mIsi, mFz, mCall, mCallIo, prepA, oneA, bnd, fzP, fzPs, O.dat, vw, sq, sqT, gI, gI0, gMul, gFdiv, gMod, gPow, gEq, gIx, gLen, gInt, gB, gCat, gRep, gNeg, gIn, mgN, mgT, mgTs, mChain, mRg1, mRgv, mItL, mItT, mEnum, mSetI, mApp, mPopAt, mAug, mFor, mLc, mForM, mRng1, mRng2, List.map_cons, List.map_nil, List.length_cons, List.length_nil, List.cons_append, List.nil_append, List.getElem?_cons_zero, List.getElem?_cons_succ, List.set_cons_zero, List.set_cons_succ, Option.map_some, Option.bind_some, Option.map_none, Option.bind_none, if_true, if_false, ite_true, ite_false, List.replicate, Nat.reduceAdd, Nat.reduceSub, Nat.reduceEqDiff, reduceIte, decide_true, decide_false, Bool.not_true, Bool.not_false, Bool.true_and, Bool.and_true, Bool.false_and, Bool.and_false, Bool.false_eq_true, at30, at31, at32, at20, at21, ix30, ix31])
  | _ => rfl
def enF (k : Nat) : List PyData → List PyData
  | [] => []
  | d :: r => .tuple [.int k, d] :: enF (k + 1) r
theorem enF_get : ∀ (ds : List PyData) (k i : Nat), (enF k ds)[i]? = (ds[i]?).map fun d => .tuple [.int ((k + i : Nat) : Int), d]
  | [], k, i => by simp [enF]
  | d :: r, k, 0 => by simp [enF]
  | d :: r, k, i + 1 => by
    show (enF (k + 1) r)[i]? = _
    rw [enF_get r (k + 1) i, List.getElem?_cons_succ, show k + 1 + i = k + (i + 1) by omega]
theorem enD_F (ds : List PyData) : enD ds = enF 0 ds := by
  refine List.ext_getElem? fun i => ?_
  rw [enF_get]
  unfold enD
  by_cases h : i < ds.length
  · rw [range_get h, List.getElem?_eq_getElem h]
    simp [h]
  · rw [List.getElem?_eq_none (by simpa using h), List.getElem?_eq_none (by simpa using h)]
    rfl
theorem xif_no {m1 m2 : MX} {mt : MT} {env e : En} {r : Option (Xc × En)} (h : mt env = some (false, e)) (h2 : m2 e = r) : mIf mt m1 m2 env = r := by unfold mIf bnd; simp only [h, h2]
theorem xif_yes {m1 m2 : MX} {mt : MT} {env e : En} {r : Option (Xc × En)} (h : mt env = some (true, e)) (h2 : m1 e = r) : mIf mt m1 m2 env = r := by unfold mIf bnd; simp only [h, h2]
theorem enum_ls {k : Nat} {env : En} {ds : List PyData} (h : env[k]? = some (some (.fz (.list ds)))) : mEnum (mCons (mVar k) mNil) env = some (enF 0 ds, env) := by
  rw [← enD_F]
  unfold mEnum bnd
  rw [cons_of (p := .val (.list ds)) (e := env) (by unfold mVar; simp only [h]) rfl]
  rfl
theorem xDef_ex {n np k : Nat} {m : MX} {os : List O} {d : PyData} {e : En} (h1 : os.length = np) (h : m (os.map some ++ List.replicate (n - os.length) none) = some (.ex k d, e)) : xDef n np m os = some (.ex k d) := by
  unfold xDef
  rw [if_pos h1]
  simp only [h]
theorem xSeq_nx {m n : MX} {env e : En} (h : m env = some (.c .nx, e)) : xSeq m n env = n e := by unfold xSeq; simp only [h]
theorem xSeq_ex {m n : MX} {env e : En} {k : Nat} {d : PyData} (h : m env = some (.ex k d, e)) : xSeq m n env = some (.ex k d, e) := by unfold xSeq; simp only [h]
theorem xLift_of {m : MS} {env e : En} {c : Ctl} (h : m env = some (c, e)) : xLift m env = some (.c c, e) := by unfold xLift; rw [h]; rfl
theorem xcall_ex {xf : XF} {ma : MA} {env e e2 : En} {ps : List P} {os : List O} {k : Nat} {d : PyData} (h : ma env = some (ps, e)) (h1 : prepA none ps e = some (os, e2)) (h2 : xf os = some (.ex k d)) : xCall xf ma env = some (.ex k d, e2) := by
  unfold xCall bnd
  simp only [h, h1, h2]
theorem drop_of {me : ME} {env e : En} {p : P} (h : me env = some (p, e)) : mDrop me env = some (.nx, e) := by unfold mDrop bnd; simp only [h]
def iD (x : Nat) : PyData := .int x
theorem atI_last {α : Type} (ds : List α) (d : α) : atI (ds ++ [d]) (-1) = some d := by
  unfold atI ixN
  rw [if_neg (by decide), if_pos (by rw [List.length_append, List.length_singleton]; omega), Option.bind_some, List.length_append, List.length_singleton]
  rw [show ((-1 : Int) + ((ds.length + 1 : Nat) : Int)).toNat = ds.length by omega]
  simp
theorem neg1 {env : En} : mUn gNeg (mC (.int 1)) env = some (.val (.int (-1)), env) := rfl
theorem last_of {k : Nat} {env : En} {ds : List PyData} {d : PyData} (h : env[k]? = some (some (.ow (ds ++ [d])))) : mBin gIx (mVar k) (mUn gNeg (mC (.int 1))) env = some (.val d, env) := by
  unfold mBin bnd
  have e1 : mVar k env = some (.var k, env) := by unfold mVar; simp only [h]
  have e2 : gIx env (.var k) (.val (.int (-1))) = some (.val d) := by
    unfold gIx sqT sq
    simp only [h, Option.bind_some, atI_last, Option.map_some]
  simp only [e1, neg1, e2, Option.map_some]
theorem below_i {n : Nat} {xs : List Nat} (h : ∀ x ∈ xs, x < n) : Below n (xs.map iD) := fun d hd => by
  obtain ⟨x, hx, rfl⟩ := List.mem_map.mp hd
  exact ⟨x, h x hx, rfl⟩
theorem emp_of {n : Nat} {xs : List PyData} {env : En} (h : Below n xs) (h2 : env[2]? = some (some (.ow xs))) : mT (mBin (gEq false) (mVar 2) (mLE (mDs mNil))) env = some (xs.isEmpty, env) := by
  have s := shaped_below h
  have s0 : SeqAt.shaped (.list []) = true := rfl
  cases xs with
  | nil =>
    simp only [mT, mBin, mVar, h2, bnd, mLE, mDs, mNil, fzPs, h2, gEq, vw, s0, Bool.and_self, if_true, Option.map_some, gB]
    rfl
  | cons x r =>
    simp only [mT, mBin, mVar, h2, bnd, mLE, mDs, mNil, fzPs, h2, gEq, vw, s, s0, Bool.and_self, if_true, Option.map_some, gB]
    rfl
theorem ds1_of {ma : ME} {env e : En} {a : PyData} (h : ma env = some (.val a, e)) : mDs (mCons ma mNil) env = some ([a], e) := by
  unfold mDs bnd
  rw [cons_of h rfl]
  rfl
theorem ix_fz {k j : Nat} {env : En} {ds : List PyData} {d : PyData} {mi : ME} (h : env[k]? = some (some (.fz (.list ds)))) (h1 : mi env = some (.val (.int (j : Nat)), env)) (hd : ds[j]? = some d) : mBin gIx (mVar k) mi env = some (.val d, env) := by
  unfold mBin bnd
  have e1 : mVar k env = some (.val (.list ds), env) := by unfold mVar; simp only [h]
  have e2 : gIx env (.val (.list ds)) (.val (.int (j : Nat))) = some (.val d) := by
    unfold gIx sqT sq
    simp only [Option.bind_some, atI_nat', hd, Option.map_some]
  simp only [e1, h1, e2, Option.map_some]
theorem sl_of {ma : ME} {ml mh : MP} {env e e2 e3 : En} {p : P} {lo hi : Option Int} {ds : List PyData} (h : ma env = some (p, e)) (h1 : ml e = some (lo, e2)) (h2 : mh e2 = some (hi, e3)) (h3 : sq e3 p = some ds) : mSl ma ml mh env = some (cutD ds lo hi, e3) := by
  unfold mSl bnd
  simp only [h, h1, h2, h3, Option.map_some]
theorem item_i {n x : Nat} (h : x < n) : isItem n (iD x) = true := by
  show (decide ((0 : Int) ≤ (x : Nat)) && decide (((x : Nat) : Int) < (n : Int))) = true
  rw [decide_eq_true (by omega), decide_eq_true (by omega)]
  rfl
theorem op2_of {op : Int → Int → PyData} {ma mb : ME} {env e e2 : En} {i j : Int} (h : ma env = some (.val (.int i), e)) (h2 : mb e = some (.val (.int j), e2)) : mBin (gI0 op) ma mb env = some (.val (op i j), e2) := by
  unfold mBin bnd
  simp only [h, h2, gI0, Option.map_some]
theorem lenE_of {me : ME} {env e : En} {xs : List PyData} (h : me env = some (.val (.list xs), e)) : mFn gLen (mCons me mNil) env = some (.val (.int (xs.length : Nat)), e) := by
  unfold mFn bnd
  rw [cons_of h rfl]
  simp only [gLen, vw, Option.map_some]
theorem cut_to' {xs : List PyData} {p : Nat} : cutD xs none (some ((p : Nat) : Int)) = xs.take p := by
  unfold cutD
  rw [HT.sIx_none, HT.sIx_nat, List.drop_zero, Nat.sub_zero]
  exact List.take_eq_take_iff.mpr (by omega)
theorem int_str : ∀ k ∈ List.range 64, SeqAt.shaped (.str (reprD (.int (k : Nat)))) = true ∧ reprOk (.int (k : Nat)) = true ∧ (reprD (.int (k : Nat))).length ≤ 100 := by decide +kernel
theorem int_rep {k : Nat} (h : k < 64) : isTup (.int (k : Nat)) = false ∧ reprOk (.int (k : Nat)) = true ∧ deepD (.int (k : Nat)) ≤ 60 ∧ (reprD (.int (k : Nat))).length ≤ sizeLine := by
  have hz : 1000 ≤ sizeLine := by decide
  obtain ⟨_, a, b⟩ := int_str k (List.mem_range.mpr h)
  exact ⟨rfl, a, Nat.zero_le _, by omega⟩
theorem none_rep : isTup .none = false ∧ reprOk .none = true ∧ deepD .none ≤ 60 ∧ (reprD .none).length ≤ sizeLine := by
  have hz : 1000 ≤ sizeLine := by decide
  exact ⟨rfl, rfl, by decide, Nat.le_trans (by decide : (reprD .none).length ≤ 1000) hz⟩
theorem eqv_str (s : Str) : PyData.eqv (.str s) (.str s) = true := by
  show (s == s) = true
  simp
theorem ne_str {ma mb : ME} {env e e2 : En} {s : Str} (h : ma env = some (.val (.str s), e)) (h2 : mb e = some (.val (.str s), e2)) (hs : SeqAt.shaped (.str s) = true) : mT (mBin (gEq true) ma mb) env = some (false, e2) := by
  have t := eq_of (neg := true) h h2 rfl rfl hs hs
  rw [eqv_str] at t
  exact tst_of t
theorem strI_of {ma : ME} {env e : En} {k : Nat} (h : ma env = some (.val (.int (k : Nat)), e)) (hk : k < 64) : mFn gStrI (mCons ma mNil) env = some (.val (.str (reprD (.int (k : Nat)))), e) := by
  unfold mFn bnd
  rw [cons_of h rfl]
  simp only [gStrI]
  rw [if_pos (Nat.lt_of_le_of_lt (Nat.log2_le_self _) (by omega))]
  rfl
theorem cmpV_of {is js : List Nat} {env : En} {ds : List PyData} (h1 : vws env is = some ds) (h2 : vws env js = some ds) (hs : SeqAt.shaped (.list ds) = true) (l1 : is.length ≤ 1000) (l2 : js.length ≤ 1000) : mT (mCmpV true is js) env = some (false, env) := by
  have q := PySem.SeqAt.eqv_refl _ (SeqAt.canLay_of_shaped hs)
  refine tst_of ?_
  unfold mCmpV
  simp only [h1, h2, hs, q, decide_eq_true l1, decide_eq_true l2, Bool.and_self, if_true]
  rfl
theorem asg2_of {i j : Nat} {m n : MO} {env e e2 : En} {o o' : O} (h : m env = some (o, e)) (h2 : n e = some (o', e2)) (hij : i ≠ j) : mAsg2 i j m n env = some (.nx, (e2.set i (some o)).set j (some o')) := by
  unfold mAsg2 bnd
  simp only [h, h2]
  rw [if_pos hij]
theorem lc_none {mi : ML} {mt : MT} {me : ME} {i : Nat} {env e : En} {ds : List PyData} (h : mi env = some (ds, e)) (hw : e.set i none = e) (hy : ∀ d ∈ ds, mt (e.set i (some (.fz d))) = some (false, e.set i (some (.fz d)))) : mLc mi (mgN i) mt me [i] env = some ([], e) := by
  have go : ∀ ds : List PyData, (∀ d ∈ ds, mt (e.set i (some (.fz d))) = some (false, e.set i (some (.fz d)))) → mLcGo (mgN i) mt me [i] ds [] e = some ([], e) := by
    intro ds
    induction ds with
    | nil => intro _; rfl
    | cons d r ih =>
      intro hy
      unfold mLcGo
      have e1 : mgN i d e = some (e.set i (some (.fz d))) := rfl
      have e2 : wipeE (e.set i (some (.fz d))) [i] = e := by unfold wipeE wipeE; rw [List.set_set]; exact hw
      simp only [e1, hy d (by simp), e2]
      exact ih fun x hx => hy x (by simp [hx])
  unfold mLc bnd
  simp only [h]
  have e3 : wipeE e [i] = e := by unfold wipeE wipeE; exact hw
  rw [e3]
  exact go ds hy
theorem repr_any {ma : ME} {env e : En} {d : PyData} (h : ma env = some (.val d, e)) (hr : isTup d = false ∧ reprOk d = true ∧ deepD d ≤ 60 ∧ (reprD d).length ≤ sizeLine) : mFn gRepr (mCons ma mNil) env = some (.val (.str (reprD d)), e) := by
  unfold mFn bnd
  rw [cons_of h rfl]
  simp only [gRepr, vw]
  rw [if_pos hr]
  rfl
theorem row_small {n : Nat} {xs : List Nat} (hn : n ≤ 12) (h : ∀ x ∈ xs, x < n) (hl : xs.length ≤ 100) : reprOk (.list (xs.map iD)) = true ∧ deepD (.list (xs.map iD)) ≤ 1 ∧ (reprD (.list (xs.map iD))).length ≤ 10300 ∧ PyData.strOk (reprD (.list (xs.map iD))) = true := by
  have one : ∀ x ∈ List.range 12, reprOk (iD x) = true ∧ (reprD (iD x)).length ≤ 100 ∧ PyData.strOk (reprD (iD x)) = true := by decide +kernel
  have at_ : ∀ x ∈ xs, reprOk (iD x) = true ∧ (reprD (iD x)).length ≤ 100 ∧ PyData.strOk (reprD (iD x)) = true := fun x hx => one x (List.mem_range.mpr (by have := h x hx; omega))
  refine ⟨reprOks_all fun d hd => ?_, Nat.succ_le_succ (deepDs_le fun d hd => ?_), ?_, ?_⟩
  · obtain ⟨x, hx, rfl⟩ := List.mem_map.mp hd
    exact (at_ x hx).1
  · obtain ⟨x, _, rfl⟩ := List.mem_map.mp hd
    exact Nat.le_refl _
  · show (listText (reprDs _)).length ≤ _
    rw [reprDs_map, List.map_map]
    have := listText_le (m := 100) (ts := xs.map (reprD ∘ iD)) fun t ht => by
      obtain ⟨x, hx, rfl⟩ := List.mem_map.mp ht
      exact (at_ x hx).2.1
    rw [List.length_map] at this
    have : xs.length * 102 ≤ 100 * 102 := Nat.mul_le_mul hl (Nat.le_refl _)
    omega
  · show PyData.strOk (listText (reprDs _)) = true
    refine listText_ok fun t ht => ?_
    rw [reprDs_map, List.map_map] at ht
    obtain ⟨x, hx, rfl⟩ := List.mem_map.mp ht
    exact (at_ x hx).2.2
theorem sq_small {n : Nat} {f : Nat → Nat → Int} (hn : n ≤ 12) (hf : Skew n f) : reprOk (sqD n f) = true ∧ deepD (sqD n f) ≤ 2 ∧ (reprD (sqD n f)).length ≤ 1000 ∧ PyData.strOk (reprD (sqD n f)) = true := by
  refine ⟨(sq_repr hn hf).1, Nat.succ_le_succ (deepDs_le (m := 1) fun d hd => ?_), ?_, ?_⟩
  · obtain ⟨x, _, rfl⟩ := List.mem_map.mp hd
    exact (row_repr hn (hf.1 x)).2.1
  · show (listText (reprDs _)).length ≤ _
    rw [reprDs_map, List.map_map]
    have := listText_le (m := 50) (ts := (List.range n).map (reprD ∘ fun x => rowD n (f x))) fun t ht => by
      obtain ⟨x, _, rfl⟩ := List.mem_map.mp ht
      exact (row_repr hn (hf.1 x)).2.2
    rw [List.length_map, List.length_range] at this
    omega
  · have := sq_str hf (n := n)
    unfold SeqAt.shaped PyData.canLay0 at this
    exact (Bool.and_eq_true_iff.mp this).1
theorem two_repr {n : Nat} {f : Nat → Nat → Int} {xs : List Nat} (hn : n ≤ 12) (hf : Skew n f) (h : ∀ x ∈ xs, x < n) (hl : xs.length ≤ 100) :
    (isTup (.list [sqD n f, .list (xs.map iD)]) = false ∧ reprOk (.list [sqD n f, .list (xs.map iD)]) = true ∧ deepD (.list [sqD n f, .list (xs.map iD)]) ≤ 60 ∧ (reprD (.list [sqD n f, .list (xs.map iD)])).length ≤ sizeLine) ∧ SeqAt.shaped (.str (reprD (.list [sqD n f, .list (xs.map iD)]))) = true := by
  have hz : 100000 ≤ sizeLine := by decide
  obtain ⟨a1, a2, a3, a4⟩ := sq_small hn hf
  obtain ⟨b1, b2, b3, b4⟩ := row_small hn h hl
  refine ⟨⟨rfl, reprOks_all fun d hd => ?_, Nat.le_trans (Nat.succ_le_succ (deepDs_le (m := 2) fun d hd => ?_)) (by decide), ?_⟩, ?_⟩
  · rcases List.mem_cons.mp hd with rfl | hd
    · exact a1
    · cases List.mem_singleton.mp hd; exact b1
  · rcases List.mem_cons.mp hd with rfl | hd
    · exact a2
    · cases List.mem_singleton.mp hd; omega
  · show (listText (reprDs [sqD n f, .list (xs.map iD)])).length ≤ _
    rw [reprDs_map]
    have := listText_le (m := 10300) (ts := [sqD n f, .list (xs.map iD)].map reprD) fun t ht => by
      obtain ⟨x, hx, rfl⟩ := List.mem_map.mp ht
      rcases List.mem_cons.mp hx with rfl | hx
      · omega
      · cases List.mem_singleton.mp hx; exact b3
    rw [List.length_map] at this
    have e : [sqD n f, PyData.list (xs.map iD)].length = 2 := rfl
    rw [e] at this
    omega
  · have q : PyData.strOk (reprD (.list [sqD n f, .list (xs.map iD)])) = true := by
      show PyData.strOk (listText (reprDs [sqD n f, .list (xs.map iD)])) = true
      refine listText_ok fun t ht => ?_
      rw [reprDs_map] at ht
      obtain ⟨x, hx, rfl⟩ := List.mem_map.mp ht
      rcases List.mem_cons.mp hx with rfl | hx
      · exact a4
      · cases List.mem_singleton.mp hx; exact b4
    unfold SeqAt.shaped PyData.canLay0
    rw [q]
    exact decide_eq_true (Nat.zero_le 64)
theorem two_shaped {n : Nat} {xs : List PyData} (h : Below n xs) : SeqAt.shaped (.list [.list xs, .list xs]) = true := by
  obtain ⟨a, b⟩ := lay_below h
  simp only [SeqAt.shaped, PyData.canLay0, PyData.canLayAll0, PyData.depth, PyData.depthAll, a, b]
  decide
theorem callIo0_at {mf : MF} {ma : MA} {env e e2 : En} {i : Nat} {ps : List P} {os os' : List O} {o o' r : O} (h : ma env = some (.var i :: ps, e)) (h1 : prepA none ps e = some (os, e2)) (h2 : e2[i]? = some (some o)) (h3 : mf (o :: os) = some (r, o' :: os')) {d : PyData} (hr : r = .fz d) : mFz (mCallIo 0 mf ma) env = some (.val d, e2.set i (some o')) :=
  fz_of (callIo0 h h1 h2 h3) (by rw [hr]; rfl)
theorem cat_of {ma mb : ME} {env e e2 : En} {xs ys : List PyData} (h : ma env = some (.val (.list xs), e)) (h2 : mb e = some (.val (.list ys), e2)) (hz : xs.length + ys.length ≤ sizeLine) : mBinL gCat ma mb env = some (xs ++ ys, e2) := by
  unfold mBinL bnd
  simp only [h, h2, gCat, sq]
  rw [if_pos hz]
  rfl
theorem itl_of {me : ME} {env e : En} {xs : List PyData} (h : me env = some (.val (.list xs), e)) : mItL me env = some (xs, e) := by
  unfold mItL bnd
  simp only [h, fzP]
theorem ds_two {ma mb : ME} {env e e2 : En} {a b : PyData} (h : ma env = some (.val a, e)) (h2 : mb e = some (.val b, e2)) : mLE (mDs (mCons ma (mCons mb mNil))) env = some (.val (.list [a, b]), e2) := ds2_of h h2
theorem ds_one {ma : ME} {env e : En} {a : PyData} (h : ma env = some (.val a, e)) : mLE (mDs (mCons ma mNil)) env = some (.val (.list [a]), e) := lE_of (ds1_of h)
theorem var_of {k : Nat} {env : En} {d : PyData} (h : env[k]? = some (some (.fz d))) : mVar k env = some (.val d, env) := by unfold mVar; simp only [h]
theorem nil_of {xs ys : List PyData} {neg : Bool} {ma : ME} {env e : En} (h : ma env = some (.val (.list []), e)) : mBin (gEq neg) ma (mLE (mDs mNil)) env = some (.val (.bool (!neg)), e) := by
  have t := eq_of (neg := neg) h (mb := mLE (mDs mNil)) (e2 := e) (q := .val (.list [])) rfl rfl rfl rfl rfl
  rw [show PyData.eqv (.list []) (.list []) = true from rfl] at t
  cases neg <;> exact t
theorem lc_none2 {mi : ML} {mt : MT} {me : ME} {i : Nat} {env e e0 : En} {ds : List PyData} (h : mi env = some (ds, e)) (h0 : e.set i none = e0) (hw : e0.set i none = e0) (hy : ∀ d ∈ ds, mt (e0.set i (some (.fz d))) = some (false, e0.set i (some (.fz d)))) : mLc mi (mgN i) mt me [i] env = some ([], e0) := by
  have q := lc_none (mi := fun _ => some (ds, e0)) (mt := mt) (me := me) (env := env) rfl hw hy
  unfold mLc bnd at q ⊢
  simp only [h] at q ⊢
  have e1 : wipeE e [i] = e0 := by unfold wipeE wipeE; exact h0
  have e2 : wipeE e0 [i] = e0 := by unfold wipeE wipeE; exact hw
  rw [e1]
  rw [e2] at q
  exact q

theorem lc2_draws {i : Nat} {env : En} (hi : i < env.length) (h0 : env.set i none = env) : ∀ (ds : List PyData) (acc : List (List PyData)), (∀ d ∈ ds, ∃ k, d = .int k) → (∀ r ∈ acc, DrOk 0 r) → acc.length + ds.length ≤ sizeLine →
    ∃ rs, mLc2Go (mgN i) mYes (mCall m__law_draws (mCons (mVar i) mNil)) [i] ds acc env = some (rs, env) ∧ ∀ r ∈ rs, DrOk 0 r
  | [], acc, _, h2, _ => ⟨acc, rfl, h2⟩
  | d :: ds, acc, h1, h2, h3 => by
    rw [List.length_cons] at h3
    obtain ⟨k, rfl⟩ := h1 d (by simp)
    obtain ⟨c, c0, c1, e⟩ := run_draws k
    obtain ⟨rs, e2, h4⟩ := lc2_draws hi h0 ds (acc ++ [[.int c, .int 0, .bool (decide ((10 : Int) ^ Int.toNat 18 ≤ k))]]) (fun d hd => h1 d (by simp [hd])) (fun r hr => by
      rcases List.mem_append.mp hr with h | h
      · exact h2 r h
      · cases List.mem_singleton.mp h
        exact ⟨c, 0, _, rfl, c0, c1, by omega, by omega⟩) (by rw [List.length_append, List.length_singleton]; omega)
    refine ⟨rs, ?_, h4⟩
    have hv : mVar i (env.set i (some (.fz (.int k)))) = some (.val (.int k), env.set i (some (.fz (.int k)))) := by
      unfold mVar
      rw [List.getElem?_set_self hi]
    have e3 : mCall m__law_draws (mCons (mVar i) mNil) (env.set i (some (.fz (.int k)))) = some (.ow [.int c, .int 0, .bool (decide ((10 : Int) ^ Int.toNat 18 ≤ k))], env.set i (some (.fz (.int k)))) := call_of (ps := [.val (.int k)]) (os := [.fz (.int k)]) (cons_of hv rfl) rfl e
    generalize decide ((10 : Int) ^ Int.toNat 18 ≤ k) = b at e2 e3
    unfold mLc2Go
    generalize mCall m__law_draws (mCons (mVar i) mNil) = X at e2 e3
    have e4 : mgN i (.int k) env = some (env.set i (some (.fz (.int k)))) := rfl
    have e5 : mYes (env.set i (some (.fz (.int k)))) = some (true, env.set i (some (.fz (.int k)))) := rfl
    have e6 : wipeE (env.set i (some (.fz (.int k)))) [i] = env := by unfold wipeE wipeE; rw [List.set_set]; exact h0
    simp only [e4, e5, e3, e6]
    rw [if_pos (by omega)]
    exact e2
theorem forM_inv {i : Nat} {mb : MS} {J : En → Prop} : ∀ (rs : List (List PyData)) (e : En), (∀ r ∈ rs, ∀ e, J e → Ends mb (e.set i (some (.ow r))) fun c e => c = .nx ∧ J e) → J e → Ends (mForMGo i mb rs) e fun c e => c = .nx ∧ J e
  | [], e, _, h => Ends.of rfl ⟨rfl, h⟩
  | r :: rs, e, hb, h => by
    obtain ⟨c, e1, h1, rfl, h2⟩ := hb r (by simp) e h
    obtain ⟨c, e2, h3, h4⟩ := forM_inv rs e1 (fun q hq => hb q (by simp [hq])) h2
    refine ⟨c, e2, ?_, h4⟩
    unfold mForMGo
    simp only [h1]
    exact h3
theorem forM_of {mo : MO} {i : Nat} {mb : MS} {env e : En} {rs : List (List PyData)} {Q : Ctl → En → Prop} (h : mo env = some (.ow2 rs, e)) (k : Ends (mForMGo i mb rs) e Q) : Ends (mForM mo i mb) env Q := by
  obtain ⟨c, e2, h1, h2⟩ := k
  refine ⟨c, e2, ?_, h2⟩
  unfold mForM bnd
  simp only [h]
  exact h1
theorem lc2_of {mi : ML} {mg : PyData → En → Option En} {mt : MT} {mo : MO} {vs : List Nat} {env e e2 : En} {ds : List PyData} {rs : List (List PyData)} (h : mi env = some (ds, e)) (hw : wipeE e vs = e) (h2 : mLc2Go mg mt mo vs ds [] e = some (rs, e2)) : mLc2 mi mg mt mo vs env = some (.ow2 rs, e2) := by
  unfold mLc2 bnd
  simp only [h, hw, h2, Option.map_some]
theorem slS_of {K : PySem.W.Frag} {ns : List Int} {env : En} {ml mh : MP} {lo hi : Option Int} {i : Nat} (h : env[i]? = some (some (.sc K ns))) (h1 : ml env = some (lo, env)) (h2 : mh env = some (hi, env)) : mSlS K i ml mh env = some (cutD (ns.map .int) lo hi, env) := by
  unfold mSlS bnd
  simp only [h, h1, h2, if_true]
/-- the draws of a law's cells -/
theorem law_rows {K : PySem.W.Frag} {ns : List Int} {i : Nat} {env : En} (hl : ns.length ≤ 63) (hi : i < env.length) (h0 : env.set i none = env) (hs : env[0]? = some (some (.sc K ns))) :
    ∃ rs, mLc2 (mItL (mLE (mBinL gCat (mLE (mSlS K 0 mNoPart (mPart (mC (.int 6))))) (mLE (mDs (mCons (mC (.int 0)) mNil)))))) (mgN i) mYes (mCall m__law_draws (mCons (mVar i) mNil)) [i] env = some (.ow2 rs, env) ∧ ∀ r ∈ rs, DrOk 0 r := by
  have hz : 1000 ≤ sizeLine := by decide
  have cl : (cutD (ns.map .int) none (some 6)).length ≤ ns.length := by
    unfold cutD
    rw [List.length_take, List.length_drop, List.length_map]
    omega
  have ci : ∀ d ∈ cutD (ns.map PyData.int) none (some 6) ++ [.int 0], ∃ i, d = .int i := by
    intro d hd
    rcases List.mem_append.mp hd with h | h
    · unfold cutD at h
      obtain ⟨i, _, rfl⟩ := List.mem_map.mp (List.mem_of_mem_drop (List.mem_of_mem_take h))
      exact ⟨i, rfl⟩
    · exact ⟨0, List.mem_singleton.mp h⟩
  obtain ⟨rs, e2, hr⟩ := lc2_draws hi h0 (cutD (ns.map PyData.int) none (some 6) ++ [.int 0]) [] ci (fun _ h => by cases h) (by rw [List.length_append, List.length_singleton, List.length_nil]; omega)
  refine ⟨rs, ?_, hr⟩
  have e1 : wipeE env [i] = env := by unfold wipeE wipeE; exact h0
  exact lc2_of (e := env) (itl_of (lE_of (cat_of (ys := [.int 0]) (lE_of (slS_of (lo := none) (hi := some 6) hs rfl rfl)) rfl (by rw [List.length_singleton]; omega)))) e1 e2
end My
namespace My
open PySem PySem.Spec L2 Tr
def IsRow (n : Nat) (xs : List Nat) : Prop := xs.length = n ∧ xs.Nodup ∧ ∀ x ∈ xs, x < n
theorem iD_map {n : Nat} : rgD 0 n = (List.range n).map iD := by
  unfold rgD
  refine List.map_congr_left fun x _ => ?_
  show PyData.int (0 + (x : Nat)) = .int (x : Nat)
  rw [Int.zero_add]
theorem map_erase {xs : List Nat} {k : Nat} : (xs.map iD).eraseIdx k = (xs.eraseIdx k).map iD := by
  induction xs generalizing k with
  | nil => rfl
  | cons x r ih =>
    cases k with
    | zero => rfl
    | succ k => simp [List.eraseIdx_cons_succ, ih]
theorem perm_erase : ∀ {xs : List Nat} {k : Nat} {d : Nat}, xs[k]? = some d → List.Perm xs (d :: xs.eraseIdx k)
  | [], k, d, h => by simp at h
  | x :: r, 0, d, h => by simp at h; subst h; exact .refl _
  | x :: r, k + 1, d, h => by
    rw [List.getElem?_cons_succ] at h
    rw [List.eraseIdx_cons_succ]
    exact (List.Perm.cons x (perm_erase h)).trans (List.Perm.swap d x _)
theorem run_mixed {B : Int} {ds : List PyData} {n : Nat} (hd : DrOk B ds) (hB : B + 1000 < 1000000000) (hn : n ≤ 12) :
    ∃ r os', m__law_mixed [.ow ds, .fz (.int n)] = some (r, os') ∧ ∃ ds' xs, r = .fz (.list (xs.map iD)) ∧ os' = [.ow ds', .fz (.int n)] ∧ DrOk (B + 12) ds' ∧ IsRow n xs := by
  refine mDef_rt rfl ?_
  have hz : 1000 ≤ sizeLine := by decide
  refine Ends.step (e := [some (.ow ds), some (.fz (.int n)), some (.ow (rgD 0 n)), none]) ((asgO_of (lO_of (lRg1_of (n := n) rfl (by omega)))).trans rfl) ?_
  refine Ends.step (e := [some (.ow ds), some (.fz (.int n)), some (.ow (rgD 0 n)), some (.ow [])]) rfl ?_
  rw [iD_map]
  refine Ends.seq (P := fun e => ∃ ds' names : List _, ∃ xs : List Nat, e = [some (.ow ds'), some (.fz (.int n)), some (.ow names), some (.ow (xs.map iD))] ∧ List.Perm xs (List.range n) ∧ DrOk (B + 12) ds') ?_ ?_
  · refine ends_while (fun k e => ∃ (ds' : List PyData) (left xs : List Nat), e = [some (.ow ds'), some (.fz (.int n)), some (.ow (left.map iD)), some (.ow (xs.map iD))] ∧ left.length = k ∧ List.Perm (xs ++ left) (List.range n) ∧ DrOk (B + (xs.length : Nat)) ds') n 1000 (by omega) ⟨ds, List.range n, [], rfl, List.length_range, .refl _, by simpa using hd⟩ ?_ ?_
    · rintro e ⟨ds', left, xs, rfl, hl, hp, hd'⟩
      cases List.length_eq_zero_iff.mp hl
      rw [List.append_nil] at hp
      have hlen := hp.length_eq
      rw [List.length_range] at hlen
      exact ⟨_, test_left (n := n) (xs := []) (fun _ z => nomatch z) rfl, rfl, ds', [], xs, rfl, hp, hd'.mono (by omega)⟩
    · rintro k e ⟨ds', left, xs, rfl, hl, hp, hd'⟩
      have hb : Below n (left.map iD) := below_i fun x hx => by
        have := hp.mem_iff.mp (List.mem_append_right xs hx)
        exact List.mem_range.mp this
      have hlen := hp.length_eq
      rw [List.length_range, List.length_append] at hlen
      refine ⟨_, (test_left hb rfl).trans (by rw [show (!(left.map iD).isEmpty) = true from by cases left with | nil => cases hl | cons _ _ => rfl]), ?_⟩
      obtain ⟨r, ds2, r0, r1, hd2, en⟩ := next_mod (m := ((k + 1 : Nat) : Int)) (env := [some (.ow ds'), some (.fz (.int n)), some (.ow (left.map iD)), some (.ow (xs.map iD))]) hd' (by omega) (by omega) rfl
      obtain ⟨r, rfl⟩ := nat_ge r0
      obtain ⟨d, hdl⟩ : ∃ d, left[r]? = some d := ⟨_, List.getElem?_eq_getElem (by omega)⟩
      have hdl' : (left.map iD)[r]? = some (iD d) := by rw [List.getElem?_map, hdl]; rfl
      have e2 := en (mFn gLen (mCons (mVar 2) mNil)) (by
        rw [List.set_cons_zero, ← hl, show left.length = (left.map iD).length by rw [List.length_map]]
        rfl)
      rw [List.set_cons_zero] at e2
      have e3 := pop_of (j := 2) (ma := mCons (mBin gMod (mFn gInt (mCons (mFz (mCallIo 0 m__law_next (mCons (mVar 0) mNil))) mNil)) (mFn gLen (mCons (mVar 2) mNil))) mNil) (env := [some (.ow ds'), some (.fz (.int n)), some (.ow (left.map iD)), some (.ow (xs.map iD))]) (ds0 := left.map iD) (ds := left.map iD) rfl (cons_of e2 rfl) rfl hdl' (by rw [List.length_map]; omega)
      rw [List.set_cons_succ, List.set_cons_succ, List.set_cons_zero, map_erase] at e3
      refine Ends.of ((app_of (ds0 := xs.map iD) (ds := xs.map iD) (d := iD d) rfl (cons_of e3 rfl) rfl rfl (by rw [List.length_map]; omega)).trans rfl) ⟨rfl, ds2, left.eraseIdx r, xs ++ [d], by rw [List.map_append]; rfl, ?_, ?_, ?_⟩
      · rw [List.length_eraseIdx, if_pos (by omega)]
        omega
      · rw [List.append_assoc]
        exact (List.Perm.append_left xs (perm_erase hdl).symm).trans hp
      · rw [List.length_append, List.length_singleton]
        exact hd2.mono (by omega)
  · rintro e ⟨ds', names, xs, rfl, hp, hd'⟩
    refine Ends.of rfl ⟨_, _, rfl, rfl, ds', xs, rfl, rfl, hd', ?_, ?_, fun x hx => List.mem_range.mp (hp.mem_iff.mp hx)⟩
    · rw [hp.length_eq, List.length_range]
    · exact hp.nodup_iff.mpr List.nodup_range
theorem ends_while2 {mc : MT} {mb : MS} {Q : Ctl → En → Prop} (J : Nat → En → Prop) (hs : ∀ k e, J k e → (∃ e1, mc e = some (false, e1) ∧ Q .nx e1) ∨ ∃ e1, mc e = some (true, e1) ∧ ∃ k', k' < k ∧ Ends mb e1 fun c e2 => c = .nx ∧ J k' e2) :
    ∀ (n k : Nat) (env : En), k < n → J k env → Ends (mWhile mc mb n) env Q
  | 0, k, env, hk, _ => absurd hk (Nat.not_lt_zero _)
  | n + 1, k, env, hk, h => by
    rcases hs k env h with ⟨e1, h1, h2⟩ | ⟨e1, h1, k', hk', c, e2, h2, rfl, h3⟩
    · refine ⟨.nx, e1, ?_, h2⟩
      unfold mWhile
      simp only [h1]
    · obtain ⟨c, e3, h4, h5⟩ := ends_while2 J hs n k' e2 (by omega) h3
      refine ⟨c, e3, ?_, h5⟩
      unfold mWhile
      simp only [h1, h2]
      exact h4
theorem gt_of {ma mb : ME} {env e e2 : En} {i j : Int} (h : ma env = some (.val (.int i), e)) (h2 : mb e = some (.val (.int j), e2)) : mT (mBin (gI0 fun i j => .bool (decide (j < i))) ma mb) env = some (decide (j < i), e2) := tst_of (op2_of h h2)
/-- a row with its items put in otherwise -/
theorem run_inserted {n : Nat} {f : Nat → Nat → Int} {xs : List Nat} (hn : n ≤ 12) (hx : IsRow n xs) :
    ∃ r os', m__law_inserted [.fz (sqD n f), .fz (.list (xs.map iD))] = some (r, os') ∧ ∃ ys, r = .fz (.list (ys.map iD)) ∧ IsRow n ys := by
  refine mDef_rt rfl ?_
  have hz : 1000 ≤ sizeLine := by decide
  obtain ⟨hl, hnd, hb⟩ := hx
  refine Ends.step (e := [some (.fz (sqD n f)), some (.fz (.list (xs.map iD))), some (.fz (.list [])), none, none]) rfl ?_
  refine Ends.seq (P := fun e => ∃ zs x3 x4, e = [some (.fz (sqD n f)), some (.fz (.list (xs.map iD))), some (.fz (.list (zs.map iD))), x3, x4] ∧ List.Perm zs xs) ?_ ?_
  · refine Ends.loop (ds := xs.map iD) (fun i e => ∃ zs x3 x4, e = [some (.fz (sqD n f)), some (.fz (.list (xs.map iD))), some (.fz (.list (zs.map iD))), x3, x4] ∧ List.Perm zs (xs.take i)) (itl_of rfl) ⟨[], none, none, rfl, .refl _⟩ ?_ ?_
    · rintro i d hi e ⟨zs, x3, x4, rfl, hp⟩
      rw [List.getElem?_map] at hi
      cases hxi : xs[i]? with
      | none => rw [hxi] at hi; cases hi
      | some x =>
        rw [hxi] at hi
        cases hi
        have hxn : x < n := hb x (List.mem_of_getElem? hxi)
        have hzl : zs.length ≤ 12 := by
          have := hp.length_eq
          rw [List.length_take] at this
          omega
        have hzb : ∀ z ∈ zs, z < n := fun z h => hb z (List.mem_of_mem_take (hp.mem_iff.mp h))
        refine ⟨[some (.fz (sqD n f)), some (.fz (.list (xs.map iD))), some (.fz (.list (zs.map iD))), some (.fz (iD x)), x4], rfl, ?_⟩
        refine Ends.step (e := [some (.fz (sqD n f)), some (.fz (.list (xs.map iD))), some (.fz (.list (zs.map iD))), some (.fz (iD x)), some (.fz (iD zs.length))]) ((asg_of (len_fz rfl) rfl).trans (by rw [List.length_map]; rfl)) ?_
        refine Ends.seq (P := fun e => ∃ p, p ≤ zs.length ∧ e = [some (.fz (sqD n f)), some (.fz (.list (xs.map iD))), some (.fz (.list (zs.map iD))), some (.fz (iD x)), some (.fz (iD p))]) ?_ ?_
        · refine ends_while2 (fun p e => p ≤ zs.length ∧ e = [some (.fz (sqD n f)), some (.fz (.list (xs.map iD))), some (.fz (.list (zs.map iD))), some (.fz (iD x)), some (.fz (iD p))]) ?_ 1000 zs.length _ (by omega) ⟨Nat.le_refl _, rfl⟩
          rintro p e ⟨hpl, rfl⟩
          have t1 := gt_of (ma := mVar 4) (mb := mC (.int 0)) (i := (p : Nat)) (j := 0) (env := [some (.fz (sqD n f)), some (.fz (.list (xs.map iD))), some (.fz (.list (zs.map iD))), some (.fz (iD x)), some (.fz (iD p))]) rfl rfl
          cases p with
          | zero =>
            rw [show decide ((0 : Int) < ((0 : Nat) : Int)) = false from rfl] at t1
            exact .inl ⟨_, and_ff t1, rfl, 0, hpl, rfl⟩
          | succ p =>
            rw [decide_eq_true (by omega)] at t1
            have hz' : ∃ z, zs[p]? = some z := ⟨_, List.getElem?_eq_getElem (by omega)⟩
            obtain ⟨z, hz'⟩ := hz'
            have hzn := hzb z (List.mem_of_getElem? hz')
            have e0 : mBin (gI0 fun i j => .int (i - j)) (mVar 4) (mC (.int 1)) [some (.fz (sqD n f)), some (.fz (.list (xs.map iD))), some (.fz (.list (zs.map iD))), some (.fz (iD x)), some (.fz (iD (p + 1)))] = some (.val (.int (p : Nat)), [some (.fz (sqD n f)), some (.fz (.list (xs.map iD))), some (.fz (.list (zs.map iD))), some (.fz (iD x)), some (.fz (iD (p + 1)))]) :=
              (op2_of (i := ((p + 1 : Nat) : Int)) (j := 1) rfl rfl).trans (by rw [show (((p + 1 : Nat) : Int) - 1) = (p : Nat) by omega])
            have e1 := ix_fz (k := 2) (j := p) (ds := zs.map iD) (d := iD z) (mi := mBin (gI0 fun i j => .int (i - j)) (mVar 4) (mC (.int 1))) rfl e0 (by rw [List.getElem?_map, hz']; rfl)
            have t2 := tst_of (eq_int (neg := false) (ix2_row (k := 0) (n := n) (g := f) (mi := mVar 3) (i := x) (j := z) rfl hxn hzn rfl e1) neg1)
            cases hc : (false ^^ (f x z == -1)) with
            | false =>
              rw [hc] at t2
              exact .inl ⟨_, and_tt t1 t2, rfl, p + 1, hpl, rfl⟩
            | true =>
              rw [hc] at t2
              exact .inr ⟨_, and_tt t1 t2, p, by omega, Ends.of ((asg_of e0 rfl).trans rfl) ⟨rfl, by omega, rfl⟩⟩
        · rintro e ⟨p, hpl, rfl⟩
          have c1 : mLE (mSl (mVar 2) mNoPart (mPart (mVar 4))) [some (.fz (sqD n f)), some (.fz (.list (xs.map iD))), some (.fz (.list (zs.map iD))), some (.fz (iD x)), some (.fz (iD p))] = some (.val (.list ((zs.map iD).take p)), [some (.fz (sqD n f)), some (.fz (.list (xs.map iD))), some (.fz (.list (zs.map iD))), some (.fz (iD x)), some (.fz (iD p))]) :=
            lE_of ((sl_of (lo := none) (hi := some ((p : Nat) : Int)) (ds := zs.map iD) rfl rfl rfl rfl).trans (by rw [cut_to']))
          have c2 : mLE (mSl (mVar 2) (mPart (mVar 4)) mNoPart) [some (.fz (sqD n f)), some (.fz (.list (xs.map iD))), some (.fz (.list (zs.map iD))), some (.fz (iD x)), some (.fz (iD p))] = some (.val (.list ((zs.map iD).drop p)), [some (.fz (sqD n f)), some (.fz (.list (xs.map iD))), some (.fz (.list (zs.map iD))), some (.fz (iD x)), some (.fz (iD p))]) :=
            lE_of ((sl_of (lo := some ((p : Nat) : Int)) (hi := none) (ds := zs.map iD) rfl rfl rfl rfl).trans (by rw [cut_from (by rw [List.length_map]; exact hpl)]))
          have l1 : ((zs.map iD).take p).length ≤ 12 := by rw [List.length_take, List.length_map]; omega
          have l2 : ((zs.map iD).drop p).length ≤ 12 := by rw [List.length_drop, List.length_map]; omega
          have c3 := cat_of (cat_of' c1 (ds_one (ma := mVar 3) (a := iD x) rfl) (by rw [List.length_singleton]; omega)) c2 (by rw [List.length_append, List.length_singleton]; omega)
          refine Ends.of ((asg_of (lE_of c3) rfl).trans rfl) ⟨rfl, zs.take p ++ [x] ++ zs.drop p, some (.fz (iD x)), some (.fz (iD p)), ?_, ?_⟩
          · rw [List.map_append, List.map_append, List.map_take, List.map_drop]
            rfl
          · have q : List.Perm (zs.take p ++ [x] ++ zs.drop p) (zs ++ [x]) := by
              rw [List.append_assoc]
              refine (List.Perm.append_left _ (List.perm_append_comm (l₁ := [x]))).trans ?_
              rw [← List.append_assoc, List.take_append_drop]
            refine q.trans ((List.Perm.append_right [x] hp).trans ?_)
            rw [List.take_add_one, hxi]
            exact .refl _
    · rintro e ⟨zs, x3, x4, rfl, hp⟩
      rw [List.length_map, List.take_length] at hp
      exact ⟨rfl, zs, x3, x4, rfl, hp⟩
  · rintro e ⟨zs, x3, x4, rfl, hp⟩
    exact Ends.of rfl ⟨_, _, rfl, rfl, zs, rfl, by rw [hp.length_eq, hl], hp.nodup_iff.mpr hnd, fun z h => hb z (hp.mem_iff.mp h)⟩
where
  cat_of' {ma mb : ME} {env e e2 : En} {xs ys : List PyData} (h : ma env = some (.val (.list xs), e)) (h2 : mb e = some (.val (.list ys), e2)) (hz : xs.length + ys.length ≤ sizeLine) : mLE (mBinL gCat ma mb) env = some (.val (.list (xs ++ ys)), e2) := lE_of (cat_of h h2 hz)
end My
namespace My
open PySem PySem.Spec L2 Tr
def hasD (seen : List PyData) (d : PyData) : Bool := seen.any fun y => PyData.eqv y d
def okD (n : Nat) (seen : List PyData) (d : PyData) : Bool := isItem n d && !hasD seen d
/-- the first wrong place of ds, behind seen -/
def rb (n : Nat) : List PyData → List PyData → Option Nat
  | _, [] => none
  | seen, d :: r => if okD n seen d then rb n (seen ++ [d]) r else some seen.length
theorem item_flat {n : Nat} {d : PyData} (h : isItem n d = true) : flat d = true := by
  cases d <;> first | rfl | cases h
theorem chk_row {n : Nat} {f : Nat → Nat → Int} {seen r : List PyData} {d : PyData} (h : ∀ x ∈ seen, isItem n x = true) :
    mOr (mNot (mT (mFz (mCall m_is_item (mCons (mVar 2) (mCons (mVar 4) mNil)))))) (mT (mBin (gIn false) (mVar 4) (mLE (mSl (mVar 1) mNoPart (mPart (mVar 3)))))) [some (.fz (sqD n f)), some (.fz (.list (seen ++ d :: r))), some (.fz (.int n)), some (.fz (.int seen.length)), some (.fz d)]
      = some (!okD n seen d, [some (.fz (sqD n f)), some (.fz (.list (seen ++ d :: r))), some (.fz (.int n)), some (.fz (.int seen.length)), some (.fz d)]) := by
  have t1 := not_of (tst_of (fz_of (call_of (ps := [.val (.int n), .val d]) (os := [.fz (.int n), .fz d]) (ma := mCons (mVar 2) (mCons (mVar 4) mNil)) (env := [some (.fz (sqD n f)), some (.fz (.list (seen ++ d :: r))), some (.fz (.int n)), some (.fz (.int seen.length)), some (.fz d)]) rfl rfl (item_any n d)) (d := .bool (isItem n d)) rfl))
  unfold okD
  cases hd : isItem n d with
  | false =>
    rw [hd] at t1
    exact or_tt t1
  | true =>
    rw [hd] at t1
    refine (or_ff t1 (tst_of (b := hasD seen d) (e := [some (.fz (sqD n f)), some (.fz (.list (seen ++ d :: r))), some (.fz (.int n)), some (.fz (.int seen.length)), some (.fz d)]) ?_)).trans (by simp)
    have c : mLE (mSl (mVar 1) mNoPart (mPart (mVar 3))) [some (.fz (sqD n f)), some (.fz (.list (seen ++ d :: r))), some (.fz (.int n)), some (.fz (.int seen.length)), some (.fz d)] = some (.val (.list seen), [some (.fz (sqD n f)), some (.fz (.list (seen ++ d :: r))), some (.fz (.int n)), some (.fz (.int seen.length)), some (.fz d)]) :=
      lE_of ((sl_of (lo := none) (hi := some ((seen.length : Nat) : Int)) (ds := seen ++ d :: r) rfl rfl rfl rfl).trans (by rw [cut_to', List.take_left]))
    have v : mVar 4 [some (.fz (sqD n f)), some (.fz (.list (seen ++ d :: r))), some (.fz (.int n)), some (.fz (.int seen.length)), some (.fz d)] = some (.val d, [some (.fz (sqD n f)), some (.fz (.list (seen ++ d :: r))), some (.fz (.int n)), some (.fz (.int seen.length)), some (.fz d)]) := rfl
    have fl : (flat d && seen.all flat) = true := by
      rw [item_flat hd, Bool.true_and, List.all_eq_true]
      exact fun x hx => item_flat (h x hx)
    unfold mBin bnd
    simp only [v, c, gIn, sqT, sq, fl, if_true, Option.map_some, Bool.false_xor]
    rfl
abbrev rowBody : MS := mIf (mOr (mNot (mT (mFz (mCall m_is_item (mCons (mVar 2) (mCons (mVar 4) mNil)))))) (mT (mBin (gIn false) (mVar 4) (mLE (mSl (mVar 1) mNoPart (mPart (mVar 3))))))) mNever mNext
abbrev rowBodyX : MX := mIf (mOr (mNot (mT (mFz (mCall m_is_item (mCons (mVar 2) (mCons (mVar 4) mNil)))))) (mT (mBin (gIn false) (mVar 4) (mLE (mSl (mVar 1) mNoPart (mPart (mVar 3))))))) (xRaise 0 (mCons (mVar 3) mNil)) (xLift mNext)
theorem row_go {n : Nat} {f : Nat → Nat → Int} : ∀ (ds seen : List PyData) (x3 x4 : Option O), (∀ x ∈ seen, isItem n x = true) → rb n seen ds = none →
    Ends (mForGo (mgT [3, 4]) rowBody (enF seen.length ds)) [some (.fz (sqD n f)), some (.fz (.list (seen ++ ds))), some (.fz (.int n)), x3, x4] fun c e => c = .nx ∧ ∃ x3 x4, e = [some (.fz (sqD n f)), some (.fz (.list (seen ++ ds))), some (.fz (.int n)), x3, x4]
  | [], seen, x3, x4, _, _ => Ends.of rfl ⟨rfl, _, _, rfl⟩
  | d :: r, seen, x3, x4, h, hb => by
    unfold rb at hb
    by_cases ho : okD n seen d = true
    · rw [if_pos ho] at hb
      have hi : isItem n d = true := (Bool.and_eq_true_iff.mp ho).1
      have t := chk_row (f := f) (r := r) (d := d) h
      rw [ho] at t
      have ih := row_go (f := f) r (seen ++ [d]) (some (.fz (.int seen.length))) (some (.fz d)) (fun x hx => by
        rcases List.mem_append.mp hx with z | z
        · exact h x z
        · cases List.mem_singleton.mp z; exact hi) hb
      rw [List.length_append, List.length_singleton, List.append_assoc, List.singleton_append] at ih
      obtain ⟨c, e, h1, h2⟩ := ih
      refine ⟨c, e, ?_, h2⟩
      show mForGo _ _ (.tuple [.int seen.length, d] :: enF (seen.length + 1) r) _ = _
      have e1 : mgT [3, 4] (.tuple [.int seen.length, d]) [some (.fz (sqD n f)), some (.fz (.list (seen ++ d :: r))), some (.fz (.int n)), x3, x4] = some [some (.fz (sqD n f)), some (.fz (.list (seen ++ d :: r))), some (.fz (.int n)), some (.fz (.int seen.length)), some (.fz d)] := rfl
      have e3 : rowBody [some (.fz (sqD n f)), some (.fz (.list (seen ++ d :: r))), some (.fz (.int n)), some (.fz (.int seen.length)), some (.fz d)] = some (.nx, [some (.fz (sqD n f)), some (.fz (.list (seen ++ d :: r))), some (.fz (.int n)), some (.fz (.int seen.length)), some (.fz d)]) := if_no t rfl
      unfold mForGo
      simp only [e1, e3]
      exact h1
    · rw [if_neg ho] at hb
      cases hb
theorem xrow_go {n b : Nat} {f : Nat → Nat → Int} : ∀ (ds seen : List PyData) (x3 x4 : Option O), (∀ x ∈ seen, isItem n x = true) → rb n seen ds = some b →
    ∃ e, xForGo (mgT [3, 4]) rowBodyX (enF seen.length ds) [some (.fz (sqD n f)), some (.fz (.list (seen ++ ds))), some (.fz (.int n)), x3, x4] = some (.ex 0 (.int b), e)
  | [], seen, x3, x4, _, hb => by cases hb
  | d :: r, seen, x3, x4, h, hb => by
    unfold rb at hb
    have t := chk_row (f := f) (r := r) (d := d) h
    have e1 : mgT [3, 4] (.tuple [.int seen.length, d]) [some (.fz (sqD n f)), some (.fz (.list (seen ++ d :: r))), some (.fz (.int n)), x3, x4] = some [some (.fz (sqD n f)), some (.fz (.list (seen ++ d :: r))), some (.fz (.int n)), some (.fz (.int seen.length)), some (.fz d)] := rfl
    by_cases ho : okD n seen d = true
    · rw [if_pos ho] at hb
      have hi : isItem n d = true := (Bool.and_eq_true_iff.mp ho).1
      rw [ho] at t
      have ih := xrow_go (f := f) r (seen ++ [d]) (some (.fz (.int seen.length))) (some (.fz d)) (fun x hx => by
        rcases List.mem_append.mp hx with z | z
        · exact h x z
        · cases List.mem_singleton.mp z; exact hi) hb
      rw [List.length_append, List.length_singleton, List.append_assoc, List.singleton_append] at ih
      obtain ⟨e, h1⟩ := ih
      refine ⟨e, ?_⟩
      show xForGo _ _ (.tuple [.int seen.length, d] :: enF (seen.length + 1) r) _ = _
      have e3 : rowBodyX [some (.fz (sqD n f)), some (.fz (.list (seen ++ d :: r))), some (.fz (.int n)), some (.fz (.int seen.length)), some (.fz d)] = some (.c .nx, [some (.fz (sqD n f)), some (.fz (.list (seen ++ d :: r))), some (.fz (.int n)), some (.fz (.int seen.length)), some (.fz d)]) := xif_no t rfl
      unfold xForGo
      simp only [e1, e3]
      exact h1
    · rw [if_neg ho] at hb
      cases hb
      refine ⟨[some (.fz (sqD n f)), some (.fz (.list (seen ++ d :: r))), some (.fz (.int n)), some (.fz (.int seen.length)), some (.fz d)], ?_⟩
      show xForGo _ _ (.tuple [.int seen.length, d] :: enF (seen.length + 1) r) _ = _
      rw [Bool.eq_false_iff.mpr ho] at t
      have e3 : rowBodyX [some (.fz (sqD n f)), some (.fz (.list (seen ++ d :: r))), some (.fz (.int n)), some (.fz (.int seen.length)), some (.fz d)] = some (.ex 0 (.int seen.length), [some (.fz (sqD n f)), some (.fz (.list (seen ++ d :: r))), some (.fz (.int n)), some (.fz (.int seen.length)), some (.fz d)]) := xif_yes t rfl
      unfold xForGo
      simp only [e1, e3]
/-- where a thing is wrong as a row: None, or the first place -/
def wrongR (n : Nat) : PyData → Option PyData
  | .list ds => if ds.length = n then (rb n [] ds).map (fun k : Nat => PyData.int k) else some .none
  | _ => some .none
theorem len_var {k : Nat} {env : En} {ds : List PyData} (h : env[k]? = some (some (.fz (.list ds)))) : mFn gLen (mCons (mVar k) mNil) env = some (.val (.int (ds.length : Nat)), env) := len_fz h
theorem ne_int {ma mb : ME} {env e e2 : En} {i j : Nat} (h : ma env = some (.val (.int i), e)) (h2 : mb e = some (.val (.int j), e2)) : mT (mBin (gEq true) ma mb) env = some (!decide (i = j), e2) := by
  have t := tst_of (eq_int (neg := true) h h2)
  rw [Bool.true_xor] at t
  rw [t]
  by_cases e : i = j
  · subst e; simp
  · have : ¬ ((i : Int) = (j : Int)) := fun z => e (Int.ofNat.inj z)
    simp [e, this]
theorem run_row {n : Nat} {f : Nat → Nat → Int} {ds : List PyData} (hl : ds.length = n) (hb : rb n [] ds = none) : ∃ os', m_check_row [.fz (sqD n f), .fz (.list ds)] = some (.fz .none, os') := by
  have : ∃ r os', m_check_row [.fz (sqD n f), .fz (.list ds)] = some (r, os') ∧ r = .fz .none := by
    refine mDef_nx rfl ?_
    refine Ends.step (e := [some (.fz (sqD n f)), some (.fz (.list ds)), some (.fz (.int n)), none, none]) ((asg_of (len_sq rfl) rfl).trans rfl) ?_
    have t1 : mNot (mT (mIsi "list" (mVar 1))) [some (.fz (sqD n f)), some (.fz (.list ds)), some (.fz (.int n)), none, none] = some (false, [some (.fz (sqD n f)), some (.fz (.list ds)), some (.fz (.int n)), none, none]) := (not_of (tst_of (isi_of (d := .list ds) rfl))).trans rfl
    have t2 := ne_int (mb := mVar 2) (i := ds.length) (j := n) (len_var (k := 1) (ds := ds) (env := [some (.fz (sqD n f)), some (.fz (.list ds)), some (.fz (.int n)), none, none]) rfl) rfl
    rw [decide_eq_true hl] at t2
    refine Ends.step (e := [some (.fz (sqD n f)), some (.fz (.list ds)), some (.fz (.int n)), none, none]) (if_no (or_ff t1 t2) rfl) ?_
    obtain ⟨c, e, h1, rfl, x3, x4, rfl⟩ := row_go (f := f) ds [] none none (fun _ z => nomatch z) hb
    exact Ends.of (by unfold mFor bnd; rw [enum_ls rfl]; exact h1) ⟨rfl, _, rfl, rfl⟩
  obtain ⟨r, os', h1, rfl⟩ := this
  exact ⟨os', h1⟩
theorem xrow {n : Nat} {f : Nat → Nat → Int} {d w : PyData} (h : wrongR n d = some w) : x_check_row [.fz (sqD n f), .fz d] = some (.ex 0 w) := by
  have s0 : xLift (mAsg (mFn gLen (mCons (mVar 0) mNil)) (mgN 2)) [some (.fz (sqD n f)), some (.fz d), none, none, none] = some (.c .nx, [some (.fz (sqD n f)), some (.fz d), some (.fz (.int n)), none, none]) := xLift_of ((asg_of (len_sq rfl) rfl).trans rfl)
  have no : isT "list" d = false → x_check_row [.fz (sqD n f), .fz d] = some (.ex 0 .none) := fun h1 => by
    refine xDef_ex (e := [some (.fz (sqD n f)), some (.fz d), some (.fz (.int n)), none, none]) rfl ((xSeq_nx s0).trans ?_)
    have t := not_of (tst_of (isi_of (T := "list") (k := 1) (env := [some (.fz (sqD n f)), some (.fz d), some (.fz (.int n)), none, none]) (d := d) rfl))
    rw [h1] at t
    exact xSeq_ex (xif_yes (or_tt t) rfl)
  cases d with
  | list ds =>
    have t1 : mNot (mT (mIsi "list" (mVar 1))) [some (.fz (sqD n f)), some (.fz (.list ds)), some (.fz (.int n)), none, none] = some (false, [some (.fz (sqD n f)), some (.fz (.list ds)), some (.fz (.int n)), none, none]) := (not_of (tst_of (isi_of (d := .list ds) rfl))).trans rfl
    have t2 := ne_int (mb := mVar 2) (i := ds.length) (j := n) (len_var (k := 1) (ds := ds) (env := [some (.fz (sqD n f)), some (.fz (.list ds)), some (.fz (.int n)), none, none]) rfl) rfl
    replace h : (if ds.length = n then (rb n [] ds).map (fun k : Nat => PyData.int k) else some .none) = some w := h
    by_cases hl : ds.length = n
    · rw [if_pos hl] at h
      rw [decide_eq_true hl] at t2
      cases hb : rb n [] ds with
      | none => rw [hb] at h; cases h
      | some b =>
        rw [hb] at h
        cases h
        obtain ⟨e, h1⟩ := xrow_go (f := f) ds [] none none (fun _ z => nomatch z) hb
        refine xDef_ex (e := e) rfl ((xSeq_nx s0).trans ((xSeq_nx (e := [some (.fz (sqD n f)), some (.fz (.list ds)), some (.fz (.int n)), none, none]) (xif_no (or_ff t1 t2) rfl)).trans ?_))
        unfold xFor bnd
        rw [enum_ls rfl]
        exact h1
    · rw [if_neg hl] at h
      cases h
      rw [decide_eq_false hl] at t2
      exact xDef_ex (e := [some (.fz (sqD n f)), some (.fz (.list ds)), some (.fz (.int n)), none, none]) rfl ((xSeq_nx s0).trans (xSeq_ex (xif_yes (or_ff t1 t2) rfl)))
  | _ =>
    cases h
    exact no rfl
theorem xplace {n : Nat} {f : Nat → Nat → Int} {d w : PyData} (hn : n ≤ 12) (hf : Skew n f) (h : wrongR n d = some w) : x_wrong_place [.fz (sqD n f), .fz d] = some (.ex 0 w) := by
  obtain ⟨_, _, e1, rfl, rfl⟩ := run_check hn hf
  refine xDef_ex (e := [some (.fz (sqD n f)), some (.fz d)]) rfl ((xSeq_nx (e := [some (.fz (sqD n f)), some (.fz d)]) (xLift_of (drop_of (fz_of (call_of (ps := [.val (sqD n f)]) (os := [.fz (sqD n f)]) rfl rfl e1) rfl)))).trans ?_)
  exact xSeq_ex (xcall_ex (ps := [.val (sqD n f), .val d]) (os := [.fz (sqD n f), .fz d]) rfl rfl (xrow h))
/-- a call of _law_kept -/
theorem told_of {n : Nat} {f : Nat → Nat → Int} {d w : PyData} (hn : n ≤ 12) (hf : Skew n f) (h : wrongR n d = some w) (hw : isTup w = false ∧ reprOk w = true ∧ deepD w ≤ 60 ∧ (reprD w).length ≤ sizeLine) :
    ∃ os', m__law_kept [.fz (sqD n f), .fz d] = some (.fz (.str (reprD w)), os') := by
  have : ∃ r os', m__law_kept [.fz (sqD n f), .fz d] = some (r, os') ∧ r = .fz (.str (reprD w)) := by
    refine mDef_rt rfl ?_
    refine Ends.step (e := [some (.fz (sqD n f)), some (.fz d), some (.fz .none), none]) rfl ?_
    refine Ends.of (c := .rt (.fz (.str (reprD w)))) (e := [some (.fz (sqD n f)), some (.fz d), none, none]) ?_ ⟨_, _, rfl, rfl, rfl⟩
    unfold mTryRet bnd
    have e1 : mCons (mVar 0) (mCons (mVar 1) mNil) [some (.fz (sqD n f)), some (.fz d), some (.fz .none), none] = some ([.val (sqD n f), .val d], [some (.fz (sqD n f)), some (.fz d), some (.fz .none), none]) := rfl
    have e2 : prepA none [.val (sqD n f), .val d] [some (.fz (sqD n f)), some (.fz d), some (.fz .none), none] = some ([.fz (sqD n f), .fz d], [some (.fz (sqD n f)), some (.fz d), some (.fz .none), none]) := rfl
    simp only [e1, e2, xplace hn hf h, List.getElem?_cons_succ, List.getElem?_cons_zero]
    rw [if_pos ⟨trivial, by decide, by simp, hw⟩]
    rfl
  obtain ⟨r, os', h1, rfl⟩ := this
  exact ⟨os', h1⟩
end My
namespace My
open PySem PySem.Spec L2 Tr
/-! rows and their wrong places -/
theorem eqv_iD (a b : Nat) : PyData.eqv (iD a) (iD b) = (a == b) := by
  show PyData.eqv (.int (a : Nat)) (.int (b : Nat)) = _
  rw [eqv_int]
  by_cases h : a = b
  · subst h; simp
  · have : ¬ ((a : Int) = (b : Int)) := fun z => h (Int.ofNat.inj z)
    rw [beq_eq_false_iff_ne.mpr h, beq_eq_false_iff_ne.mpr this]
theorem has_no {seen : List Nat} {x : Nat} (h : x ∉ seen) : hasD (seen.map iD) (iD x) = false := by
  unfold hasD
  rw [List.any_map, List.any_eq_false]
  intro y hy
  show ¬ (PyData.eqv (iD y) (iD x) = true)
  rw [eqv_iD, beq_iff_eq]
  intro z
  exact h (z ▸ hy)
theorem has_yes {seen : List Nat} {x : Nat} (h : x ∈ seen) : hasD (seen.map iD) (iD x) = true := by
  unfold hasD
  rw [List.any_map, List.any_eq_true]
  refine ⟨x, h, ?_⟩
  show PyData.eqv (iD x) (iD x) = true
  rw [eqv_iD]
  simp
theorem rb_ok {n : Nat} : ∀ (xs seen : List Nat), (seen ++ xs).Nodup → (∀ x ∈ xs, x < n) → rb n (seen.map iD) (xs.map iD) = none
  | [], _, _, _ => rfl
  | x :: r, seen, h, hb => by
    have nx : x ∉ seen := fun z => by
      have := (List.nodup_append.mp h).2.2 x z x (by simp)
      exact this rfl
    show rb n (seen.map iD) (iD x :: r.map iD) = none
    unfold rb
    rw [if_pos (by unfold okD; rw [item_i (hb x (by simp)), has_no nx]; rfl)]
    have := rb_ok (n := n) r (seen ++ [x]) (by rw [List.append_assoc]; exact h) fun y hy => hb y (by simp [hy])
    rw [List.map_append] at this
    exact this
/-- .. and then something that is none, or stood before -/
theorem rb_bad {n : Nat} {b : PyData} {post : List PyData} : ∀ (xs seen : List Nat), (seen ++ xs).Nodup → (∀ x ∈ xs, x < n) → okD n ((seen ++ xs).map iD) b = false → rb n (seen.map iD) (xs.map iD ++ b :: post) = some (seen ++ xs).length
  | [], seen, _, _, hb => by
    rw [List.append_nil] at hb ⊢
    show rb n (seen.map iD) (b :: post) = _
    unfold rb
    rw [if_neg (by rw [hb]; exact Bool.false_ne_true), List.length_map]
  | x :: r, seen, h, hx, hb => by
    have nx : x ∉ seen := fun z => by
      have := (List.nodup_append.mp h).2.2 x z x (by simp)
      exact this rfl
    show rb n (seen.map iD) (iD x :: (r.map iD ++ b :: post)) = _
    unfold rb
    rw [if_pos (by unfold okD; rw [item_i (hx x (by simp)), has_no nx]; rfl)]
    have := rb_bad (n := n) (b := b) (post := post) r (seen ++ [x]) (by rw [List.append_assoc]; exact h) (fun y hy => hx y (by simp [hy])) (by rw [List.append_assoc]; exact hb)
    rw [List.map_append, List.append_assoc] at this
    exact this
theorem wrong_list {n : Nat} {pre : List Nat} {b : PyData} {post : List PyData} (h : pre.Nodup) (hx : ∀ x ∈ pre, x < n) (hb : isItem n b = false ∨ ∃ x ∈ pre, b = iD x) (hl : (pre.map iD ++ b :: post).length = n) : wrongR n (.list (pre.map iD ++ b :: post)) = some (.int (pre.length : Nat)) := by
  show (if (pre.map iD ++ b :: post).length = n then (rb n [] (pre.map iD ++ b :: post)).map (fun k : Nat => PyData.int k) else some .none) = _
  rw [if_pos hl]
  have := rb_bad (n := n) (b := b) (post := post) pre [] h hx (by
    rw [List.nil_append]
    unfold okD
    rcases hb with hb | ⟨x, hx', rfl⟩
    · rw [hb]; rfl
    · rw [has_yes hx', Bool.not_true, Bool.and_false])
  rw [show ([] : List Nat).map iD = [] from rfl, List.nil_append] at this
  rw [this]
  rfl
theorem wrong_len {n : Nat} {ds : List PyData} (h : ds.length ≠ n) : wrongR n (.list ds) = some .none := if_neg h
/-! wrong_place of a row -/
def wr (f : Nat → Nat → Int) (xs : List Nat) (p : Nat) : Bool := match xs[p]?, xs[p + 1]? with
  | some a, some b => f b a == -1
  | _, _ => false
def hdD : List Nat → PyData
  | [] => .none
  | p :: _ => iD p
theorem run_may {n x y : Nat} (f : Nat → Nat → Int) (hf : Skew n f) (hx : x < n) (hy : y < n) : m_may_precede [.fz (sqD n f), .fz (iD x), .fz (iD y)] = some (.fz (.bool (!(f y x == -1))), [.fz (sqD n f), .fz (iD x), .fz (iD y)]) := by
  have e := ix2_row (k := 0) (n := n) (g := f) (mi := mVar 1) (mj := mVar 2) (env := [some (.fz (sqD n f)), some (.fz (iD x)), some (.fz (iD y))]) (i := x) (j := y) rfl hx hy rfl rfl
  have t := eq_int (neg := true) e (mb := mC (.int 1)) (j := 1) rfl
  have q : (true ^^ (f x y == 1)) = !(f y x == -1) := by
    rw [Bool.true_xor, hf.2 x y]
    congr 1
    by_cases h : f x y = 1
    · rw [h]; rfl
    · rw [beq_eq_false_iff_ne.mpr h, beq_eq_false_iff_ne.mpr (by omega)]
  rw [q] at t
  unfold m_may_precede mDef
  simp only [List.length_cons, List.length_nil, if_true]
  have r := ret_of t rfl
  show (match mRet _ [some (.fz (sqD n f)), some (.fz (iD x)), some (.fz (iD y))] with | some (.rt r, env) => _ | some (.nx, env) => _ | _ => none) = _
  rw [r]
  rfl
abbrev placeBody : MS := mIf (mNot (mT (mFz (mCall m_may_precede (mCons (mVar 0) (mCons (mBin gIx (mVar 1) (mVar 2)) (mCons (mBin gIx (mVar 1) (mBin (gI0 fun i j => .int (i + j)) (mVar 2) (mC (.int 1)))) mNil))))))) (mRet (mVar 2)) mNext
theorem place_test {n : Nat} {f : Nat → Nat → Int} {xs : List Nat} {p : Nat} (hf : Skew n f) (hx : ∀ x ∈ xs, x < n) (hp : p + 1 < xs.length) :
    mNot (mT (mFz (mCall m_may_precede (mCons (mVar 0) (mCons (mBin gIx (mVar 1) (mVar 2)) (mCons (mBin gIx (mVar 1) (mBin (gI0 fun i j => .int (i + j)) (mVar 2) (mC (.int 1)))) mNil)))))) [some (.fz (sqD n f)), some (.fz (.list (xs.map iD))), some (.fz (iD p))] = some (wr f xs p, [some (.fz (sqD n f)), some (.fz (.list (xs.map iD))), some (.fz (iD p))]) := by
  obtain ⟨a, ha⟩ : ∃ a, xs[p]? = some a := ⟨_, List.getElem?_eq_getElem (by omega)⟩
  obtain ⟨b, hb⟩ : ∃ b, xs[p + 1]? = some b := ⟨_, List.getElem?_eq_getElem hp⟩
  have e1 := ix_fz (k := 1) (j := p) (ds := xs.map iD) (d := iD a) (mi := mVar 2) (env := [some (.fz (sqD n f)), some (.fz (.list (xs.map iD))), some (.fz (iD p))]) rfl rfl (by rw [List.getElem?_map, ha]; rfl)
  have e0 : mBin (gI0 fun i j => .int (i + j)) (mVar 2) (mC (.int 1)) [some (.fz (sqD n f)), some (.fz (.list (xs.map iD))), some (.fz (iD p))] = some (.val (.int ((p + 1 : Nat) : Int)), [some (.fz (sqD n f)), some (.fz (.list (xs.map iD))), some (.fz (iD p))]) :=
    (op2_of (i := (p : Nat)) (j := 1) rfl rfl).trans (by rw [Int.natCast_add]; rfl)
  have e2 := ix_fz (k := 1) (j := p + 1) (ds := xs.map iD) (d := iD b) (env := [some (.fz (sqD n f)), some (.fz (.list (xs.map iD))), some (.fz (iD p))]) rfl e0 (by rw [List.getElem?_map, hb]; rfl)
  have t := not_of (tst_of (fz_of (call_of (ps := [.val (sqD n f), .val (iD a), .val (iD b)]) (os := [.fz (sqD n f), .fz (iD a), .fz (iD b)]) (cons_of (env := [some (.fz (sqD n f)), some (.fz (.list (xs.map iD))), some (.fz (iD p))]) (ma := mCons (mBin gIx (mVar 1) (mVar 2)) (mCons (mBin gIx (mVar 1) (mBin (gI0 fun i j => .int (i + j)) (mVar 2) (mC (.int 1)))) mNil)) (me := mVar 0) rfl (cons_of e1 (cons_of e2 rfl))) rfl (run_may f hf (hx a (List.mem_of_getElem? ha)) (hx b (List.mem_of_getElem? hb)))) (d := .bool (!(f b a == -1))) rfl))
  rw [Bool.not_not] at t
  refine t.trans ?_
  unfold wr
  rw [ha, hb]
theorem place_go {n : Nat} {f : Nat → Nat → Int} {xs : List Nat} (hf : Skew n f) (hx : ∀ x ∈ xs, x < n) : ∀ (ps : List Nat) (x2 : Option O), (∀ p ∈ ps, p + 1 < xs.length) →
    Ends (mForGo (mgN 2) placeBody (ps.map iD)) [some (.fz (sqD n f)), some (.fz (.list (xs.map iD))), x2] fun c e => (ps.filter (wr f xs) = [] ∧ c = .nx ∧ ∃ x2, e = [some (.fz (sqD n f)), some (.fz (.list (xs.map iD))), x2]) ∨ (ps.filter (wr f xs) ≠ [] ∧ c = .rt (.fz (hdD (ps.filter (wr f xs)))))
  | [], x2, _ => Ends.of rfl (.inl ⟨rfl, rfl, _, rfl⟩)
  | p :: r, x2, h => by
    have t := place_test hf hx (h p (by simp))
    have e1 : mgN 2 (iD p) [some (.fz (sqD n f)), some (.fz (.list (xs.map iD))), x2] = some [some (.fz (sqD n f)), some (.fz (.list (xs.map iD))), some (.fz (iD p))] := rfl
    cases hw : wr f xs p with
    | true =>
      rw [hw] at t
      have e2 : placeBody [some (.fz (sqD n f)), some (.fz (.list (xs.map iD))), some (.fz (iD p))] = some (.rt (.fz (iD p)), [some (.fz (sqD n f)), some (.fz (.list (xs.map iD))), some (.fz (iD p))]) := if_yes t rfl
      refine ⟨.rt (.fz (iD p)), [some (.fz (sqD n f)), some (.fz (.list (xs.map iD))), some (.fz (iD p))], ?_, .inr ?_⟩
      · show mForGo _ _ (iD p :: r.map iD) _ = _
        unfold mForGo
        simp only [e1, e2]
      · rw [List.filter_cons_of_pos hw]
        exact ⟨(fun z => nomatch z), rfl⟩
    | false =>
      rw [hw] at t
      have e2 : placeBody [some (.fz (sqD n f)), some (.fz (.list (xs.map iD))), some (.fz (iD p))] = some (.nx, [some (.fz (sqD n f)), some (.fz (.list (xs.map iD))), some (.fz (iD p))]) := if_no t rfl
      obtain ⟨c, e, h1, h2⟩ := place_go hf hx r (some (.fz (iD p))) fun q hq => h q (by simp [hq])
      refine ⟨c, e, ?_, ?_⟩
      · show mForGo _ _ (iD p :: r.map iD) _ = _
        unfold mForGo
        simp only [e1, e2]
        exact h1
      · rw [List.filter_cons_of_neg (by rw [hw]; exact Bool.false_ne_true)]
        exact h2
theorem rng_sub {ma : MA} {env e : En} {n : Nat} (h : ma env = some ([.val (.int ((n : Int) - 1))], e)) (hn : n < 1000000) : mRng1 ma env = some ((List.range (n - 1)).map iD, e) := by
  unfold mRng1 bnd
  simp only [h]
  rw [if_pos (by omega), show ((n : Int) - 1).toNat = n - 1 by omega, iD_map]
theorem run_break {n : Nat} {f : Nat → Nat → Int} {xs : List Nat} (hn : n ≤ 12) (hf : Skew n f) (hx : IsRow n xs) : ∃ os', m_first_break [.fz (sqD n f), .fz (.list (xs.map iD))] = some (.fz (hdD ((List.range (n - 1)).filter (wr f xs))), os') := by
  obtain ⟨hl, hnd, hb⟩ := hx
  have : ∃ r os', m_first_break [.fz (sqD n f), .fz (.list (xs.map iD))] = some (r, os') ∧ r = .fz (hdD ((List.range (n - 1)).filter (wr f xs))) := by
    refine mDef_rt rfl ?_
    have er : mRng1 (mCons (mBin (gI0 fun i j => .int (i - j)) (mFn gLen (mCons (mVar 1) mNil)) (mC (.int 1))) mNil) [some (.fz (sqD n f)), some (.fz (.list (xs.map iD))), none] = some ((List.range (n - 1)).map iD, [some (.fz (sqD n f)), some (.fz (.list (xs.map iD))), none]) :=
      rng_sub (n := n) (cons_of ((op2_of (len_var (k := 1) (ds := xs.map iD) rfl) rfl).trans (by rw [List.length_map, hl])) rfl) (by omega)
    obtain ⟨c, e, h1, h2⟩ := place_go hf hb (List.range (n - 1)) none (fun p hp => by have := List.mem_range.mp hp; omega)
    have hF : mFor (mRng1 (mCons (mBin (gI0 fun i j => .int (i - j)) (mFn gLen (mCons (mVar 1) mNil)) (mC (.int 1))) mNil)) (mgN 2) placeBody [some (.fz (sqD n f)), some (.fz (.list (xs.map iD))), none] = some (c, e) := by
      unfold mFor bnd
      simp only [er]
      exact h1
    rcases h2 with ⟨h3, rfl, x2, rfl⟩ | ⟨h3, rfl⟩
    · rw [h3]
      exact Ends.step hF (Ends.of rfl ⟨_, _, rfl, rfl, rfl⟩)
    · exact Ends.stop (Ends.of hF ⟨(fun z => nomatch z), _, _, rfl, rfl, rfl⟩)
  obtain ⟨r, os', h1, rfl⟩ := this
  exact ⟨os', h1⟩
theorem run_place {n : Nat} {f : Nat → Nat → Int} {xs : List Nat} (hn : n ≤ 12) (hf : Skew n f) (hx : IsRow n xs) : ∃ os', m_wrong_place [.fz (sqD n f), .fz (.list (xs.map iD))] = some (.fz (hdD ((List.range (n - 1)).filter (wr f xs))), os') := by
  obtain ⟨_, e3⟩ := run_break (f := f) hn hf hx
  obtain ⟨hl, hnd, hb⟩ := hx
  obtain ⟨_, _, e1, rfl, rfl⟩ := run_check hn hf
  obtain ⟨_, e2⟩ := run_row (f := f) (n := n) (ds := xs.map iD) (by rw [List.length_map]; exact hl) (rb_ok xs [] hnd hb)
  have : ∃ r os', m_wrong_place [.fz (sqD n f), .fz (.list (xs.map iD))] = some (r, os') ∧ r = .fz (hdD ((List.range (n - 1)).filter (wr f xs))) := by
    refine mDef_rt rfl ?_
    refine Ends.step (e := [some (.fz (sqD n f)), some (.fz (.list (xs.map iD)))]) (drop_of (fz_of (call_of (ps := [.val (sqD n f)]) (os := [.fz (sqD n f)]) rfl rfl e1) rfl)) ?_
    refine Ends.step (e := [some (.fz (sqD n f)), some (.fz (.list (xs.map iD)))]) (drop_of (fz_of (call_of (ps := [.val (sqD n f), .val (.list (xs.map iD))]) (os := [.fz (sqD n f), .fz (.list (xs.map iD))]) rfl rfl e2) rfl)) ?_
    exact Ends.of (ret_of (fz_of (call_of (ps := [.val (sqD n f), .val (.list (xs.map iD))]) (os := [.fz (sqD n f), .fz (.list (xs.map iD))]) rfl rfl e3) rfl) rfl) ⟨_, _, rfl, rfl, rfl⟩
  obtain ⟨r, os', h1, rfl⟩ := this
  exact ⟨os', h1⟩
end My
namespace My
open PySem PySem.Spec L2 Tr
/-- a thing that is no row, and where it is wrong -/
def good (n : Nat) (p : PyData) : Prop := ∃ b w, p = .tuple [b, w] ∧ wrongR n b = some w ∧ (w = .none ∨ ∃ k : Nat, k < 64 ∧ w = .int k)
theorem good_none {n : Nat} {b : PyData} (h : wrongR n b = some .none) : good n (.tuple [b, .none]) := ⟨b, .none, rfl, h, .inl rfl⟩
theorem good_int {n k : Nat} {b : PyData} (h : wrongR n b = some (.int k)) (hk : k < 64) : good n (.tuple [b, .int k]) := ⟨b, .int k, rfl, h, .inr ⟨k, hk, rfl⟩⟩
theorem cut_neg {xs : List PyData} : cutD xs none (some (-1)) = xs.take (xs.length - 1) := by
  unfold cutD
  rw [HT.sIx_none]
  have : HT.sIx xs.length xs.length (some (-1)) = xs.length - 1 := by
    show (if (-1 : Int) < 0 then ((-1 : Int) + (xs.length : Int)).toNat else min (-1 : Int).toNat xs.length) = xs.length - 1
    rw [if_pos (by decide)]
    omega
  rw [this, List.drop_zero, Nat.sub_zero]
theorem cut_from' {xs : List PyData} {p : Nat} : cutD xs (some ((p : Nat) : Int)) none = xs.drop p := by
  unfold cutD
  rw [HT.sIx_none, HT.sIx_nat]
  by_cases h : p ≤ xs.length
  · rw [Nat.min_eq_left h, List.take_of_length_le (by rw [List.length_drop]; omega)]
  · rw [Nat.min_eq_right (by omega), List.drop_eq_nil_of_le (Nat.le_refl _), List.drop_eq_nil_of_le (by omega)]
    simp
theorem ds_of {ma : MA} {env e e2 : En} {ps : List P} {ds : List PyData} (h : ma env = some (ps, e)) (h2 : fzPs e ps = some (ds, e2)) : mDs ma env = some (ds, e2) := by unfold mDs bnd; simp only [h]; exact h2
theorem tup2_of {ma mb : ME} {env e e2 : En} {a b : PyData} (h : ma env = some (.val a, e)) (h2 : mb e = some (.val b, e2)) : mTup (mCons ma (mCons mb mNil)) env = some (.val (.tuple [a, b]), e2) := by
  unfold mTup bnd
  rw [cons_of h (cons_of h2 rfl)]
  rfl
theorem cat_var {k : Nat} {mb : ME} {env e2 : En} {xs ys : List PyData} (h : env[k]? = some (some (.ow xs))) (h2 : mb env = some (.val (.list ys), e2)) (he : e2 = env) (hz : xs.length + ys.length ≤ sizeLine) : mBinL gCat (mVar k) mb env = some (xs ++ ys, e2) := by
  subst he
  have e1 : mVar k e2 = some (.var k, e2) := by unfold mVar; simp only [h]
  unfold mBinL bnd
  simp only [e1, h2, gCat, sq, h]
  rw [if_pos hz]
  rfl
theorem cat2 {ma mb : ME} {env e e2 : En} {xs ys : List PyData} (h : ma env = some (.val (.list xs), e)) (h2 : mb e = some (.val (.list ys), e2)) (hz : xs.length + ys.length ≤ 1000) : mLE (mBinL gCat ma mb) env = some (.val (.list (xs ++ ys)), e2) := lE_of (cat_of h h2 (Nat.le_trans hz (by decide)))
section
variable {env : En} {D : List PyData}
theorem r_init (h : env[0]? = some (some (.fz (.list D)))) : mLE (mSl (mVar 0) mNoPart (mPart (mUn gNeg (mC (.int 1))))) env = some (.val (.list (D.take (D.length - 1))), env) :=
  lE_of ((sl_of (lo := none) (hi := some (-1)) (ds := D) (var_of h) rfl rfl rfl).trans (by rw [cut_neg]))
theorem r_drop (k : Nat) {mp : MP} (h : env[0]? = some (some (.fz (.list D)))) (hp : mp env = some (some ((k : Nat) : Int), env)) : mLE (mSl (mVar 0) mp mNoPart) env = some (.val (.list (D.drop k)), env) :=
  lE_of ((sl_of (lo := some ((k : Nat) : Int)) (hi := none) (ds := D) (var_of h) hp rfl rfl).trans (by rw [cut_from']))
theorem r_take (k : Nat) {mp : MP} (h : env[0]? = some (some (.fz (.list D)))) (hp : mp env = some (some ((k : Nat) : Int), env)) : mLE (mSl (mVar 0) mNoPart mp) env = some (.val (.list (D.take k)), env) :=
  lE_of ((sl_of (lo := none) (hi := some ((k : Nat) : Int)) (ds := D) (var_of h) rfl hp rfl).trans (by rw [cut_to']))
theorem r_last {d : PyData} {ini : List PyData} (h : env[0]? = some (some (.fz (.list D)))) (hD : D = ini ++ [d]) : mBin gIx (mVar 0) (mUn gNeg (mC (.int 1))) env = some (.val d, env) := by
  subst hD
  unfold mBin bnd
  have e2 : gIx env (.val (.list (ini ++ [d]))) (.val (.int (-1))) = some (.val d) := by
    unfold gIx sqT sq
    simp only [Option.bind_some, atI_last, Option.map_some]
  simp only [var_of h, neg1, e2, Option.map_some]
theorem sub1 {n : Nat} (h : env[1]? = some (some (.fz (.int n)))) (hn : 1 ≤ n) : mBin (gI0 fun i j => .int (i - j)) (mVar 1) (mC (.int 1)) env = some (.val (.int ((n - 1 : Nat) : Int)), env) :=
  (op2_of (var_of h) (j := 1) rfl).trans (by rw [show ((n : Int) - 1) = ((n - 1 : Nat) : Int) by omega])
end
theorem lcT {mi : ML} {me : ME} {i : Nat} {env : En} {ds : List PyData} (y : PyData → PyData) (h : mi env = some (ds, env)) (hw : env.set i none = env) (hy : ∀ d ∈ ds, me (env.set i (some (.fz d))) = some (.val (y d), env.set i (some (.fz d)))) (hz : ds.length ≤ 1000) :
    mLE (mLc mi (mgN i) mYes me [i]) env = some (.val (.list (ds.map y)), env) := lE_of (lcV y h hw hy (Nat.le_trans hz (by decide)))
/-- the five things that are no items -/
theorem five {n l : Nat} : ∀ d ∈ [PyData.int n, .int (-1), .none, .str (toString (l : Int)), .list [.int 0]], isItem n d = false := by
  intro d hd
  simp only [List.mem_cons, List.not_mem_nil, or_false] at hd
  rcases hd with rfl | rfl | rfl | rfl | rfl
  · show (decide (0 ≤ (n : Int)) && decide ((n : Int) < n)) = false
    rw [decide_eq_false (Int.lt_irrefl _), Bool.and_false]
  · rfl
  · rfl
  · rfl
  · rfl
theorem bin_of {g : En → P → P → Option P} {ma mb : ME} {env e e2 : En} {p q r : P} (h : ma env = some (p, e)) (h2 : mb e = some (q, e2)) (h3 : g e2 p q = some r) : mBin g ma mb env = some (r, e2) := by
  unfold mBin bnd
  simp only [h, h2, h3, Option.map_some]
theorem snoc_of {α : Type} : ∀ {xs : List α}, xs ≠ [] → ∃ ini l, xs = ini ++ [l]
  | [], h => absurd rfl h
  | [x], _ => ⟨[], x, rfl⟩
  | x :: y :: r, _ => by
    obtain ⟨ini, l, h⟩ := snoc_of (xs := y :: r) (fun z => nomatch z)
    exact ⟨x :: ini, l, by rw [h]; rfl⟩
theorem run_odd {n : Nat} {xs : List Nat} (hn : n ≤ 12) (hx : IsRow n xs) : ∃ r os', m__law_odd_rows [.fz (.list (xs.map iD))] = some (r, os') ∧ ∃ R, r = .fz (.list R) ∧ (∀ p ∈ R, good n p) ∧ R.length ≤ 100 := by
  obtain ⟨hl, hnd, hb⟩ := hx
  have hz : 1000 ≤ sizeLine := by decide
  have hD : (xs.map iD).length = n := by rw [List.length_map]; exact hl
  refine mDef_rt rfl ?_
  refine Ends.step (e := [some (.fz (.list (xs.map iD))), some (.fz (.int n)), none, none, none]) ((asg_of (len_fz rfl) rfl).trans (by rw [hD]; rfl)) ?_
  -- the seven things that are none for every row
  have ti : ((xs.map iD).take (n - 1)).length = n - 1 := by rw [List.length_take, hD]; omega
  have z7 : mItL (mLE (mDs (mCons (mC .none) (mCons (mFn gTupleOf (mCons (mVar 0) mNil)) (mCons (mC (.str (Str.ofString ""))) (mCons mDict (mCons (mC (.int 5)) (mCons (mLE (mBinL gCat (mVar 0) (mLE (mDs (mCons (mC (.int 0)) mNil))))) (mCons (mLE (mBinL gCat (mLE (mSl (mVar 0) mNoPart (mPart (mUn gNeg (mC (.int 1)))))) (mLE (mDs (mCons (mC (.int 0)) (mCons (mC (.int 0)) mNil)))))) mNil)))))))))
      [some (.fz (.list (xs.map iD))), some (.fz (.int n)), none, none, none] = some ([.none, .tuple (xs.map iD), .str (Str.ofString ""), .dict [], .int 5, .list (xs.map iD ++ [.int 0]), .list ((xs.map iD).take (n - 1) ++ [.int 0, .int 0])], [some (.fz (.list (xs.map iD))), some (.fz (.int n)), none, none, none]) := by
    have a := cat2 (ma := mVar 0) (mb := mLE (mDs (mCons (mC (.int 0)) mNil))) (env := [some (.fz (.list (xs.map iD))), some (.fz (.int n)), none, none, none]) (xs := xs.map iD) (ys := [.int 0]) rfl rfl (by rw [hD, List.length_singleton]; omega)
    have b0 := r_init (env := [some (.fz (.list (xs.map iD))), some (.fz (.int n)), none, none, none]) (D := xs.map iD) rfl
    rw [hD] at b0
    have b := cat2 (mb := mLE (mDs (mCons (mC (.int 0)) (mCons (mC (.int 0)) mNil)))) (ys := [.int 0, .int 0]) b0 rfl (by rw [ti]; simp; omega)
    exact itl_of (lE_of (ds_of (cons_of rfl (cons_of rfl (cons_of rfl (cons_of rfl (cons_of rfl (cons_of a (cons_of b rfl))))))) rfl))
  have s7 := lcV (i := 3) (me := mTup (mCons (mVar 3) (mCons (mC .none) mNil))) (fun d => .tuple [d, .none]) z7 rfl (fun d _ => rfl) (by simp; omega)
  refine Ends.step (e := [some (.fz (.list (xs.map iD))), some (.fz (.int n)), some (.ow (([.none, .tuple (xs.map iD), .str (Str.ofString ""), .dict [], .int 5, .list (xs.map iD ++ [.int 0]), .list ((xs.map iD).take (n - 1) ++ [.int 0, .int 0])] : List PyData).map fun d => .tuple [d, .none])), none, none]) ((asgO_of (lO_of s7)).trans rfl) ?_
  have g7 : ∀ p ∈ (([.none, .tuple (xs.map iD), .str (Str.ofString ""), .dict [], .int 5, .list (xs.map iD ++ [.int 0]), .list ((xs.map iD).take (n - 1) ++ [.int 0, .int 0])] : List PyData).map fun d => PyData.tuple [d, .none]), good n p := by
    intro p hp
    obtain ⟨d, hd, rfl⟩ := List.mem_map.mp hp
    refine good_none ?_
    simp only [List.mem_cons, List.not_mem_nil, or_false] at hd
    rcases hd with rfl | rfl | rfl | rfl | rfl | rfl | rfl
    · rfl
    · rfl
    · rfl
    · rfl
    · rfl
    · exact wrong_len (by rw [List.length_append, hD, List.length_singleton]; omega)
    · exact wrong_len (by rw [List.length_append, ti]; simp; omega)
  have l7 : (([.none, .tuple (xs.map iD), .str (Str.ofString ""), .dict [], .int 5, .list (xs.map iD ++ [.int 0]), .list ((xs.map iD).take (n - 1) ++ [.int 0, .int 0])] : List PyData).map fun d => PyData.tuple [d, .none]).length = 7 := rfl
  generalize (([.none, .tuple (xs.map iD), .str (Str.ofString ""), .dict [], .int 5, .list (xs.map iD ++ [.int 0]), .list ((xs.map iD).take (n - 1) ++ [.int 0, .int 0])] : List PyData).map fun d => PyData.tuple [d, .none]) = T at g7 l7
  have tn := tst_of (eq_int (neg := false) (ma := mVar 1) (mb := mC (.int 0)) (env := [some (.fz (.list (xs.map iD))), some (.fz (.int n)), some (.ow T), none, none]) (i := (n : Nat)) (j := 0) rfl rfl)
  by_cases h0 : n = 0
  · have t0 : mT (mBin (gEq false) (mVar 1) (mC (.int 0))) [some (.fz (.list (xs.map iD))), some (.fz (.int n)), some (.ow T), none, none] = some (true, [some (.fz (.list (xs.map iD))), some (.fz (.int n)), some (.ow T), none, none]) := tn.trans (by subst h0; rfl)
    refine Ends.stop (Ends.of (c := .rt (.fz (.list T))) (e := [some (.fz (.list (xs.map iD))), some (.fz (.int n)), some (.fz (.list T)), none, none]) (if_yes t0 rfl) ⟨(fun z => nomatch z), _, _, rfl, rfl, T, rfl, g7, by omega⟩)
  have t0 : mT (mBin (gEq false) (mVar 1) (mC (.int 0))) [some (.fz (.list (xs.map iD))), some (.fz (.int n)), some (.ow T), none, none] = some (false, [some (.fz (.list (xs.map iD))), some (.fz (.int n)), some (.ow T), none, none]) := tn.trans (by rw [beq_eq_false_iff_ne.mpr (show (n : Int) ≠ 0 by omega)]; rfl)
  refine Ends.step (e := [some (.fz (.list (xs.map iD))), some (.fz (.int n)), some (.ow T), none, none]) (if_no t0 rfl) ?_
  have n1 : 1 ≤ n := by omega
  -- ([], None)
  refine Ends.step (e := [some (.fz (.list (xs.map iD))), some (.fz (.int n)), some (.ow (T ++ [.tuple [.list [], .none]])), none, none]) ((app_of (ds0 := T) (ds := T) rfl (cons_of (tup2_of rfl rfl) rfl) rfl rfl (by omega)).trans rfl) ?_
  have g8 : ∀ p ∈ T ++ [.tuple [.list [], .none]], good n p := by
    intro p hp
    rcases List.mem_append.mp hp with h | h
    · exact g7 p h
    · cases List.mem_singleton.mp h
      exact good_none (wrong_len (by rw [List.length_nil]; omega))
  have l8 : (T ++ [PyData.tuple [.list [], .none]]).length = 8 := by rw [List.length_append, l7]; rfl
  generalize (T ++ [PyData.tuple [.list [], .none]]) = T at g8 l8
  clear g7 l7 tn t0
  -- the last item
  obtain ⟨ini, l, hxl⟩ : ∃ ini l, xs = ini ++ [l] := by
    exact snoc_of (by intro z; subst z; simp at hl; omega)
  have hil : ini.length = n - 1 := by rw [hxl, List.length_append, List.length_singleton] at hl; omega
  have hln : l < n := hb l (by rw [hxl]; simp)
  have hini : (xs.map iD).take (n - 1) = ini.map iD := by rw [hxl, List.map_append, ← hil, ← List.length_map (f := iD), List.take_left]
  have hinb : ∀ x ∈ ini, x < n := fun x h => hb x (by rw [hxl]; simp [h])
  have hinnd : ini.Nodup := by rw [hxl] at hnd; exact (List.nodup_append.mp hnd).1
  have hlast : ∀ env : En, env[0]? = some (some (.fz (.list (xs.map iD)))) → mBin gIx (mVar 0) (mUn gNeg (mC (.int 1))) env = some (.val (iD l), env) := fun env h => r_last (ini := ini.map iD) h (by rw [hxl, List.map_append]; rfl)
  have hri : ∀ env : En, env[0]? = some (some (.fz (.list (xs.map iD)))) → mLE (mSl (mVar 0) mNoPart (mPart (mUn gNeg (mC (.int 1))))) env = some (.val (.list (ini.map iD)), env) := fun env h => by
    have := r_init h
    rw [hD, hini] at this
    exact this
  -- five things at the last place
  have z5 : mItL (mLE (mDs (mCons (mVar 1) (mCons (mUn gNeg (mC (.int 1))) (mCons (mC .none) (mCons (mFn gStrI (mCons (mBin gIx (mVar 0) (mUn gNeg (mC (.int 1)))) mNil)) (mCons (mLE (mDs (mCons (mC (.int 0)) mNil))) mNil)))))))
      [some (.fz (.list (xs.map iD))), some (.fz (.int n)), some (.ow T), none, none] = some ([.int n, .int (-1), .none, .str (toString (l : Int)), .list [.int 0]], [some (.fz (.list (xs.map iD))), some (.fz (.int n)), some (.ow T), none, none]) :=
    itl_of (lE_of (ds_of (cons_of rfl (cons_of rfl (cons_of rfl (cons_of (strI_of (k := l) (hlast _ rfl) (by omega)) (cons_of rfl rfl))))) rfl))
  have s5 := lcT (i := 3) (me := mTup (mCons (mLE (mBinL gCat (mLE (mSl (mVar 0) mNoPart (mPart (mUn gNeg (mC (.int 1)))))) (mLE (mDs (mCons (mVar 3) mNil))))) (mCons (mBin (gI0 fun i j => .int (i - j)) (mVar 1) (mC (.int 1))) mNil))) (fun d => .tuple [.list (ini.map iD ++ [d]), .int ((n - 1 : Nat) : Int)]) z5 rfl
    (fun d _ => tup2_of (cat2 (hri _ rfl) (ds_one rfl) (by rw [List.length_map, hil, List.length_singleton]; omega)) (sub1 rfl n1)) (by simp)
  refine Ends.step (e := [some (.fz (.list (xs.map iD))), some (.fz (.int n)), some (.ow (T ++ ([PyData.int n, .int (-1), .none, .str (toString (l : Int)), .list [.int 0]].map fun d => .tuple [.list (ini.map iD ++ [d]), .int ((n - 1 : Nat) : Int)]))), none, none]) ((asgO_of (lO_of (cat_var (xs := T) rfl s5 rfl (by rw [l8]; simp; omega)))).trans rfl) ?_
  have g13 : ∀ p ∈ T ++ ([PyData.int n, .int (-1), .none, .str (toString (l : Int)), .list [.int 0]].map fun d => PyData.tuple [.list (ini.map iD ++ [d]), .int ((n - 1 : Nat) : Int)]), good n p := by
    intro p hp
    rcases List.mem_append.mp hp with h | h
    · exact g8 p h
    · obtain ⟨d, hd, rfl⟩ := List.mem_map.mp h
      have := wrong_list (n := n) (pre := ini) (b := d) (post := []) hinnd hinb (.inl (five d hd)) (by rw [List.length_append, List.length_map, hil, List.length_singleton]; omega)
      rw [hil] at this
      exact good_int this (by omega)
  have l13 : (T ++ ([PyData.int n, .int (-1), .none, .str (toString (l : Int)), .list [.int 0]].map fun d => PyData.tuple [.list (ini.map iD ++ [d]), .int ((n - 1 : Nat) : Int)])).length = 13 := by rw [List.length_append, l8]; rfl
  generalize (T ++ ([PyData.int n, .int (-1), .none, .str (toString (l : Int)), .list [.int 0]].map fun d => PyData.tuple [.list (ini.map iD ++ [d]), .int ((n - 1 : Nat) : Int)])) = T at g13 l13
  clear g8 l8 s5 z5
  -- more than one item
  refine Ends.seq (P := fun e => ∃ T', e = [some (.fz (.list (xs.map iD))), some (.fz (.int n)), some (.ow T'), none, none] ∧ (∀ p ∈ T', good n p) ∧ T'.length ≤ 20) ?_ ?_
  · have tn := gt_of (ma := mVar 1) (mb := mC (.int 1)) (i := (n : Nat)) (j := 1) (env := [some (.fz (.list (xs.map iD))), some (.fz (.int n)), some (.ow T), none, none]) rfl rfl
    by_cases h1 : n = 1
    · have t0 : mT (mBin (gI0 fun i j => .bool (decide (j < i))) (mVar 1) (mC (.int 1))) [some (.fz (.list (xs.map iD))), some (.fz (.int n)), some (.ow T), none, none] = some (false, [some (.fz (.list (xs.map iD))), some (.fz (.int n)), some (.ow T), none, none]) := tn.trans (by rw [decide_eq_false (by omega)])
      exact Ends.of (if_no t0 rfl) ⟨rfl, T, rfl, g13, by omega⟩
    have t0 : mT (mBin (gI0 fun i j => .bool (decide (j < i))) (mVar 1) (mC (.int 1))) [some (.fz (.list (xs.map iD))), some (.fz (.int n)), some (.ow T), none, none] = some (true, [some (.fz (.list (xs.map iD))), some (.fz (.int n)), some (.ow T), none, none]) := tn.trans (by rw [decide_eq_true (by omega)])
    refine if_of t0 ?_
    rw [if_pos rfl]
    -- x0 :: mid ++ [l]
    obtain ⟨x0, mid, hmid⟩ : ∃ x0 mid, ini = x0 :: mid := by
      cases ini with
      | nil => simp at hil; omega
      | cons x0 mid => exact ⟨x0, mid, rfl⟩
    have hml : mid.length = n - 2 := by rw [hmid, List.length_cons] at hil; omega
    have hx0 : x0 < n := hinb x0 (by rw [hmid]; simp)
    have hd1 : (xs.map iD).drop 1 = mid.map iD ++ [iD l] := by rw [hxl, hmid, List.map_append]; rfl
    have hz0 : ∀ env : En, env[0]? = some (some (.fz (.list (xs.map iD)))) → mBin gIx (mVar 0) (mC (.int 0)) env = some (.val (iD x0), env) := fun env h => ix_fz (j := 0) (ds := xs.map iD) (d := iD x0) h rfl (by rw [hxl, hmid]; rfl)
    have hlen1 : ((xs.map iD).drop 1).length = n - 1 := by rw [List.length_drop, hD]
    have hlm : l ∉ mid := fun z => by
      rw [hxl] at hnd
      exact (List.nodup_append.mp hnd).2.2 l (by rw [hmid]; simp [z]) l (by simp) rfl
    have hmnd : mid.Nodup := by rw [hmid] at hinnd; exact (List.nodup_cons.mp hinnd).2
    have hmb : ∀ x ∈ mid, x < n := fun x h => hinb x (by rw [hmid]; simp [h])
    -- two at the last place
    have hp1 : ∀ env : En, env[0]? = some (some (.fz (.list (xs.map iD)))) → env[1]? = some (some (.fz (.int n))) → mTup (mCons (mLE (mBinL gCat (mLE (mSl (mVar 0) mNoPart (mPart (mUn gNeg (mC (.int 1)))))) (mLE (mDs (mCons (mBin gIx (mVar 0) (mC (.int 0))) mNil))))) (mCons (mBin (gI0 fun i j => .int (i - j)) (mVar 1) (mC (.int 1))) mNil)) env = some (.val (.tuple [.list (ini.map iD ++ [iD x0]), .int ((n - 1 : Nat) : Int)]), env) := fun env h h' =>
      tup2_of (cat2 (hri env h) (ds_one (hz0 env h)) (by rw [List.length_map, hil, List.length_singleton]; omega)) (sub1 h' n1)
    have hp2 : ∀ env : En, env[0]? = some (some (.fz (.list (xs.map iD)))) → env[1]? = some (some (.fz (.int n))) → mTup (mCons (mLE (mBinL gCat (mLE (mDs (mCons (mBin gIx (mVar 0) (mUn gNeg (mC (.int 1)))) mNil))) (mLE (mSl (mVar 0) (mPart (mC (.int 1))) mNoPart)))) (mCons (mBin (gI0 fun i j => .int (i - j)) (mVar 1) (mC (.int 1))) mNil)) env = some (.val (.tuple [.list ([iD l] ++ (xs.map iD).drop 1), .int ((n - 1 : Nat) : Int)]), env) := fun env h h' =>
      tup2_of (cat2 (ds_one (hlast env h)) (r_drop 1 h rfl) (by rw [hlen1, List.length_singleton]; omega)) (sub1 h' n1)
    have w1 : good n (.tuple [.list (ini.map iD ++ [iD x0]), .int ((n - 1 : Nat) : Int)]) := by
      have := wrong_list (n := n) (pre := ini) (b := iD x0) (post := []) hinnd hinb (.inr ⟨x0, by rw [hmid]; simp, rfl⟩) (by rw [List.length_append, List.length_map, hil, List.length_singleton]; omega)
      rw [hil] at this
      exact good_int this (by omega)
    have w2 : good n (.tuple [.list ([iD l] ++ (xs.map iD).drop 1), .int ((n - 1 : Nat) : Int)]) := by
      have := wrong_list (n := n) (pre := l :: mid) (b := iD l) (post := []) (List.nodup_cons.mpr ⟨hlm, hmnd⟩) (fun x h => by
        rcases List.mem_cons.mp h with rfl | h
        · exact hln
        · exact hmb x h) (.inr ⟨l, by simp, rfl⟩) (by rw [List.length_append, List.length_map, List.length_cons, hml, List.length_singleton]; omega)
      rw [List.length_cons, hml, show n - 2 + 1 = n - 1 by omega] at this
      rw [hd1]
      exact good_int this (by omega)
    refine Ends.step (e := [some (.fz (.list (xs.map iD))), some (.fz (.int n)), some (.ow (T ++ [.tuple [.list (ini.map iD ++ [iD x0]), .int ((n - 1 : Nat) : Int)], .tuple [.list ([iD l] ++ (xs.map iD).drop 1), .int ((n - 1 : Nat) : Int)]])), none, none]) ((asgO_of (lO_of (cat_var (xs := T) rfl (lE_of (ds_of (cons_of (hp1 _ rfl rfl) (cons_of (hp2 _ rfl rfl) rfl)) rfl)) rfl (by rw [l13]; simp; omega)))).trans rfl) ?_
    have g15 : ∀ p ∈ T ++ [.tuple [.list (ini.map iD ++ [iD x0]), .int ((n - 1 : Nat) : Int)], .tuple [.list ([iD l] ++ (xs.map iD).drop 1), .int ((n - 1 : Nat) : Int)]], good n p := by
      intro p hp
      rcases List.mem_append.mp hp with h | h
      · exact g13 p h
      · simp only [List.mem_cons, List.not_mem_nil, or_false] at h
        rcases h with rfl | rfl
        · exact w1
        · exact w2
    have l15 : (T ++ [PyData.tuple [.list (ini.map iD ++ [iD x0]), .int ((n - 1 : Nat) : Int)], .tuple [.list ([iD l] ++ (xs.map iD).drop 1), .int ((n - 1 : Nat) : Int)]]).length = 15 := by rw [List.length_append, l13]; rfl
    generalize (T ++ [PyData.tuple [.list (ini.map iD ++ [iD x0]), .int ((n - 1 : Nat) : Int)], .tuple [.list ([iD l] ++ (xs.map iD).drop 1), .int ((n - 1 : Nat) : Int)]]) = T at g15 l15
    -- four more
    have hlen2 : ((xs.map iD).drop 2).length = n - 2 := by rw [List.length_drop, hD]
    have hlen3 : ((xs.map iD).drop 3).length = n - 3 := by rw [List.length_drop, hD]
    have hq1 : ∀ env : En, env[0]? = some (some (.fz (.list (xs.map iD)))) → mTup (mCons (mLE (mBinL gCat (mLE (mDs (mCons (mC (.bool false)) mNil))) (mLE (mSl (mVar 0) (mPart (mC (.int 1))) mNoPart)))) (mCons (mC (.int 0)) mNil)) env = some (.val (.tuple [.list ([.bool false] ++ (xs.map iD).drop 1), .int ((0 : Nat) : Int)]), env) := fun env h =>
      tup2_of (cat2 (ds_one rfl) (r_drop 1 h rfl) (by rw [hlen1, List.length_singleton]; omega)) rfl
    have hq2 : ∀ env : En, env[0]? = some (some (.fz (.list (xs.map iD)))) → mTup (mCons (mLE (mBinL gCat (mLE (mDs (mCons (mC .none) (mCons (mC .none) mNil)))) (mLE (mSl (mVar 0) (mPart (mC (.int 2))) mNoPart)))) (mCons (mC (.int 0)) mNil)) env = some (.val (.tuple [.list ([.none, .none] ++ (xs.map iD).drop 2), .int ((0 : Nat) : Int)]), env) := fun env h =>
      tup2_of (cat2 (ds_two rfl rfl) (r_drop 2 h rfl) (by rw [hlen2]; simp; omega)) rfl
    have hq3 : ∀ env : En, env[0]? = some (some (.fz (.list (xs.map iD)))) → mTup (mCons (mLE (mSl (mVar 0) (mPart (mC (.int 1))) mNoPart)) (mCons (mC .none) mNil)) env = some (.val (.tuple [.list ((xs.map iD).drop 1), .none]), env) := fun env h => tup2_of (r_drop 1 h rfl) rfl
    have hq4 : ∀ env : En, env[0]? = some (some (.fz (.list (xs.map iD)))) → mTup (mCons (mLE (mSl (mVar 0) mNoPart (mPart (mUn gNeg (mC (.int 1)))))) (mCons (mC .none) mNil)) env = some (.val (.tuple [.list (ini.map iD), .none]), env) := fun env h => tup2_of (hri env h) rfl
    have v1 : good n (.tuple [.list ([.bool false] ++ (xs.map iD).drop 1), .int ((0 : Nat) : Int)]) := good_int (wrong_list (n := n) (pre := []) (b := .bool false) (post := (xs.map iD).drop 1) List.nodup_nil (fun _ z => nomatch z) (.inl rfl) (by simp [hlen1]; omega)) (by omega)
    have v2 : good n (.tuple [.list ([.none, .none] ++ (xs.map iD).drop 2), .int ((0 : Nat) : Int)]) := good_int (wrong_list (n := n) (pre := []) (b := .none) (post := .none :: (xs.map iD).drop 2) List.nodup_nil (fun _ z => nomatch z) (.inl rfl) (by simp [hlen2]; omega)) (by omega)
    have v3 : good n (.tuple [.list ((xs.map iD).drop 1), .none]) := good_none (wrong_len (by rw [hlen1]; omega))
    have v4 : good n (.tuple [.list (ini.map iD), .none]) := good_none (wrong_len (by rw [List.length_map, hil]; omega))
    refine Ends.step (e := [some (.fz (.list (xs.map iD))), some (.fz (.int n)), some (.ow (T ++ [.tuple [.list ([.bool false] ++ (xs.map iD).drop 1), .int ((0 : Nat) : Int)], .tuple [.list ([.none, .none] ++ (xs.map iD).drop 2), .int ((0 : Nat) : Int)], .tuple [.list ((xs.map iD).drop 1), .none], .tuple [.list (ini.map iD), .none]])), none, none]) ((asgO_of (lO_of (cat_var (xs := T) rfl (lE_of (ds_of (cons_of (hq1 _ rfl) (cons_of (hq2 _ rfl) (cons_of (hq3 _ rfl) (cons_of (hq4 _ rfl) rfl)))) rfl)) rfl (by rw [l15]; simp; omega)))).trans rfl) ?_
    have g19 : ∀ p ∈ T ++ [.tuple [.list ([.bool false] ++ (xs.map iD).drop 1), .int ((0 : Nat) : Int)], .tuple [.list ([.none, .none] ++ (xs.map iD).drop 2), .int ((0 : Nat) : Int)], .tuple [.list ((xs.map iD).drop 1), .none], .tuple [.list (ini.map iD), .none]], good n p := by
      intro p hp
      rcases List.mem_append.mp hp with h | h
      · exact g15 p h
      · simp only [List.mem_cons, List.not_mem_nil, or_false] at h
        rcases h with rfl | rfl | rfl | rfl
        · exact v1
        · exact v2
        · exact v3
        · exact v4
    have l19 : (T ++ [PyData.tuple [.list ([.bool false] ++ (xs.map iD).drop 1), .int ((0 : Nat) : Int)], .tuple [.list ([.none, .none] ++ (xs.map iD).drop 2), .int ((0 : Nat) : Int)], .tuple [.list ((xs.map iD).drop 1), .none], .tuple [.list (ini.map iD), .none]]).length = 19 := by rw [List.length_append, l15]; rfl
    generalize (T ++ [PyData.tuple [.list ([.bool false] ++ (xs.map iD).drop 1), .int ((0 : Nat) : Int)], .tuple [.list ([.none, .none] ++ (xs.map iD).drop 2), .int ((0 : Nat) : Int)], .tuple [.list ((xs.map iD).drop 1), .none], .tuple [.list (ini.map iD), .none]]) = T at g19 l19
    -- one more
    have hsel : ∀ env : En, env[1]? = some (some (.fz (.int n))) → mBin gIx (mLE (mDs (mCons (mC .none) (mCons (mC (.int 1)) mNil)))) (mFn gInt (mCons (mBin (gI0 fun i j => .bool (decide (j < i))) (mVar 1) (mC (.int 2))) mNil)) env = some (.val (if 2 < n then .int ((1 : Nat) : Int) else .none), env) := fun env h => by
      have a := op2_of (op := fun i j => .bool (decide (j < i))) (var_of h) (mb := mC (.int 2)) (j := 2) rfl
      have b : mFn gInt (mCons (mBin (gI0 fun i j => .bool (decide (j < i))) (mVar 1) (mC (.int 2))) mNil) env = some (.val (.int (if decide ((2 : Int) < n) = true then 1 else 0)), env) := by
        unfold mFn bnd
        rw [cons_of a rfl]
        rfl
      have c : mLE (mDs (mCons (mC .none) (mCons (mC (.int 1)) mNil))) env = some (.val (.list [.none, .int 1]), env) := rfl
      by_cases h2 : 2 < n
      · rw [if_pos (decide_eq_true (by omega))] at b
        rw [if_pos h2]
        exact bin_of c b rfl
      · rw [if_neg (by rw [decide_eq_false (by omega)]; exact Bool.false_ne_true)] at b
        rw [if_neg h2]
        exact bin_of c b rfl
    have hc : ∀ env : En, env[0]? = some (some (.fz (.list (xs.map iD)))) → env[1]? = some (some (.fz (.int n))) → mTup (mCons (mLE (mBinL gCat (mLE (mDs (mCons (mBin gIx (mVar 0) (mC (.int 0))) (mCons (mBin gIx (mVar 0) (mC (.int 0))) (mCons (mC .none) mNil))))) (mLE (mSl (mVar 0) (mPart (mC (.int 3))) mNoPart)))) (mCons (mBin gIx (mLE (mDs (mCons (mC .none) (mCons (mC (.int 1)) mNil)))) (mFn gInt (mCons (mBin (gI0 fun i j => .bool (decide (j < i))) (mVar 1) (mC (.int 2))) mNil))) mNil)) env = some (.val (.tuple [.list ([iD x0, iD x0, .none] ++ (xs.map iD).drop 3), if 2 < n then .int ((1 : Nat) : Int) else .none]), env) := fun env h h' =>
      tup2_of (cat2 (lE_of (ds_of (cons_of (hz0 env h) (cons_of (hz0 env h) (cons_of rfl rfl))) rfl)) (r_drop 3 h rfl) (by rw [hlen3]; simp; omega)) (hsel env h')
    have vc : good n (.tuple [.list ([iD x0, iD x0, .none] ++ (xs.map iD).drop 3), if 2 < n then .int ((1 : Nat) : Int) else .none]) := by
      by_cases h2 : 2 < n
      · rw [if_pos h2]
        exact good_int (wrong_list (n := n) (pre := [x0]) (b := iD x0) (post := .none :: (xs.map iD).drop 3) (by simp) (fun x h => by cases List.mem_singleton.mp h; exact hx0) (.inr ⟨x0, by simp, rfl⟩) (by simp [hlen3]; omega)) (by decide)
      · rw [if_neg h2]
        exact good_none (wrong_len (by rw [List.length_append, hlen3]; simp; omega))
    refine Ends.of ((app_of (ds0 := T) (ds := T) rfl (cons_of (hc _ rfl rfl) rfl) rfl rfl (by omega)).trans rfl) ⟨rfl, T ++ [.tuple [.list ([iD x0, iD x0, .none] ++ (xs.map iD).drop 3), if 2 < n then .int ((1 : Nat) : Int) else .none]], rfl, fun p hp => ?_, by rw [List.length_append, l19]; simp⟩
    rcases List.mem_append.mp hp with h | h
    · exact g19 p h
    · cases List.mem_singleton.mp h
      exact vc
  rintro e ⟨T', rfl, gT, lT⟩
  clear g13 l13
  obtain ⟨x0, r0, hx0⟩ : ∃ x0 r0, xs = x0 :: r0 := by
    cases xs with
    | nil => simp at hl; omega
    | cons x0 r0 => exact ⟨x0, r0, rfl⟩
  have hx0n : x0 < n := hb x0 (by rw [hx0]; simp)
  have hz0 : ∀ env : En, env[0]? = some (some (.fz (.list (xs.map iD)))) → mBin gIx (mVar 0) (mC (.int 0)) env = some (.val (iD x0), env) := fun env h => ix_fz (j := 0) (ds := xs.map iD) (d := iD x0) h rfl (by rw [hx0]; rfl)
  have hlen3 : ((xs.map iD).drop 3).length = n - 3 := by rw [List.length_drop, hD]
  have hlen4 : ((xs.map iD).drop 4).length = n - 4 := by rw [List.length_drop, hD]
  have hint : ∀ (env : En) (k : Nat), env[1]? = some (some (.fz (.int n))) → mFn gInt (mCons (mBin (gI0 fun i j => .bool (decide (j < i))) (mVar 1) (mC (.int k))) mNil) env = some (.val (.int (((if k < n then 1 else 0 : Nat) : Nat) : Int)), env) := fun env k h => by
    have a := op2_of (op := fun i j => .bool (decide (j < i))) (var_of h) (mb := mC (.int k)) (j := (k : Nat)) rfl
    unfold mFn bnd
    rw [cons_of a rfl]
    by_cases h2 : k < n
    · rw [decide_eq_true (by omega), if_pos h2]
      rfl
    · rw [decide_eq_false (by omega), if_neg h2]
      rfl
  have hu : ∀ env : En, env[0]? = some (some (.fz (.list (xs.map iD)))) → mLE (mDs (mCons (mTup (mCons (mLE (mBinL gCat (mLE (mDs (mCons (mBin gIx (mVar 0) (mC (.int 0))) (mCons (mC .none) (mCons (mBin gIx (mVar 0) (mC (.int 0))) mNil))))) (mLE (mSl (mVar 0) (mPart (mC (.int 3))) mNoPart)))) (mCons (mC (.int 1)) mNil))) mNil)) env = some (.val (.list [.tuple [.list ([iD x0, .none, iD x0] ++ (xs.map iD).drop 3), .int ((1 : Nat) : Int)]]), env) := fun env h =>
    ds_one' (tup2_of (cat2 (lE_of (ds_of (cons_of (hz0 env h) (cons_of rfl (cons_of (hz0 env h) rfl))) rfl)) (r_drop 3 h rfl) (by rw [hlen3]; simp; omega)) rfl)
  have hrep := rep_of (hu [some (.fz (.list (xs.map iD))), some (.fz (.int n)), some (.ow T'), none, none] rfl) (hint _ 2 rfl) rfl (by split <;> decide) (by rw [List.length_singleton]; split <;> omega)
  have gU : ∀ p ∈ T' ++ (List.replicate (if 2 < n then 1 else 0) [PyData.tuple [.list ([iD x0, .none, iD x0] ++ (xs.map iD).drop 3), .int ((1 : Nat) : Int)]]).flatten, good n p := by
    intro p hp
    rcases List.mem_append.mp hp with h | h
    · exact gT p h
    · by_cases h2 : 2 < n
      · rw [if_pos h2] at h
        simp only [List.replicate_one, List.flatten_cons, List.flatten_nil, List.append_nil, List.mem_singleton] at h
        subst h
        exact good_int (wrong_list (n := n) (pre := [x0]) (b := .none) (post := iD x0 :: (xs.map iD).drop 3) (by simp) (fun x h => by cases List.mem_singleton.mp h; exact hx0n) (.inl rfl) (by simp [hlen3]; omega)) (by decide)
      · rw [if_neg h2] at h
        simp at h
  have lU : (T' ++ (List.replicate (if 2 < n then 1 else 0) [PyData.tuple [.list ([iD x0, .none, iD x0] ++ (xs.map iD).drop 3), .int ((1 : Nat) : Int)]]).flatten).length ≤ 21 := by
    rw [List.length_append]
    split <;> simp <;> omega
  refine Ends.step (e := [some (.fz (.list (xs.map iD))), some (.fz (.int n)), some (.ow (T' ++ (List.replicate (if 2 < n then 1 else 0) [PyData.tuple [.list ([iD x0, .none, iD x0] ++ (xs.map iD).drop 3), .int ((1 : Nat) : Int)]]).flatten)), none, none]) ((asgO_of (lO_of (cat_var (xs := T') rfl (lE_of hrep) rfl (by rw [List.length_append] at lU; omega)))).trans rfl) ?_
  generalize (T' ++ (List.replicate (if 2 < n then 1 else 0) [PyData.tuple [.list ([iD x0, .none, iD x0] ++ (xs.map iD).drop 3), .int ((1 : Nat) : Int)]]).flatten) = T at gU lU
  -- the last one
  have hr3 : mRng1 (mCons (mFn gInt (mCons (mBin (gI0 fun i j => .bool (decide (j < i))) (mVar 1) (mC (.int 3))) mNil)) mNil) [some (.fz (.list (xs.map iD))), some (.fz (.int n)), some (.ow T), none, none] = some (rgD 0 (if 3 < n then 1 else 0), [some (.fz (.list (xs.map iD))), some (.fz (.int n)), some (.ow T), none, none]) :=
    rng1_nat (cons_of (hint _ 3 rfl) rfl) (by split <;> decide)
  have hv : ∃ V, mLE (mLc (mRng1 (mCons (mFn gInt (mCons (mBin (gI0 fun i j => .bool (decide (j < i))) (mVar 1) (mC (.int 3))) mNil)) mNil)) (mgN 4) mYes (mTup (mCons (mLE (mBinL gCat (mLE (mBinL gCat (mLE (mSl (mVar 0) mNoPart (mPart (mC (.int 2))))) (mLE (mDs (mCons (mBin gIx (mVar 0) (mC (.int 1))) (mCons (mBin gIx (mVar 0) (mC (.int 0))) mNil)))))) (mLE (mSl (mVar 0) (mPart (mC (.int 4))) mNoPart)))) (mCons (mC (.int 2)) mNil))) [4]) [some (.fz (.list (xs.map iD))), some (.fz (.int n)), some (.ow T), none, none] = some (.val (.list V), [some (.fz (.list (xs.map iD))), some (.fz (.int n)), some (.ow T), none, none]) ∧ (∀ p ∈ V, good n p) ∧ V.length ≤ 1 := by
    by_cases h3 : 3 < n
    · rw [if_pos h3] at hr3
      obtain ⟨x1, r1, hx1⟩ : ∃ x1 r1, r0 = x1 :: r1 := by
        cases r0 with
        | nil => rw [hx0] at hl; simp at hl; omega
        | cons x1 r1 => exact ⟨x1, r1, rfl⟩
      have hx1n : x1 < n := hb x1 (by rw [hx0, hx1]; simp)
      have h01 : x0 ≠ x1 := fun z => by
        rw [hx0, hx1] at hnd
        exact (List.nodup_cons.mp hnd).1 (by rw [z]; simp)
      have ht2 : (xs.map iD).take 2 = [iD x0, iD x1] := by rw [hx0, hx1]; rfl
      refine ⟨_, lcT (i := 4) (fun _ => .tuple [.list (([iD x0, iD x1] ++ [iD x1, iD x0]) ++ (xs.map iD).drop 4), .int ((2 : Nat) : Int)]) hr3 rfl (fun d _ => ?_) (by rw [rgD_len]; decide), fun p hp => ?_, by rw [List.length_map, rgD_len]; exact Nat.le_refl _⟩
      · have a := r_take 2 (env := [some (.fz (.list (xs.map iD))), some (.fz (.int n)), some (.ow T), none, some (.fz d)]) (D := xs.map iD) (mp := mPart (mC (.int 2))) rfl rfl
        rw [ht2] at a
        exact tup2_of (cat2 (cat2 a (ds_two (ix_fz (j := 1) (ds := xs.map iD) (d := iD x1) rfl rfl (by rw [hx0, hx1]; rfl)) (hz0 _ rfl)) (by simp)) (r_drop 4 rfl rfl) (by rw [hlen4]; simp; omega)) rfl
      · obtain ⟨d, _, rfl⟩ := List.mem_map.mp hp
        exact good_int (wrong_list (n := n) (pre := [x0, x1]) (b := iD x1) (post := iD x0 :: (xs.map iD).drop 4) (by simp [h01]) (fun x h => by
          simp only [List.mem_cons, List.not_mem_nil, or_false] at h
          rcases h with rfl | rfl
          · exact hx0n
          · exact hx1n) (.inr ⟨x1, by simp, rfl⟩) (by simp [hlen4]; omega)) (by decide)
    · rw [if_neg h3] at hr3
      exact ⟨[], lcT (i := 4) (fun d => d) hr3 rfl (fun d hd => by cases hd) (by rw [rgD_len]; decide), (fun _ z => nomatch z), by simp⟩
  obtain ⟨V, ev, gV, lV⟩ := hv
  refine Ends.of (ret_of (lE_of (cat_var (xs := T) rfl ev rfl (by omega))) rfl) ⟨_, _, rfl, rfl, T ++ V, rfl, fun p hp => ?_, by rw [List.length_append]; omega⟩
  rcases List.mem_append.mp hp with h | h
  · exact gU p h
  · exact gV p h
where
  ds_one' {ma : ME} {env e : En} {a : PyData} (h : ma env = some (.val a, e)) : mLE (mDs (mCons ma mNil)) env = some (.val (.list [a]), e) := ds_one h
end My
namespace My
open PySem PySem.Spec L2 Tr
theorem gif_yes {α : Type} {mt : MT} {ma mb : En → Option (α × En)} {env e : En} {r : Option (α × En)} (h : mt env = some (true, e)) (h2 : ma e = r) : mIf mt ma mb env = r := by unfold mIf bnd; simp only [h, h2]
theorem gif_no {α : Type} {mt : MT} {ma mb : En → Option (α × En)} {env e : En} {r : Option (α × En)} (h : mt env = some (false, e)) (h2 : mb e = r) : mIf mt ma mb env = r := by unfold mIf bnd; simp only [h, h2]
theorem lc_filter {mi : ML} {mt : MT} {i : Nat} {env e e0 : En} {ds : List PyData} (t : PyData → Bool) (h : mi env = some (ds, e)) (h0 : e.set i none = e0) (hw : e0.set i none = e0) (hi : i < e0.length) (hy : ∀ d ∈ ds, mt (e0.set i (some (.fz d))) = some (t d, e0.set i (some (.fz d)))) (hz : ds.length ≤ sizeLine) :
    mLc mi (mgN i) mt (mVar i) [i] env = some (ds.filter t, e0) := by
  have go : ∀ (ds acc : List PyData), (∀ d ∈ ds, mt (e0.set i (some (.fz d))) = some (t d, e0.set i (some (.fz d)))) → acc.length + ds.length ≤ sizeLine → mLcGo (mgN i) mt (mVar i) [i] ds acc e0 = some (acc ++ ds.filter t, e0) := by
    intro ds
    induction ds with
    | nil => intro acc _ _; show some (acc, e0) = _; rw [List.filter_nil, List.append_nil]
    | cons d r ih =>
      intro acc hy hz
      rw [List.length_cons] at hz
      have e1 : mgN i d e0 = some (e0.set i (some (.fz d))) := rfl
      have e2 : wipeE (e0.set i (some (.fz d))) [i] = e0 := by unfold wipeE wipeE; rw [List.set_set]; exact hw
      have e3 : mVar i (e0.set i (some (.fz d))) = some (.val d, e0.set i (some (.fz d))) := var_of (List.getElem?_set_self hi)
      have e4 : fzP (e0.set i (some (.fz d))) (.val d) = some (d, e0.set i (some (.fz d))) := rfl
      have hd := hy d (by simp)
      unfold mLcGo
      cases ht : t d with
      | true =>
        rw [ht] at hd
        simp only [e1, hd, e2, e3, e4]
        rw [if_pos (by omega), ih (acc ++ [d]) (fun x hx => hy x (by simp [hx])) (by rw [List.length_append, List.length_singleton]; omega), List.filter_cons_of_pos ht, List.append_assoc]
        rfl
      | false =>
        rw [ht] at hd
        simp only [e1, hd, e2]
        rw [ih acc (fun x hx => hy x (by simp [hx])) (by omega), List.filter_cons_of_neg (by rw [ht]; exact Bool.false_ne_true)]
  unfold mLc bnd
  simp only [h]
  have e5 : wipeE e [i] = e0 := by unfold wipeE wipeE; exact h0
  rw [e5, go ds [] hy (by simpa using hz)]
  rfl
theorem lc_none_g {mi : ML} {mg : PyData → En → Option En} {mt : MT} {me : ME} {vs : List Nat} {env e e0 : En} {ds : List PyData} (h : mi env = some (ds, e)) (h0 : wipeE e vs = e0) (hy : ∀ d ∈ ds, ∃ e1 e2, mg d e0 = some e1 ∧ mt e1 = some (false, e2) ∧ wipeE e2 vs = e0) : mLc mi mg mt me vs env = some ([], e0) := by
  have go : ∀ ds : List PyData, (∀ d ∈ ds, ∃ e1 e2, mg d e0 = some e1 ∧ mt e1 = some (false, e2) ∧ wipeE e2 vs = e0) → mLcGo mg mt me vs ds [] e0 = some ([], e0) := by
    intro ds
    induction ds with
    | nil => intro _; rfl
    | cons d r ih =>
      intro hy
      obtain ⟨e1, e2, a, b, c⟩ := hy d (by simp)
      unfold mLcGo
      simp only [a, b, c]
      exact ih fun x hx => hy x (by simp [hx])
  unfold mLc bnd
  simp only [h, h0]
  exact go ds hy
def wrD (f : Nat → Nat → Int) (zs : List Nat) : PyData → Bool
  | .int k => wr f zs k.toNat
  | _ => false
theorem filt_map {f : Nat → Nat → Int} {zs ps : List Nat} : (ps.map iD).filter (wrD f zs) = (ps.filter (wr f zs)).map iD := by
  rw [List.filter_map]
  congr 1
theorem sh_hd (ws : List Nat) : SeqAt.shaped (hdD ws) = true ∧ PyData.eqv (hdD ws) (hdD ws) = true := by
  cases ws with
  | nil => exact ⟨rfl, rfl⟩
  | cons p r => exact ⟨rfl, eqv_refl_int _⟩
/-- a list of rows -/
def Rws (n : Nat) (ds : List PyData) : Prop := ∀ d ∈ ds, ∃ zs, IsRow n zs ∧ d = .list (zs.map iD)
abbrev E10 (ds : List PyData) (n : Nat) (f : Nat → Nat → Int) (rows : List PyData) (x4 x5 x6 x7 x8 : Option O) : En := [some (.ow ds), some (.fz (.int n)), some (.fz (sqD n f)), some (.fz (.list rows)), x4, x5, x6, x7, x8, none]
abbrev loopBody : MS := (mSeq (mAsg (mFn gRepr (mCons (mLE (mDs (mCons (mVar 2) (mCons (mVar 4) mNil)))) mNil)) (mgN 5))
    (mSeq (mAsg (mLE (mLc (mRng1 (mCons (mBin (gI0 fun i j => .int (i - j)) (mVar 1) (mC (.int 1))) mNil)) (mgN 8) (mT (mBin (gEq false) (mBin gIx (mBin gIx (mVar 2) (mBin gIx (mVar 4) (mBin (gI0 fun i j => .int (i + j)) (mVar 8) (mC (.int 1))))) (mBin gIx (mVar 4) (mVar 8))) (mUn gNeg (mC (.int 1))))) (mVar 8) [8])) (mgN 6))
    (mSeq (mAsg (mIf (mT (mBin (gEq true) (mVar 6) (mLE (mDs mNil)))) (mBin gIx (mVar 6) (mC (.int 0))) (mC .none)) (mgN 7))
    (mSeq (mIf (mOr (mT (mBin (gEq true) (mFz (mCall m_wrong_place (mCons (mVar 2) (mCons (mVar 4) mNil)))) (mVar 7))) (mT (mBin (gEq true) (mFz (mCallN [1, 0] m_wrong_place mNil (mCons (mVar 4) (mCons (mVar 2) mNil)))) (mVar 7)))) (mRet (mC (.bool false))) mNext)
    (mIf (mT (mBin (gEq true) (mFn gRepr (mCons (mLE (mDs (mCons (mVar 2) (mCons (mVar 4) mNil)))) mNil)) (mVar 5))) (mRet (mC (.bool false))) mNext)))))
theorem run_loop {n : Nat} {f : Nat → Nat → Int} {ds rows : List PyData} {zs : List Nat} {x5 x6 x7 x8 : Option O} (hn : n ≤ 12) (hf : Skew n f) (hx : IsRow n zs) :
    Ends loopBody (E10 ds n f rows (some (.fz (.list (zs.map iD)))) x5 x6 x7 x8) fun c e => c = .nx ∧ ∃ x4 x5 x6 x7 x8, e = E10 ds n f rows x4 x5 x6 x7 x8 := by
  have hz : 1000 ≤ sizeLine := by decide
  obtain ⟨hl, hnd, hb⟩ := id hx
  obtain ⟨hrep, hsh⟩ := two_repr (xs := zs) hn hf hb (by omega)
  refine Ends.step (e := E10 ds n f rows (some (.fz (.list (zs.map iD)))) (some (.fz (.str (reprD (.list [sqD n f, .list (zs.map iD)]))))) x6 x7 x8) ((asg_of (repr_any (ds_two rfl rfl) hrep) rfl).trans rfl) ?_
  generalize hK : (PyData.str (reprD (.list [sqD n f, .list (zs.map iD)]))) = K
  have c0 := lc_filter (i := 8) (mi := mRng1 (mCons (mBin (gI0 fun i j => .int (i - j)) (mVar 1) (mC (.int 1))) mNil)) (mt := (mT (mBin (gEq false) (mBin gIx (mBin gIx (mVar 2) (mBin gIx (mVar 4) (mBin (gI0 fun i j => .int (i + j)) (mVar 8) (mC (.int 1))))) (mBin gIx (mVar 4) (mVar 8))) (mUn gNeg (mC (.int 1))))))
    (env := E10 ds n f rows (some (.fz (.list (zs.map iD)))) (some (.fz K)) x6 x7 x8) (e := E10 ds n f rows (some (.fz (.list (zs.map iD)))) (some (.fz K)) x6 x7 x8) (e0 := E10 ds n f rows (some (.fz (.list (zs.map iD)))) (some (.fz K)) x6 x7 none) (ds := (List.range (n - 1)).map iD) (wrD f zs)
    (rng_sub (cons_of (op2_of rfl rfl) rfl) (by omega)) rfl rfl (by simp) (fun d hd => by
      obtain ⟨p, hp, rfl⟩ := List.mem_map.mp hd
      have hp := List.mem_range.mp hp
      obtain ⟨a, ha⟩ : ∃ a, zs[p]? = some a := ⟨_, List.getElem?_eq_getElem (by omega)⟩
      obtain ⟨b, hb'⟩ : ∃ b, zs[p + 1]? = some b := ⟨_, List.getElem?_eq_getElem (by omega)⟩
      have e0 : mBin (gI0 fun i j => .int (i + j)) (mVar 8) (mC (.int 1)) (E10 ds n f rows (some (.fz (.list (zs.map iD)))) (some (.fz K)) x6 x7 (some (.fz (iD p)))) = some (.val (.int ((p + 1 : Nat) : Int)), E10 ds n f rows (some (.fz (.list (zs.map iD)))) (some (.fz K)) x6 x7 (some (.fz (iD p)))) :=
        (op2_of (i := (p : Nat)) (j := 1) rfl rfl).trans (by rw [Int.natCast_add]; rfl)
      have e1 := ix_fz (k := 4) (j := p + 1) (ds := zs.map iD) (d := iD b) (env := E10 ds n f rows (some (.fz (.list (zs.map iD)))) (some (.fz K)) x6 x7 (some (.fz (iD p)))) rfl e0 (by rw [List.getElem?_map, hb']; rfl)
      have e2 := ix_fz (k := 4) (j := p) (ds := zs.map iD) (d := iD a) (mi := mVar 8) (env := E10 ds n f rows (some (.fz (.list (zs.map iD)))) (some (.fz K)) x6 x7 (some (.fz (iD p)))) rfl rfl (by rw [List.getElem?_map, ha]; rfl)
      have t := tst_of (eq_int (neg := false) (ix2_row (k := 2) (n := n) (g := f) (i := b) (j := a) rfl (hb b (List.mem_of_getElem? hb')) (hb a (List.mem_of_getElem? ha)) e1 e2) neg1)
      rw [Bool.false_xor] at t
      refine t.trans ?_
      have : wrD f zs (iD p) = (f b a == -1) := by
        show wr f zs ((p : Nat) : Int).toNat = _
        rw [Int.toNat_natCast]
        unfold wr
        rw [ha, hb']
      rw [this]
      rfl) (by rw [List.length_map, List.length_range]; omega)
  rw [filt_map] at c0
  have hwb : Below n (((List.range (n - 1)).filter (wr f zs)).map iD) := below_i fun x hx => by
    have := List.mem_range.mp (List.mem_filter.mp hx).1
    omega
  obtain ⟨_, ep⟩ := run_place hn hf hx
  generalize (List.range (n - 1)).filter (wr f zs) = ws at c0 hwb ep
  refine Ends.step (e := E10 ds n f rows (some (.fz (.list (zs.map iD)))) (some (.fz K)) (some (.fz (.list (ws.map iD)))) x7 none) ((asg_of (lE_of c0) rfl).trans rfl) ?_
  have hs := shaped_below hwb
  have ed : mIf (mT (mBin (gEq true) (mVar 6) (mLE (mDs mNil)))) (mBin gIx (mVar 6) (mC (.int 0))) (mC .none) (E10 ds n f rows (some (.fz (.list (zs.map iD)))) (some (.fz K)) (some (.fz (.list (ws.map iD)))) x7 none) = some (.val (hdD ws), E10 ds n f rows (some (.fz (.list (zs.map iD)))) (some (.fz K)) (some (.fz (.list (ws.map iD)))) x7 none) := by
    have t := tst_of (eq_of (neg := true) (ma := mVar 6) (mb := mLE (mDs mNil)) (env := E10 ds n f rows (some (.fz (.list (zs.map iD)))) (some (.fz K)) (some (.fz (.list (ws.map iD)))) x7 none) (p := .val (.list (ws.map iD))) (q := .val (.list [])) rfl rfl rfl rfl hs rfl)
    cases ws with
    | nil => exact gif_no t rfl
    | cons p r => exact gif_yes t (ix_fz (j := 0) (ds := (p :: r).map iD) (d := iD p) rfl rfl rfl)
  refine Ends.step (e := E10 ds n f rows (some (.fz (.list (zs.map iD)))) (some (.fz K)) (some (.fz (.list (ws.map iD)))) (some (.fz (hdD ws))) none) ((asg_of ed rfl).trans rfl) ?_
  obtain ⟨s1, s2⟩ := sh_hd ws
  generalize hdD ws = W at s1 s2 ep
  have t1 := eq_of (neg := true) (mb := mVar 7) (fz_of (call_of (mf := m_wrong_place) (ma := mCons (mVar 2) (mCons (mVar 4) mNil)) (env := E10 ds n f rows (some (.fz (.list (zs.map iD)))) (some (.fz K)) (some (.fz (.list (ws.map iD)))) (some (.fz W)) none) (ps := [.val (sqD n f), .val (.list (zs.map iD))]) (os := [.fz (sqD n f), .fz (.list (zs.map iD))]) rfl rfl ep) (d := W) rfl) rfl rfl rfl s1 s1
  rw [s2] at t1
  have t2 := eq_of (neg := true) (mb := mVar 7) (fz_of (callN_of (ix := [1, 0]) (mf := m_wrong_place) (ma := mNil) (mk := mCons (mVar 4) (mCons (mVar 2) mNil)) (env := E10 ds n f rows (some (.fz (.list (zs.map iD)))) (some (.fz K)) (some (.fz (.list (ws.map iD)))) (some (.fz W)) none) (ps := []) (qs := [.val (.list (zs.map iD)), .val (sqD n f)]) (os := [.fz (sqD n f), .fz (.list (zs.map iD))]) rfl rfl rfl ep) (d := W) rfl) rfl rfl rfl s1 s1
  rw [s2] at t2
  refine Ends.step (e := E10 ds n f rows (some (.fz (.list (zs.map iD)))) (some (.fz K)) (some (.fz (.list (ws.map iD)))) (some (.fz W)) none) (if_no (or_ff (tst_of t1) (tst_of t2)) rfl) ?_
  have t3 := ne_str (ma := mFn gRepr (mCons (mLE (mDs (mCons (mVar 2) (mCons (mVar 4) mNil)))) mNil)) (mb := mVar 5) (env := E10 ds n f rows (some (.fz (.list (zs.map iD)))) (some (.fz K)) (some (.fz (.list (ws.map iD)))) (some (.fz W)) none) (s := reprD (.list [sqD n f, .list (zs.map iD)])) (repr_any (ds_two rfl rfl) hrep) (by rw [hK]; rfl) hsh
  exact Ends.of (if_no t3 rfl) ⟨rfl, _, _, _, _, _, rfl⟩
theorem run_right {B : Int} {ds : List PyData} (hd : DrOk B ds) (hB : B + 3000 < 1000000000) :
    ∃ r os', m__law_right [.ow ds] = some (r, os') ∧ ∃ ds', r = .fz (.bool true) ∧ os' = [.ow ds'] ∧ DrOk (B + 1000) ds' := by
  refine mDef_rt rfl ?_
  have hz : 3000 ≤ sizeLine := by decide
  obtain ⟨m, ds1, m0, m1, hd1, en⟩ := next_mod (m := 13) (env := [some (.ow ds), none, none, none, none, none, none, none, none, none]) hd (by omega) (by decide) rfl
  obtain ⟨n, rfl⟩ := nat_ge m0
  have hn : n ≤ 12 := by omega
  refine Ends.step (e := [some (.ow ds1), some (.fz (.int n)), none, none, none, none, none, none, none, none]) ((asg_of (en (mC (.int 13)) rfl) rfl).trans rfl) ?_
  obtain ⟨_, _, er, ds2, f, rfl, rfl, hd2, hf⟩ := run_rule (n := n) hd1 (by omega) hn
  refine Ends.step (e := [some (.ow ds2), some (.fz (.int n)), some (.fz (sqD n f)), none, none, none, none, none, none, none]) ((asg_of (fz_of (callIo0 (ps := [.val (.int n)]) (os := [.fz (.int n)]) rfl rfl rfl er) rfl) rfl).trans rfl) ?_
  obtain ⟨_, _, e3, ds3, xs, rfl, rfl, hd3, hxs⟩ := run_mixed (n := n) hd2 (by omega) hn
  obtain ⟨_, _, e4, ds4, ys, rfl, rfl, hd4, hys⟩ := run_mixed (n := n) hd3 (by omega) hn
  refine Ends.step (e := E10 ds4 n f [.list (xs.map iD), .list (ys.map iD)] none none none none none) ((asg_of (lE_of (ds_of (cons_of (callIo0_at (ps := [.val (.int n)]) (os := [.fz (.int n)]) rfl rfl rfl e3 rfl) (cons_of (callIo0_at (ps := [.val (.int n)]) (os := [.fz (.int n)]) rfl rfl rfl e4 rfl) rfl)) rfl)) rfl).trans rfl) ?_
  have hR : Rws n [.list (xs.map iD), .list (ys.map iD)] := by
    intro d hd
    simp only [List.mem_cons, List.not_mem_nil, or_false] at hd
    rcases hd with rfl | rfl
    · exact ⟨xs, hxs, rfl⟩
    · exact ⟨ys, hys, rfl⟩
  obtain ⟨acc, e', ea, rfl, hacc, hal⟩ := lc_inv (mi := mItL (mVar 3)) (mg := mgN 4) (mt := mYes) (me := mFz (mCall m__law_inserted (mCons (mVar 2) (mCons (mVar 4) mNil)))) (vs := [4]) (env := E10 ds4 n f [.list (xs.map iD), .list (ys.map iD)] none none none none none) (e := E10 ds4 n f [.list (xs.map iD), .list (ys.map iD)] none none none none none) (ds := [.list (xs.map iD), .list (ys.map iD)])
    (fun i acc e => e = E10 ds4 n f [.list (xs.map iD), .list (ys.map iD)] none none none none none ∧ Rws n acc ∧ acc.length = i) rfl ⟨rfl, (fun _ z => nomatch z), rfl⟩ (fun i d hi acc env hj => by
      obtain ⟨rfl, h1, h2⟩ := hj
      obtain ⟨zs, hzs, rfl⟩ := hR d (List.mem_of_getElem? hi)
      obtain ⟨_, os', e5, ws, rfl, hws⟩ := run_inserted (f := f) hn hzs
      refine ⟨_, rfl, _, rfl, .val (.list (ws.map iD)), E10 ds4 n f [.list (xs.map iD), .list (ys.map iD)] (some (.fz (.list (zs.map iD)))) none none none none, fz_of (call_of (ps := [.val (sqD n f), .val (.list (zs.map iD))]) (os := [.fz (sqD n f), .fz (.list (zs.map iD))]) rfl rfl e5) rfl, .list (ws.map iD), E10 ds4 n f [.list (xs.map iD), .list (ys.map iD)] (some (.fz (.list (zs.map iD)))) none none none none, rfl, rfl, fun q hq => ?_, by rw [List.length_append, h2]; rfl⟩
      rcases List.mem_append.mp hq with h | h
      · exact h1 q h
      · cases List.mem_singleton.mp h
        exact ⟨ws, hws, rfl⟩) (by simp; omega)
  have e6 : mItL (mLE (mBinL gCat (mVar 3) (mLE (mLc (mItL (mVar 3)) (mgN 4) mYes (mFz (mCall m__law_inserted (mCons (mVar 2) (mCons (mVar 4) mNil)))) [4])))) (E10 ds4 n f [.list (xs.map iD), .list (ys.map iD)] none none none none none) = some ([.list (xs.map iD), .list (ys.map iD)] ++ acc, E10 ds4 n f [.list (xs.map iD), .list (ys.map iD)] none none none none none) :=
    itl_of (cat2 rfl (lE_of ea) (by rw [hal]; simp))
  have hAll : Rws n ([.list (xs.map iD), .list (ys.map iD)] ++ acc) := fun d hd => (List.mem_append.mp hd).elim (hR d) (hacc d)
  refine Ends.seq (P := fun e => ∃ x4 x5 x6 x7 x8, e = E10 ds4 n f [.list (xs.map iD), .list (ys.map iD)] x4 x5 x6 x7 x8) ?_ ?_
  · refine Ends.loop (ds := [.list (xs.map iD), .list (ys.map iD)] ++ acc) (fun i e => ∃ x4 x5 x6 x7 x8, e = E10 ds4 n f [.list (xs.map iD), .list (ys.map iD)] x4 x5 x6 x7 x8) e6 ⟨_, _, _, _, _, rfl⟩ ?_ fun e h => ⟨rfl, h⟩
    rintro i d hi e ⟨x4, x5, x6, x7, x8, rfl⟩
    obtain ⟨zs, hzs, rfl⟩ := hAll d (List.mem_of_getElem? hi)
    exact ⟨E10 ds4 n f [.list (xs.map iD), .list (ys.map iD)] (some (.fz (.list (zs.map iD)))) x5 x6 x7 x8, rfl, run_loop hn hf hzs⟩
  rintro e ⟨x4, x5, x6, x7, x8, rfl⟩
  obtain ⟨_, _, e7, R, rfl, hG, hRl⟩ := run_odd hn hxs
  have e8 : mItL (mFz (mCall m__law_odd_rows (mCons (mBin gIx (mVar 3) (mC (.int 0))) mNil))) (E10 ds4 n f [.list (xs.map iD), .list (ys.map iD)] x4 x5 x6 x7 x8) = some (R, E10 ds4 n f [.list (xs.map iD), .list (ys.map iD)] x4 x5 x6 x7 x8) :=
    itl_of (fz_of (call_of (ps := [.val (.list (xs.map iD))]) (os := [.fz (.list (xs.map iD))]) (cons_of (ix_fz (j := 0) (ds := [.list (xs.map iD), .list (ys.map iD)]) (d := .list (xs.map iD)) rfl rfl rfl) rfl) rfl e7) rfl)
  have e9 := lc_none_g (mg := mgT [9, 8]) (vs := [9, 8]) (me := mVar 9) (mt := (mT (mBin (gEq true) (mFz (mCall m__law_kept (mCons (mVar 2) (mCons (mVar 9) mNil)))) (mFn gRepr (mCons (mVar 8) mNil))))) (e0 := E10 ds4 n f [.list (xs.map iD), .list (ys.map iD)] x4 x5 x6 x7 none) e8 rfl (fun d hd => by
    obtain ⟨b, w, rfl, hw, hk⟩ := hG d hd
    have hwr : (isTup w = false ∧ reprOk w = true ∧ deepD w ≤ 60 ∧ (reprD w).length ≤ sizeLine) ∧ SeqAt.shaped (.str (reprD w)) = true := by
      rcases hk with rfl | ⟨k, hk, rfl⟩
      · exact ⟨none_rep, by decide +kernel⟩
      · exact ⟨int_rep hk, (int_str k (List.mem_range.mpr hk)).1⟩
    obtain ⟨_, et⟩ := told_of hn hf hw hwr.1
    refine ⟨[some (.ow ds4), some (.fz (.int n)), some (.fz (sqD n f)), some (.fz (.list [.list (xs.map iD), .list (ys.map iD)])), x4, x5, x6, x7, some (.fz w), some (.fz b)], [some (.ow ds4), some (.fz (.int n)), some (.fz (sqD n f)), some (.fz (.list [.list (xs.map iD), .list (ys.map iD)])), x4, x5, x6, x7, some (.fz w), some (.fz b)], rfl, ?_, rfl⟩
    exact ne_str (fz_of (call_of (ps := [.val (sqD n f), .val b]) (os := [.fz (sqD n f), .fz b]) rfl rfl et) rfl) (repr_any rfl hwr.1) hwr.2)
  have t := nil_of (neg := false) (xs := []) (ys := []) (lE_of e9)
  exact Ends.of (ret_of t rfl) ⟨_, _, rfl, rfl, ds4, rfl, rfl, hd4.mono (by omega)⟩
theorem law_true (K : PySem.W.Frag) (ns : List Int) (hl : ns.length ≤ 63) : ∃ os, m_law K [.sc K ns] = some (.fz (.bool true), os) := by
  have key : ∃ r os', m_law K [.sc K ns] = some (r, os') ∧ r = .fz (.bool true) := by
    refine mDef_rt rfl ?_
    obtain ⟨rs, e2, hr⟩ := law_rows (K := K) (ns := ns) (i := 3) (env := [some (.sc K ns), none, none, none]) hl (by simp) rfl rfl
    refine Ends.seq (P := fun e => ∃ x1 x2, e = [some (.sc K ns), x1, x2, none]) ?_ ?_
    · refine forM_of e2 (forM_inv (J := fun e => ∃ x1 x2, e = [some (.sc K ns), x1, x2, none]) rs _ ?_ ⟨_, _, rfl⟩)
      rintro r hr' e ⟨x1, x2, rfl⟩
      refine Ends.loop (ds := rgD 0 2) (fun t e => ∃ ds x2, e = [some (.sc K ns), some (.ow ds), x2, none] ∧ DrOk (0 + 1000 * t) ds) (rng1_nat (n := 2) rfl (by decide)) ⟨r, x2, rfl, by simpa using hr r hr'⟩ ?_ ?_
      · rintro t d ht e ⟨ds2, x2, rfl, hd2⟩
        obtain ⟨ht', rfl⟩ := rg_at ht
        obtain ⟨_, _, e3, ds3, rfl, rfl, hd3⟩ := run_right hd2 (by omega)
        refine ⟨_, rfl, Ends.of (if_no (not_of (tst_of (callIo0_at (ps := []) (os := []) rfl rfl rfl e3 rfl))) rfl) ⟨rfl, ds3, _, rfl, hd3.mono (by omega)⟩⟩
      · rintro e ⟨ds2, x2, rfl, _⟩
        exact ⟨rfl, _, _, rfl⟩
    · rintro e ⟨x1, x2, rfl⟩
      exact Ends.of rfl ⟨_, _, rfl, rfl, rfl⟩
  obtain ⟨r, os', h1, rfl⟩ := key
  exact ⟨os', h1⟩
end My
namespace My
open PySem PySem.Spec L2 Tr
/-! what the top has written; the law's own head -/
theorem all_mk {l : PySem.W.OpenLaw} {w : World} {K : PySem.W.Frag} {h : Heap} {mg : Str → Option Value} {fa : Addr} (X : K.In h) (G : h.Ns mainGlobals mg) (hfa : mg "law" = some (.ref fa))
    {f0 f1 f2 f3 f4 f5 f6 f7 f8 f9 f10 f11 f12 f13 f14 f15 f16 f17 f18 f19 f20 f21 : Addr} {od0 an0 od1 an1 od2 an2 od3 an3 od4 an4 od5 an5 od6 an6 od7 an7 od8 an8 od9 an9 od10 an10 od11 an11 od12 an12 od13 an13 od14 an14 od15 an15 od16 an16 od17 an17 od18 an18 od19 an19 od20 an20 od21 an21 : Option Addr} {sl0 sl1 sl2 sl3 sl4 sl5 sl6 sl7 sl8 sl9 sl10 sl11 sl12 sl13 sl14 sl15 sl16 sl17 sl18 sl19 sl20 sl21 : Array (Option Value)}
    {oc0 kV0 dc0 pm0 cd0 ct0 oc1 kV1 dc1 pm1 cd1 ct1 oc2 kV2 dc2 pm2 cd2 ct2 oc3 kV3 dc3 pm3 cd3 ct3 oc4 kV4 dc4 pm4 cd4 ct4 oc5 kV5 dc5 pm5 cd5 ct5 oc6 kV6 dc6 pm6 cd6 ct6 oc7 kV7 dc7 pm7 cd7 ct7 oc8 kV8 dc8 pm8 cd8 ct8 oc9 kV9 dc9 pm9 cd9 ct9 oc10 kV10 dc10 pm10 cd10 ct10 oc11 kV11 dc11 pm11 cd11 ct11 oc12 kV12 dc12 pm12 cd12 ct12 oc13 kV13 dc13 pm13 cd13 ct13 oc14 kV14 dc14 pm14 cd14 ct14 oc15 kV15 dc15 pm15 cd15 ct15 oc16 kV16 dc16 pm16 cd16 ct16 oc17 kV17 dc17 pm17 cd17 ct17 oc18 kV18 dc18 pm18 cd18 ct18 oc19 kV19 dc19 pm19 cd19 ct19 oc20 kV20 dc20 pm20 cd20 ct20 oc21 kV21 dc21 pm21 cd21 ct21 : Value}
    {C0 I0 NN0 : Addr} {nm0 q0 : Str} {bs0 sub0 : List Value} {sn0 : List Str} {ab0 : Bool} {col0 : Option Bool} {dd0 iod0 ian0 : Option Addr} {m0_0 m1_0 m2_0 m3_0 m5_0 : Option Value} {isl0 : Array (Option Value)} {ioc0 ikV0 idc0 ipm0 icd0 ict0 : Value}
    (aC0 : PySem.W.nsIn K mainGlobals "InvalidRow" = some (some (.ref C0)))
    (xL0 : K.lookup C0 = some (excClassObj nm0 q0 C0 NN0 bs0 [.type "ValueError", .type "Exception", .type "BaseException", .type "object"] true sn0 sub0 ab0 col0 dd0 m0_0 m1_0 m2_0 m3_0 m5_0 "ValueError.__new__"))
    (sa0 : PySem.W.findIn K (.ref C0) "__setattr__" = some (some (.builtin "object.__setattr__"))) (ga0 : PySem.W.findIn K (.ref C0) "__getattribute__" = some (some (.builtin "BaseException.__getattribute__"))) (gg0 : PySem.W.findIn K (.ref C0) "__getattr__" = some none) (nb0 : PySem.W.findIn K (.ref C0) "place" = some none)
    (iC0 : PySem.W.findIn K (.ref C0) "__init__" = some (some (.ref I0))) (it0 : PySem.W.typeIn K (.ref I0) = some (.type "function"))
    (il0 : K.lookup I0 = some ⟨ioc0, iod0, .func (PySem.W.fnOf "__init__" "InvalidRow.__init__" (defArgs s_I_InvalidRow) (defBody s_I_InvalidRow) (defScope s_I_InvalidRow) .none ikV0 idc0 ipm0 ian0 icd0 ict0), isl0⟩) (ic0 : PySem.W.codeIn K icd0 "InvalidRow.__init__" = true) (ik0 : PySem.W.keepIn K (.ref I0) = true)
    (kC0 : PySem.W.keepIn K (.ref C0) = true) (eC0 : PySem.W.subIn K (.ref C0) (.type "BaseException") = some true) (tC0 : PySem.W.typeIn K (.ref C0) = some (.type "type")) (hC0 : PySem.W.hasDictIn K C0 = true) (jC0 : PySem.W.isClsIn K C0 = true) (sC0 : PySem.W.subIn K (.ref C0) (.ref C0) = some true)
    (ca0 : PySem.W.findIn K (.ref C0) "__class__" = some (some (.builtin "object.__class__"))) (cm0 : PySem.W.mroIn K C0 (.type "object") = some true) (kt0 : PySem.W.subIn K (.ref C0) (.type "ValueError") = some true)
    (vV : PySem.W.findCls K (.type "ValueError") (.type "type") "__init__" = some (.val (.builtin "ValueError.__init__"))) (cn : PySem.W.specialIn K (.builtin "object.__class__") "__get__" = some (some (.builtin "getset_descriptor.__get__"))) (ct : PySem.W.takesIn K (.builtin "object.__class__") = some true)
    (a0 : PySem.W.nsIn K mainGlobals "is_whole" = some (some (.ref f0)))
    (l0 : K.lookup f0 = some ⟨oc0, od0, .func (PySem.W.fnOf "is_whole" "is_whole" (defArgs s_is_whole) (defBody s_is_whole) (defScope s_is_whole) .none kV0 dc0 pm0 an0 cd0 ct0), sl0⟩)
    (c0 : PySem.W.codeIn K cd0 "is_whole" = true) (k0 : PySem.W.keepIn K (.ref f0) = true)
    (a1 : PySem.W.nsIn K mainGlobals "is_item" = some (some (.ref f1)))
    (l1 : K.lookup f1 = some ⟨oc1, od1, .func (PySem.W.fnOf "is_item" "is_item" (defArgs s_is_item) (defBody s_is_item) (defScope s_is_item) .none kV1 dc1 pm1 an1 cd1 ct1), sl1⟩)
    (c1 : PySem.W.codeIn K cd1 "is_item" = true) (k1 : PySem.W.keepIn K (.ref f1) = true)
    (a2 : PySem.W.nsIn K mainGlobals "is_answer" = some (some (.ref f2)))
    (l2 : K.lookup f2 = some ⟨oc2, od2, .func (PySem.W.fnOf "is_answer" "is_answer" (defArgs s_is_answer) (defBody s_is_answer) (defScope s_is_answer) .none kV2 dc2 pm2 an2 cd2 ct2), sl2⟩)
    (c2 : PySem.W.codeIn K cd2 "is_answer" = true) (k2 : PySem.W.keepIn K (.ref f2) = true)
    (a3 : PySem.W.nsIn K mainGlobals "check_rule" = some (some (.ref f3)))
    (l3 : K.lookup f3 = some ⟨oc3, od3, .func (PySem.W.fnOf "check_rule" "check_rule" (defArgs s_check_rule) (defBody s_check_rule) (defScope s_check_rule) .none kV3 dc3 pm3 an3 cd3 ct3), sl3⟩)
    (c3 : PySem.W.codeIn K cd3 "check_rule" = true) (k3 : PySem.W.keepIn K (.ref f3) = true)
    (a4 : PySem.W.nsIn K mainGlobals "check_row" = some (some (.ref f4)))
    (l4 : K.lookup f4 = some ⟨oc4, od4, .func (PySem.W.fnOf "check_row" "check_row" (defArgs s_check_row) (defBody s_check_row) (defScope s_check_row) .none kV4 dc4 pm4 an4 cd4 ct4), sl4⟩)
    (c4 : PySem.W.codeIn K cd4 "check_row" = true) (k4 : PySem.W.keepIn K (.ref f4) = true)
    (a5 : PySem.W.nsIn K mainGlobals "may_precede" = some (some (.ref f5)))
    (l5 : K.lookup f5 = some ⟨oc5, od5, .func (PySem.W.fnOf "may_precede" "may_precede" (defArgs s_may_precede) (defBody s_may_precede) (defScope s_may_precede) .none kV5 dc5 pm5 an5 cd5 ct5), sl5⟩)
    (c5 : PySem.W.codeIn K cd5 "may_precede" = true) (k5 : PySem.W.keepIn K (.ref f5) = true)
    (a6 : PySem.W.nsIn K mainGlobals "first_break" = some (some (.ref f6)))
    (l6 : K.lookup f6 = some ⟨oc6, od6, .func (PySem.W.fnOf "first_break" "first_break" (defArgs s_first_break) (defBody s_first_break) (defScope s_first_break) .none kV6 dc6 pm6 an6 cd6 ct6), sl6⟩)
    (c6 : PySem.W.codeIn K cd6 "first_break" = true) (k6 : PySem.W.keepIn K (.ref f6) = true)
    (a7 : PySem.W.nsIn K mainGlobals "wrong_place" = some (some (.ref f7)))
    (l7 : K.lookup f7 = some ⟨oc7, od7, .func (PySem.W.fnOf "wrong_place" "wrong_place" (defArgs s_wrong_place) (defBody s_wrong_place) (defScope s_wrong_place) .none kV7 dc7 pm7 an7 cd7 ct7), sl7⟩)
    (c7 : PySem.W.codeIn K cd7 "wrong_place" = true) (k7 : PySem.W.keepIn K (.ref f7) = true)
    (a8 : PySem.W.nsIn K mainGlobals "_law_draws" = some (some (.ref f8)))
    (l8 : K.lookup f8 = some ⟨oc8, od8, .func (PySem.W.fnOf "_law_draws" "_law_draws" (defArgs s__law_draws) (defBody s__law_draws) (defScope s__law_draws) .none kV8 dc8 pm8 an8 cd8 ct8), sl8⟩)
    (c8 : PySem.W.codeIn K cd8 "_law_draws" = true) (k8 : PySem.W.keepIn K (.ref f8) = true)
    (a9 : PySem.W.nsIn K mainGlobals "_law_next" = some (some (.ref f9)))
    (l9 : K.lookup f9 = some ⟨oc9, od9, .func (PySem.W.fnOf "_law_next" "_law_next" (defArgs s__law_next) (defBody s__law_next) (defScope s__law_next) .none kV9 dc9 pm9 an9 cd9 ct9), sl9⟩)
    (c9 : PySem.W.codeIn K cd9 "_law_next" = true) (k9 : PySem.W.keepIn K (.ref f9) = true)
    (a10 : PySem.W.nsIn K mainGlobals "_law_with" = some (some (.ref f10)))
    (l10 : K.lookup f10 = some ⟨oc10, od10, .func (PySem.W.fnOf "_law_with" "_law_with" (defArgs s__law_with) (defBody s__law_with) (defScope s__law_with) .none kV10 dc10 pm10 an10 cd10 ct10), sl10⟩)
    (c10 : PySem.W.codeIn K cd10 "_law_with" = true) (k10 : PySem.W.keepIn K (.ref f10) = true)
    (a11 : PySem.W.nsIn K mainGlobals "_law_answers" = some (some (.ref f11)))
    (l11 : K.lookup f11 = some ⟨oc11, od11, .func (PySem.W.fnOf "_law_answers" "_law_answers" (defArgs s__law_answers) (defBody s__law_answers) (defScope s__law_answers) .none kV11 dc11 pm11 an11 cd11 ct11), sl11⟩)
    (c11 : PySem.W.codeIn K cd11 "_law_answers" = true) (k11 : PySem.W.keepIn K (.ref f11) = true)
    (a12 : PySem.W.nsIn K mainGlobals "_law_lined" = some (some (.ref f12)))
    (l12 : K.lookup f12 = some ⟨oc12, od12, .func (PySem.W.fnOf "_law_lined" "_law_lined" (defArgs s__law_lined) (defBody s__law_lined) (defScope s__law_lined) .none kV12 dc12 pm12 an12 cd12 ct12), sl12⟩)
    (c12 : PySem.W.codeIn K cd12 "_law_lined" = true) (k12 : PySem.W.keepIn K (.ref f12) = true)
    (a13 : PySem.W.nsIn K mainGlobals "_law_exchanged" = some (some (.ref f13)))
    (l13 : K.lookup f13 = some ⟨oc13, od13, .func (PySem.W.fnOf "_law_exchanged" "_law_exchanged" (defArgs s__law_exchanged) (defBody s__law_exchanged) (defScope s__law_exchanged) .none kV13 dc13 pm13 an13 cd13 ct13), sl13⟩)
    (c13 : PySem.W.codeIn K cd13 "_law_exchanged" = true) (k13 : PySem.W.keepIn K (.ref f13) = true)
    (a14 : PySem.W.nsIn K mainGlobals "_law_close" = some (some (.ref f14)))
    (l14 : K.lookup f14 = some ⟨oc14, od14, .func (PySem.W.fnOf "_law_close" "_law_close" (defArgs s__law_close) (defBody s__law_close) (defScope s__law_close) .none kV14 dc14 pm14 an14 cd14 ct14), sl14⟩)
    (c14 : PySem.W.codeIn K cd14 "_law_close" = true) (k14 : PySem.W.keepIn K (.ref f14) = true)
    (a15 : PySem.W.nsIn K mainGlobals "_law_rule" = some (some (.ref f15)))
    (l15 : K.lookup f15 = some ⟨oc15, od15, .func (PySem.W.fnOf "_law_rule" "_law_rule" (defArgs s__law_rule) (defBody s__law_rule) (defScope s__law_rule) .none kV15 dc15 pm15 an15 cd15 ct15), sl15⟩)
    (c15 : PySem.W.codeIn K cd15 "_law_rule" = true) (k15 : PySem.W.keepIn K (.ref f15) = true)
    (a16 : PySem.W.nsIn K mainGlobals "_law_inserted" = some (some (.ref f16)))
    (l16 : K.lookup f16 = some ⟨oc16, od16, .func (PySem.W.fnOf "_law_inserted" "_law_inserted" (defArgs s__law_inserted) (defBody s__law_inserted) (defScope s__law_inserted) .none kV16 dc16 pm16 an16 cd16 ct16), sl16⟩)
    (c16 : PySem.W.codeIn K cd16 "_law_inserted" = true) (k16 : PySem.W.keepIn K (.ref f16) = true)
    (a17 : PySem.W.nsIn K mainGlobals "_law_mixed" = some (some (.ref f17)))
    (l17 : K.lookup f17 = some ⟨oc17, od17, .func (PySem.W.fnOf "_law_mixed" "_law_mixed" (defArgs s__law_mixed) (defBody s__law_mixed) (defScope s__law_mixed) .none kV17 dc17 pm17 an17 cd17 ct17), sl17⟩)
    (c17 : PySem.W.codeIn K cd17 "_law_mixed" = true) (k17 : PySem.W.keepIn K (.ref f17) = true)
    (a18 : PySem.W.nsIn K mainGlobals "_law_kept" = some (some (.ref f18)))
    (l18 : K.lookup f18 = some ⟨oc18, od18, .func (PySem.W.fnOf "_law_kept" "_law_kept" (defArgs s__law_kept) (defBody s__law_kept) (defScope s__law_kept) .none kV18 dc18 pm18 an18 cd18 ct18), sl18⟩)
    (c18 : PySem.W.codeIn K cd18 "_law_kept" = true) (k18 : PySem.W.keepIn K (.ref f18) = true)
    (a19 : PySem.W.nsIn K mainGlobals "_law_odd_rows" = some (some (.ref f19)))
    (l19 : K.lookup f19 = some ⟨oc19, od19, .func (PySem.W.fnOf "_law_odd_rows" "_law_odd_rows" (defArgs s__law_odd_rows) (defBody s__law_odd_rows) (defScope s__law_odd_rows) .none kV19 dc19 pm19 an19 cd19 ct19), sl19⟩)
    (c19 : PySem.W.codeIn K cd19 "_law_odd_rows" = true) (k19 : PySem.W.keepIn K (.ref f19) = true)
    (a20 : PySem.W.nsIn K mainGlobals "_law_right" = some (some (.ref f20)))
    (l20 : K.lookup f20 = some ⟨oc20, od20, .func (PySem.W.fnOf "_law_right" "_law_right" (defArgs s__law_right) (defBody s__law_right) (defScope s__law_right) .none kV20 dc20 pm20 an20 cd20 ct20), sl20⟩)
    (c20 : PySem.W.codeIn K cd20 "_law_right" = true) (k20 : PySem.W.keepIn K (.ref f20) = true)
    (a21 : PySem.W.nsIn K mainGlobals "law" = some (some (.ref f21)))
    (l21 : K.lookup f21 = some ⟨oc21, od21, .func (PySem.W.fnOf "law" "law" (defArgs s_law) (defBody s_law) (defScope s_law) .none kV21 dc21 pm21 an21 cd21 ct21), sl21⟩)
    (c21 : PySem.W.codeIn K cd21 "law" = true) (k21 : PySem.W.keepIn K (.ref f21) = true)
    (z0 : PySem.W.nsIn K mainGlobals "ValueError" = some none)
    (z1 : PySem.W.nsIn K mainGlobals "all" = some none)
    (z2 : PySem.W.nsIn K mainGlobals "bool" = some none)
    (z3 : PySem.W.nsIn K mainGlobals "enumerate" = some none)
    (z4 : PySem.W.nsIn K mainGlobals "int" = some none)
    (z5 : PySem.W.nsIn K mainGlobals "isinstance" = some none)
    (z6 : PySem.W.nsIn K mainGlobals "len" = some none)
    (z7 : PySem.W.nsIn K mainGlobals "list" = some none)
    (z8 : PySem.W.nsIn K mainGlobals "range" = some none)
    (z9 : PySem.W.nsIn K mainGlobals "repr" = some none)
    (z10 : PySem.W.nsIn K mainGlobals "str" = some none)
    (z11 : PySem.W.nsIn K mainGlobals "tuple" = some none)
    : ∃ fd : FuncData, (∀ (s : Shared) (v : Value), BindsTo s fd ⟨[v], []⟩ [("script", v)]) ∧ ∀ base : Heap, K.In base → base.Ns mainGlobals mg → FnG l.prog w K mg base 7 fa fd ["script"] (spOf none (m_law K)) := by
  have e := hfa.symm.trans (PySem.W.mg_of X G a21)
  cases e
  have F0 := fun_mk (st := s_is_whole) l0 c0 k0
  have F1 := fun_mk (st := s_is_item) l1 c1 k1
  have F2 := fun_mk (st := s_is_answer) l2 c2 k2
  have F3 := fun_mk (st := s_check_rule) l3 c3 k3
  have F4 := fun_mk (st := s_check_row) l4 c4 k4
  have F5 := fun_mk (st := s_may_precede) l5 c5 k5
  have F6 := fun_mk (st := s_first_break) l6 c6 k6
  have F7 := fun_mk (st := s_wrong_place) l7 c7 k7
  have F8 := fun_mk (st := s__law_draws) l8 c8 k8
  have F9 := fun_mk (st := s__law_next) l9 c9 k9
  have F10 := fun_mk (st := s__law_with) l10 c10 k10
  have F11 := fun_mk (st := s__law_answers) l11 c11 k11
  have F12 := fun_mk (st := s__law_lined) l12 c12 k12
  have F13 := fun_mk (st := s__law_exchanged) l13 c13 k13
  have F14 := fun_mk (st := s__law_close) l14 c14 k14
  have F15 := fun_mk (st := s__law_rule) l15 c15 k15
  have F16 := fun_mk (st := s__law_inserted) l16 c16 k16
  have F17 := fun_mk (st := s__law_mixed) l17 c17 k17
  have F18 := fun_mk (st := s__law_kept) l18 c18 k18
  have F19 := fun_mk (st := s__law_odd_rows) l19 c19 k19
  have F20 := fun_mk (st := s__law_right) l20 c20 k20
  have F21 := fun_mk (st := s_law) l21 c21 k21
  have IF0 := fun_mk (st := s_I_InvalidRow) il0 ic0 ik0
  have T : Tx K mg (fun i => match i with | 0 => f0 | 1 => f1 | 2 => f2 | 3 => f3 | 4 => f4 | 5 => f5 | 6 => f6 | 7 => f7 | 8 => f8 | 9 => f9 | 10 => f10 | 11 => f11 | 12 => f12 | 13 => f13 | 14 => f14 | 15 => f15 | 16 => f16 | 17 => f17 | 18 => f18 | 19 => f19 | 20 => f20 | _ => fa) (fun i => match i with
      | 0 => PySem.W.fnOf "is_whole" "is_whole" (defArgs s_is_whole) (defBody s_is_whole) (defScope s_is_whole) .none kV0 dc0 pm0 an0 cd0 ct0
      | 1 => PySem.W.fnOf "is_item" "is_item" (defArgs s_is_item) (defBody s_is_item) (defScope s_is_item) .none kV1 dc1 pm1 an1 cd1 ct1
      | 2 => PySem.W.fnOf "is_answer" "is_answer" (defArgs s_is_answer) (defBody s_is_answer) (defScope s_is_answer) .none kV2 dc2 pm2 an2 cd2 ct2
      | 3 => PySem.W.fnOf "check_rule" "check_rule" (defArgs s_check_rule) (defBody s_check_rule) (defScope s_check_rule) .none kV3 dc3 pm3 an3 cd3 ct3
      | 4 => PySem.W.fnOf "check_row" "check_row" (defArgs s_check_row) (defBody s_check_row) (defScope s_check_row) .none kV4 dc4 pm4 an4 cd4 ct4
      | 5 => PySem.W.fnOf "may_precede" "may_precede" (defArgs s_may_precede) (defBody s_may_precede) (defScope s_may_precede) .none kV5 dc5 pm5 an5 cd5 ct5
      | 6 => PySem.W.fnOf "first_break" "first_break" (defArgs s_first_break) (defBody s_first_break) (defScope s_first_break) .none kV6 dc6 pm6 an6 cd6 ct6
      | 7 => PySem.W.fnOf "wrong_place" "wrong_place" (defArgs s_wrong_place) (defBody s_wrong_place) (defScope s_wrong_place) .none kV7 dc7 pm7 an7 cd7 ct7
      | 8 => PySem.W.fnOf "_law_draws" "_law_draws" (defArgs s__law_draws) (defBody s__law_draws) (defScope s__law_draws) .none kV8 dc8 pm8 an8 cd8 ct8
      | 9 => PySem.W.fnOf "_law_next" "_law_next" (defArgs s__law_next) (defBody s__law_next) (defScope s__law_next) .none kV9 dc9 pm9 an9 cd9 ct9
      | 10 => PySem.W.fnOf "_law_with" "_law_with" (defArgs s__law_with) (defBody s__law_with) (defScope s__law_with) .none kV10 dc10 pm10 an10 cd10 ct10
      | 11 => PySem.W.fnOf "_law_answers" "_law_answers" (defArgs s__law_answers) (defBody s__law_answers) (defScope s__law_answers) .none kV11 dc11 pm11 an11 cd11 ct11
      | 12 => PySem.W.fnOf "_law_lined" "_law_lined" (defArgs s__law_lined) (defBody s__law_lined) (defScope s__law_lined) .none kV12 dc12 pm12 an12 cd12 ct12
      | 13 => PySem.W.fnOf "_law_exchanged" "_law_exchanged" (defArgs s__law_exchanged) (defBody s__law_exchanged) (defScope s__law_exchanged) .none kV13 dc13 pm13 an13 cd13 ct13
      | 14 => PySem.W.fnOf "_law_close" "_law_close" (defArgs s__law_close) (defBody s__law_close) (defScope s__law_close) .none kV14 dc14 pm14 an14 cd14 ct14
      | 15 => PySem.W.fnOf "_law_rule" "_law_rule" (defArgs s__law_rule) (defBody s__law_rule) (defScope s__law_rule) .none kV15 dc15 pm15 an15 cd15 ct15
      | 16 => PySem.W.fnOf "_law_inserted" "_law_inserted" (defArgs s__law_inserted) (defBody s__law_inserted) (defScope s__law_inserted) .none kV16 dc16 pm16 an16 cd16 ct16
      | 17 => PySem.W.fnOf "_law_mixed" "_law_mixed" (defArgs s__law_mixed) (defBody s__law_mixed) (defScope s__law_mixed) .none kV17 dc17 pm17 an17 cd17 ct17
      | 18 => PySem.W.fnOf "_law_kept" "_law_kept" (defArgs s__law_kept) (defBody s__law_kept) (defScope s__law_kept) .none kV18 dc18 pm18 an18 cd18 ct18
      | 19 => PySem.W.fnOf "_law_odd_rows" "_law_odd_rows" (defArgs s__law_odd_rows) (defBody s__law_odd_rows) (defScope s__law_odd_rows) .none kV19 dc19 pm19 an19 cd19 ct19
      | 20 => PySem.W.fnOf "_law_right" "_law_right" (defArgs s__law_right) (defBody s__law_right) (defScope s__law_right) .none kV20 dc20 pm20 an20 cd20 ct20
      | _ => PySem.W.fnOf "law" "law" (defArgs s_law) (defBody s_law) (defScope s_law) .none kV21 dc21 pm21 an21 cd21 ct21)
      (fun i => match i with | _ => C0) (fun i => match i with | _ => I0) (fun i => match i with | _ => PySem.W.fnOf "__init__" "InvalidRow.__init__" (defArgs s_I_InvalidRow) (defBody s_I_InvalidRow) (defScope s_I_InvalidRow) .none ikV0 idc0 ipm0 ian0 icd0 ict0) := by
    refine ⟨?_, ?_, ?_, ?_, ?_, ?_, ?_, ?_, ?_, ?_, ?_, ?_, ?_, ?_, ?_, ?_, ?_, ?_, ?_, ?_, ?_, ?_, ?_, ?_, ?_, ?_, ?_, ?_, ?_, ?_, ?_, ?_, ?_, ?_, ?_, ?_, ?_, ?_, ?_, ?_, ?_, ?_, ?_, ?_, ?_, ?_, ?_, ?_, ?_, ?_, ?_, ?_, ?_, ?_, ?_, ?_, ?_, ?_, ?_, ?_, ?_, ?_, ?_, ?_, ?_, ?_, ?_, ?_, ?_, ?_, ?_, ?_, ?_, ?_, ?_, ?_, ?_, ?_, ?_, ?_, ?_, ?_, ?_, ?_, ?_, ?_, ?_, ?_, ?_⟩
    · exact F0
    · exact PySem.W.mg_of X G a0
    · exact F0.binds fun _ _ _ _ _ _ us hl => match us, hl with | [_], _ => rfl
    · exact F1
    · exact PySem.W.mg_of X G a1
    · exact F1.binds fun _ _ _ _ _ _ us hl => match us, hl with | [_, _], _ => rfl
    · exact F2
    · exact PySem.W.mg_of X G a2
    · exact F2.binds fun _ _ _ _ _ _ us hl => match us, hl with | [_], _ => rfl
    · exact F3
    · exact PySem.W.mg_of X G a3
    · exact F3.binds fun _ _ _ _ _ _ us hl => match us, hl with | [_], _ => rfl
    · exact F4
    · exact PySem.W.mg_of X G a4
    · exact F4.binds fun _ _ _ _ _ _ us hl => match us, hl with | [_, _], _ => rfl
    · exact F5
    · exact PySem.W.mg_of X G a5
    · exact F5.binds fun _ _ _ _ _ _ us hl => match us, hl with | [_, _, _], _ => rfl
    · exact F6
    · exact PySem.W.mg_of X G a6
    · exact F6.binds fun _ _ _ _ _ _ us hl => match us, hl with | [_, _], _ => rfl
    · exact F7
    · exact PySem.W.mg_of X G a7
    · exact F7.binds fun _ _ _ _ _ _ us hl => match us, hl with | [_, _], _ => rfl
    · exact F8
    · exact PySem.W.mg_of X G a8
    · exact F8.binds fun _ _ _ _ _ _ us hl => match us, hl with | [_], _ => rfl
    · exact F9
    · exact PySem.W.mg_of X G a9
    · exact F9.binds fun _ _ _ _ _ _ us hl => match us, hl with | [_], _ => rfl
    · exact F10
    · exact PySem.W.mg_of X G a10
    · exact F10.binds fun _ _ _ _ _ _ us hl => match us, hl with | [_, _, _], _ => rfl
    · exact F11
    · exact PySem.W.mg_of X G a11
    · exact F11.binds fun _ _ _ _ _ _ us hl => match us, hl with | [_, _, _], _ => rfl
    · exact F12
    · exact PySem.W.mg_of X G a12
    · exact F12.binds fun _ _ _ _ _ _ us hl => match us, hl with | [_, _], _ => rfl
    · exact F13
    · exact PySem.W.mg_of X G a13
    · exact F13.binds fun _ _ _ _ _ _ us hl => match us, hl with | [_, _], _ => rfl
    · exact F14
    · exact PySem.W.mg_of X G a14
    · exact F14.binds fun _ _ _ _ _ _ us hl => match us, hl with | [_, _], _ => rfl
    · exact F15
    · exact PySem.W.mg_of X G a15
    · exact F15.binds fun _ _ _ _ _ _ us hl => match us, hl with | [_, _], _ => rfl
    · exact F16
    · exact PySem.W.mg_of X G a16
    · exact F16.binds fun _ _ _ _ _ _ us hl => match us, hl with | [_, _], _ => rfl
    · exact F17
    · exact PySem.W.mg_of X G a17
    · exact F17.binds fun _ _ _ _ _ _ us hl => match us, hl with | [_, _], _ => rfl
    · exact F18
    · exact PySem.W.mg_of X G a18
    · exact F18.binds fun _ _ _ _ _ _ us hl => match us, hl with | [_, _], _ => rfl
    · exact F19
    · exact PySem.W.mg_of X G a19
    · exact F19.binds fun _ _ _ _ _ _ us hl => match us, hl with | [_], _ => rfl
    · exact F20
    · exact PySem.W.mg_of X G a20
    · exact F20.binds fun _ _ _ _ _ _ us hl => match us, hl with | [_], _ => rfl
    · exact F21
    · exact PySem.W.mg_of X G a21
    · exact F21.binds fun _ _ _ _ _ _ us hl => match us, hl with | [_], _ => rfl
    · exact PySem.W.mg_none_of X G z0
    · exact PySem.W.mg_none_of X G z1
    · exact PySem.W.mg_none_of X G z2
    · exact PySem.W.mg_none_of X G z3
    · exact PySem.W.mg_none_of X G z4
    · exact PySem.W.mg_none_of X G z5
    · exact PySem.W.mg_none_of X G z6
    · exact PySem.W.mg_none_of X G z7
    · exact PySem.W.mg_none_of X G z8
    · exact PySem.W.mg_none_of X G z9
    · exact PySem.W.mg_none_of X G z10
    · exact PySem.W.mg_none_of X G z11
    · exact vV
    · exact ⟨⟨nm0, q0, NN0, bs0, _, sn0, sub0, ab0, col0, dd0, m0_0, m1_0, m2_0, m3_0, m5_0, xL0, by decide +kernel⟩, sa0, eC0, tC0, kC0⟩
    · exact iC0
    · exact it0
    · exact IF0
    · exact IF0.binds fun _ _ _ _ _ _ us hl => match us, hl with | [_, _], _ => rfl
    · exact PySem.W.mg_of X G aC0
    · exact nb0
    · exact ⟨ga0, gg0, eC0, hC0, nb0, jC0, ca0, cn, ct, cm0⟩
    · exact PySem.W.exm_ref eC0 hC0 tC0 sC0
    · exact Tr.kit_ve kt0
  exact ⟨_, fun s v => .of_eq rfl, fun base _ _ => ok_law T⟩
end My
open PySem PySem.W PyProof.Rows
set_option maxHeartbeats 0 in
theorem PySem.Challenge.cw_knotsorts_k08_rows_that_are_paths_holds : PySem.Challenge.rw_knotsorts_k08_rows_that_are_paths.Holds := by
  w_on; o_law; k_head; (case hw => w_witness2)
  k_fill
  refine Tr.walkG (l := PySem.Challenge.rw_knotsorts_k08_rows_that_are_paths) (n := 63) (k := 7) (x := "script") (mf := My.m_law) rfl (by decide) rfl ⟨rfl, by decide, by decide⟩ (fun w h Y => PySem.W.kIn_of Y) ?F My.law_true
  case F =>
    intro w mg fa h KX G hmg
    refine' My.all_mk KX G hmg ?aC0 ?xL0 ?sa0 ?ga0 ?gg0 ?nb0 ?iC0 ?it0 ?il0 ?ic0 ?ik0 ?kC0 ?eC0 ?tC0 ?hC0 ?jC0 ?sC0 ?ca0 ?cm0 ?kt0 ?vV ?cn ?ct ?a0 ?l0 ?c0 ?k0 ?a1 ?l1 ?c1 ?k1 ?a2 ?l2 ?c2 ?k2 ?a3 ?l3 ?c3 ?k3 ?a4 ?l4 ?c4 ?k4 ?a5 ?l5 ?c5 ?k5 ?a6 ?l6 ?c6 ?k6 ?a7 ?l7 ?c7 ?k7 ?a8 ?l8 ?c8 ?k8 ?a9 ?l9 ?c9 ?k9 ?a10 ?l10 ?c10 ?k10 ?a11 ?l11 ?c11 ?k11 ?a12 ?l12 ?c12 ?k12 ?a13 ?l13 ?c13 ?k13 ?a14 ?l14 ?c14 ?k14 ?a15 ?l15 ?c15 ?k15 ?a16 ?l16 ?c16 ?k16 ?a17 ?l17 ?c17 ?k17 ?a18 ?l18 ?c18 ?k18 ?a19 ?l19 ?c19 ?k19 ?a20 ?l20 ?c20 ?k20 ?a21 ?l21 ?c21 ?k21 ?z0 ?z1 ?z2 ?z3 ?z4 ?z5 ?z6 ?z7 ?z8 ?z9 ?z10 ?z11
    (case aC0 => k_is)
    (case xL0 => k_is)
    (case sa0 => k_is)
    (case ga0 => k_is)
    (case gg0 => k_is)
    (case nb0 => k_is)
    (case iC0 => k_is)
    (case it0 => k_is)
    (case il0 => k_is)
    (case ic0 => k_is)
    (case ik0 => k_is)
    (case kC0 => k_is)
    (case eC0 => k_is)
    (case tC0 => k_is)
    (case hC0 => k_is)
    (case jC0 => k_is)
    (case sC0 => first | rfl | k_is)
    (case ca0 => k_is)
    (case cm0 => k_is)
    (case kt0 => k_is)
    (case vV => k_is)
    (case cn => k_is)
    (case ct => k_is)
    (case a0 => k_is)
    (case l0 => k_is)
    (case c0 => k_is)
    (case k0 => k_is)
    (case a1 => k_is)
    (case l1 => k_is)
    (case c1 => k_is)
    (case k1 => k_is)
    (case a2 => k_is)
    (case l2 => k_is)
    (case c2 => k_is)
    (case k2 => k_is)
    (case a3 => k_is)
    (case l3 => k_is)
    (case c3 => k_is)
    (case k3 => k_is)
    (case a4 => k_is)
    (case l4 => k_is)
    (case c4 => k_is)
    (case k4 => k_is)
    (case a5 => k_is)
    (case l5 => k_is)
    (case c5 => k_is)
    (case k5 => k_is)
    (case a6 => k_is)
    (case l6 => k_is)
    (case c6 => k_is)
    (case k6 => k_is)
    (case a7 => k_is)
    (case l7 => k_is)
    (case c7 => k_is)
    (case k7 => k_is)
    (case a8 => k_is)
    (case l8 => k_is)
    (case c8 => k_is)
    (case k8 => k_is)
    (case a9 => k_is)
    (case l9 => k_is)
    (case c9 => k_is)
    (case k9 => k_is)
    (case a10 => k_is)
    (case l10 => k_is)
    (case c10 => k_is)
    (case k10 => k_is)
    (case a11 => k_is)
    (case l11 => k_is)
    (case c11 => k_is)
    (case k11 => k_is)
    (case a12 => k_is)
    (case l12 => k_is)
    (case c12 => k_is)
    (case k12 => k_is)
    (case a13 => k_is)
    (case l13 => k_is)
    (case c13 => k_is)
    (case k13 => k_is)
    (case a14 => k_is)
    (case l14 => k_is)
    (case c14 => k_is)
    (case k14 => k_is)
    (case a15 => k_is)
    (case l15 => k_is)
    (case c15 => k_is)
    (case k15 => k_is)
    (case a16 => k_is)
    (case l16 => k_is)
    (case c16 => k_is)
    (case k16 => k_is)
    (case a17 => k_is)
    (case l17 => k_is)
    (case c17 => k_is)
    (case k17 => k_is)
    (case a18 => k_is)
    (case l18 => k_is)
    (case c18 => k_is)
    (case k18 => k_is)
    (case a19 => k_is)
    (case l19 => k_is)
    (case c19 => k_is)
    (case k19 => k_is)
    (case a20 => k_is)
    (case l20 => k_is)
    (case c20 => k_is)
    (case k20 => k_is)
    (case a21 => k_is)
    (case l21 => k_is)
    (case c21 => k_is)
    (case k21 => k_is)
    (case z0 => k_is)
    (case z1 => k_is)
    (case z2 => k_is)
    (case z3 => k_is)
    (case z4 => k_is)
    (case z5 => k_is)
    (case z6 => k_is)
    (case z7 => k_is)
    (case z8 => k_is)
    (case z9 => k_is)
    (case z10 => k_is)
    (case z11 => k_is)

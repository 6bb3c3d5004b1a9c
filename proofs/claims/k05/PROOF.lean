import PyProof.Rows.All
import Wide.All
import OpenK.AllK
import Wide.FinOn
import HandS.ForMost
import HandS.Wide
import HandS.Zip
import HandS.IsInst
import HandS.Style
import HandS.Defaults
import HandS.Deep
import HandS.StrMore
import HandS.Exc
import HandS.ExcOwn
import HandS.TryMany
import PyProof.ReprRoads
import HandS.Flow
import HandS.SortInts
import HandS.Text
import HandS.ExcCtx
import HandS.Conv
import PyProof.LongRange
import HandS.DictComp
import KE.GoesEnum
import KE.GoesMore
import HandS.Rev
import HandS.SortKw
import KE.DataMinMax
import HandS.SetFor
import HandS.Gcd
import HandS.Iter
import KE.KDictZip
import HandS.ExcIs
import HandS.ExcField
import HandS.Hot
import HandS.HotCalls
import PyProof.TupleIter
import HandS.ExcInit
import KE.KSuper
import KE.KExcSuper
import PyProof.FString2
import PyProof.P3Eq
import PySem.Challenge.RW_litdigits_k05_displays_and_lit_ticks
set_option Elab.async false
set_option linter.all false
set_option maxRecDepth 100000
set_option maxHeartbeats 2000000
namespace Ev
open PySem PySem.Spec PyProof.Rows L2

abbrev D := PyData
abbrev Ro := List (Option (D × Bool))

/-! ## values and data -/
/-- a list that is read: tracked, or one that stands in the written part -/
def Ls (K : PySem.W.Frag) (H : Hp) (a : Addr) (xs : List V) : Prop := Rd H a (.lst xs) ∨ ∃ (its : List Value) (n : Nat), K.lookup a = some { cls := .type "list", data := .seq its.toArray n } ∧ its.length ≤ sizeLine ∧ Vals xs its
mutual
inductive Rp (K : PySem.W.Frag) (H : Hp) : V → D → Prop
  | non : Rp K H .non .none
  | bl (b : Bool) : Rp K H (.bl b) (.bool b)
  | int (i : Int) : Rp K H (.int i) (.int i)
  | str (x : Str) : Rp K H (.str x) (.str x)
  | lst {a : Addr} {xs : List V} {ds : List D} : Ls K H a xs → RpAll K H xs ds → Rp K H (.ref a) (.list ds)
  | tup {a : Addr} {xs : List V} {ds : List D} : SqT K H a xs → RpAll K H xs ds → Rp K H (.ref a) (.tuple ds)
  | dct {a : Addr} {kvs : List (Key × V)} {ds : List (D × D)} : H a = some (.dK kvs) → RpKv K H kvs ds → Rp K H (.ref a) (.dict ds)
inductive RpAll (K : PySem.W.Frag) (H : Hp) : List V → List D → Prop
  | nil : RpAll K H [] []
  | cons {v : V} {vs : List V} {d : D} {ds : List D} : Rp K H v d → RpAll K H vs ds → RpAll K H (v :: vs) (d :: ds)
inductive RpKv (K : PySem.W.Frag) (H : Hp) : List (Key × V) → List (D × D) → Prop
  | nil : RpKv K H [] []
  | cons {k : Key} {v : V} {kvs : List (Key × V)} {e d : D} {ds : List (D × D)} : Rp K H (kV k) e → Rp K H v d → RpKv K H kvs ds → RpKv K H ((k, v) :: kvs) ((e, d) :: ds)
end

theorem Same.seqT {K : PySem.W.Frag} {H H' : Hp} {a : Addr} {xs : List V} (e : Same H H') (h : SqT K H a xs) : SqT K H' a xs := by
  rcases h with (h | ⟨o, h⟩) | h
  · exact .inl (.inl (e _ _ h))
  · exact .inl (.inr ⟨o, e _ _ h⟩)
  · exact .inr h
theorem Same.rd {H H' : Hp} {a : Addr} {u : HO} (e : Same H H') (h : Rd H a u) : Rd H' a u := by
  rcases h with h | ⟨o, h⟩
  · exact .inl (e _ _ h)
  · exact .inr ⟨o, e _ _ h⟩
theorem Same.ls {K : PySem.W.Frag} {H H' : Hp} {a : Addr} {xs : List V} (e : Same H H') (h : Ls K H a xs) : Ls K H' a xs := by
  rcases h with h | h
  · exact .inl (Same.rd e h)
  · exact .inr h
theorem Ls.seq {K : PySem.W.Frag} {H : Hp} {a : Addr} {xs : List V} (h : Ls K H a xs) : SqL K H a xs := by
  rcases h with h | ⟨its, n, h1, h2, h3⟩
  · exact .inl h
  · exact .inr ⟨_, its.toArray, n, h1, rfl, rfl, rfl, by simpa using h2, by simpa using h3⟩
theorem Ls.of {K : PySem.W.Frag} {H : Hp} {a : Addr} {xs : List V} (h : H a = some (.lst xs)) : Ls K H a xs := .inl (Rd.of h)
theorem Ls.isL {X : Cx} {pins : List (Addr × Obj)} {σ : L2.St} {H : Hp} {s : Shared} {a : Addr} {xs : List V} (h : Ls X.K H a xs) (I : L2.Inv X pins σ H s) : ∃ (z : xs.length ≤ sizeLine) (its : List Value) (n : Nat), ∃ (r : Vals xs its), s.heap.get? a = some { cls := .type "list", data := .seq its.toArray n } := by
  rcases h with h | ⟨its, n, h1, h2, h3⟩
  · obtain ⟨z, its, n, r, e⟩ := h.ok I.hok
    exact ⟨z, its, n, r, e⟩
  · exact ⟨by rw [h3.length]; exact h2, its, n, h3, I.kIn _ _ h1⟩
section
variable {K : PySem.W.Frag} {H H' : Hp}
mutual
theorem Rp.mono (e : Same H H') : ∀ {v : V} {d : D}, Rp K H v d → Rp K H' v d
  | _, _, .non => .non
  | _, _, .bl b => .bl b
  | _, _, .int b => .int b
  | _, _, .str b => .str b
  | _, _, .lst s r => .lst (Same.ls e s) (RpAll.mono e r)
  | _, _, .tup s r => .tup (Same.seqT e s) (RpAll.mono e r)
  | _, _, .dct s r => .dct (e _ _ s) (RpKv.mono e r)
theorem RpAll.mono (e : Same H H') : ∀ {v : List V} {d : List D}, RpAll K H v d → RpAll K H' v d
  | _, _, .nil => .nil
  | _, _, .cons a b => .cons (Rp.mono e a) (RpAll.mono e b)
theorem RpKv.mono (e : Same H H') : ∀ {v : List (Key × V)} {d : List (D × D)}, RpKv K H v d → RpKv K H' v d
  | _, _, .nil => .nil
  | _, _, .cons a b c => .cons (Rp.mono e a) (Rp.mono e b) (RpKv.mono e c)
end
theorem RpAll.length : ∀ {v : List V} {d : List D}, RpAll K H v d → v.length = d.length
  | _, _, .nil => rfl
  | _, _, .cons _ b => by rw [List.length_cons, List.length_cons, RpAll.length b]
theorem RpAll.get : ∀ {v : List V} {d : List D} {i : Nat} {x : D}, RpAll K H v d → d[i]? = some x → ∃ y, v[i]? = some y ∧ Rp K H y x
  | _, _, _, _, .nil, h => by simp at h
  | _, _, 0, _, .cons a _, h => by
    simp only [List.getElem?_cons_zero, Option.some.injEq] at h
    subst h
    exact ⟨_, rfl, a⟩
  | _, _, i + 1, x, .cons _ b, h => by
    simp only [List.getElem?_cons_succ] at h
    obtain ⟨y, h1, h2⟩ := RpAll.get b h
    exact ⟨y, by simpa using h1, h2⟩
theorem RpAll.getV : ∀ {v : List V} {d : List D} {i : Nat} {y : V}, RpAll K H v d → v[i]? = some y → ∃ x, d[i]? = some x ∧ Rp K H y x
  | _, _, _, _, .nil, h => by simp at h
  | _, _, 0, _, .cons a _, h => by
    simp only [List.getElem?_cons_zero, Option.some.injEq] at h
    subst h
    exact ⟨_, rfl, a⟩
  | _, _, i + 1, x, .cons _ b, h => by
    simp only [List.getElem?_cons_succ] at h
    obtain ⟨y, h1, h2⟩ := RpAll.getV b h
    exact ⟨y, by simpa using h1, h2⟩
theorem RpAll.append : ∀ {v w : List V} {d e : List D}, RpAll K H v d → RpAll K H w e → RpAll K H (v ++ w) (d ++ e)
  | _, _, _, _, .nil, h => h
  | _, _, _, _, .cons a b, h => .cons a (RpAll.append b h)
theorem RpAll.snoc {v : List V} {d : List D} {x : V} {y : D} (h : RpAll K H v d) (r : Rp K H x y) : RpAll K H (v ++ [x]) (d ++ [y]) := h.append (.cons r .nil)
theorem RpAll.take : ∀ (n : Nat) {v : List V} {d : List D}, RpAll K H v d → RpAll K H (v.take n) (d.take n)
  | 0, _, _, _ => by simpa using RpAll.nil
  | n + 1, _, _, .nil => .nil
  | n + 1, _, _, .cons a b => .cons a (RpAll.take n b)
theorem RpAll.drop : ∀ (n : Nat) {v : List V} {d : List D}, RpAll K H v d → RpAll K H (v.drop n) (d.drop n)
  | 0, _, _, h => by simpa using h
  | n + 1, _, _, .nil => .nil
  | n + 1, _, _, .cons a b => RpAll.drop n b
theorem RpAll.reverse : ∀ {v : List V} {d : List D}, RpAll K H v d → RpAll K H v.reverse d.reverse
  | _, _, .nil => .nil
  | _, _, .cons a b => by
    rw [List.reverse_cons, List.reverse_cons]
    exact (RpAll.reverse b).snoc a
theorem RpAll.set : ∀ {v : List V} {d : List D} {x : V} {y : D} (i : Nat), RpAll K H v d → Rp K H x y → RpAll K H (v.set i x) (d.set i y)
  | _, _, _, _, _, .nil, _ => .nil
  | _, _, _, _, 0, .cons _ b, r => .cons r b
  | _, _, _, _, i + 1, .cons a b, r => .cons a (RpAll.set i b r)
end

/-! ## the heap in two parts: G, that never changes, and what is owned -/
/-- only new objects come -/
structure Ext (G H G' H' : Hp) : Prop where
  g : Same G G'
  gh : Same G' H'
  hold : ∀ b, H b ≠ none → H' b = H b
  gold : ∀ b, H b ≠ none → G' b = G b
theorem Ext.refl {G H : Hp} (s : Same G H) : Ext G H G H := ⟨Same.refl G, s, fun _ _ => rfl, fun _ _ => rfl⟩
theorem same_new {H : Hp} {p : Addr} {o : HO} (h : H p = none) : Same H (upd H p o) := fun b x e => by
  rw [upd_ne (ne_of_none e h)]
  exact e
theorem Same.none {G H : Hp} (s : Same G H) {p : Addr} (h : H p = none) : G p = none := Same.free s h
theorem Ext.new {G H : Hp} {p : Addr} {o : HO} (s : Same G H) (h : H p = none) : Ext G H (upd G p o) (upd H p o) where
  g := same_new (Same.none s h)
  gh := fun b x e => by
    by_cases hb : b = p
    · subst hb
      rw [upd_same] at e ⊢
      exact e
    · rw [upd_ne hb] at e ⊢
      exact s _ _ e
  hold := fun b hb => by rw [upd_ne (fun z => hb (by rw [z]; exact h))]
  gold := fun b hb => by rw [upd_ne (fun z => hb (by rw [z]; exact h))]
/-- a new object of which G does not tell yet -/
theorem Ext.hid {G H : Hp} {p : Addr} {o : HO} (s : Same G H) (h : H p = none) : Ext G H G (upd H p o) where
  g := Same.refl G
  gh := fun b x e => by
    rw [upd_ne (ne_of_none (s _ _ e) h)]
    exact s _ _ e
  hold := fun b hb => by rw [upd_ne (fun z => hb (by rw [z]; exact h))]
  gold := fun b hb => rfl
theorem Ext.trans {G H G1 H1 G2 H2 : Hp} (a : Ext G H G1 H1) (b : Ext G1 H1 G2 H2) : Ext G H G2 H2 where
  g := Same.trans a.g b.g
  gh := b.gh
  hold := fun x hx => by rw [b.hold x (by rw [a.hold x hx]; exact hx), a.hold x hx]
  gold := fun x hx => by rw [b.gold x (by rw [a.hold x hx]; exact hx), a.gold x hx]

/-- what an owned object holds -/
def OwH (K : PySem.W.Frag) (G : Hp) : D → HO → Prop
  | .list ds, .lst xs => RpAll K G xs ds
  | .dict ds, .dK kvs => RpKv K G kvs ds
  | _, _ => False
theorem OwH.mono {K : PySem.W.Frag} {G G' : Hp} {d : D} {o : HO} (e : Same G G') (h : OwH K G d o) : OwH K G' d o := by
  cases d <;> cases o <;> first | exact h.elim | exact RpAll.mono e h | exact RpKv.mono e h
theorem OwH.lst {K : PySem.W.Frag} {G : Hp} {ds : List D} {o : HO} (h : OwH K G (.list ds) o) : ∃ xs, o = .lst xs ∧ RpAll K G xs ds := by
  cases o <;> first | exact h.elim | exact ⟨_, rfl, h⟩
theorem OwH.dct {K : PySem.W.Frag} {G : Hp} {ds : List (D × D)} {o : HO} (h : OwH K G (.dict ds) o) : ∃ kvs, o = .dK kvs ∧ RpKv K G kvs ds := by
  cases o <;> first | exact h.elim | exact ⟨_, rfl, h⟩
/-- the owned object, as a value -/
theorem OwH.rp {K : PySem.W.Frag} {G H : Hp} {d : D} {o : HO} {a : Addr} (h : OwH K G d o) (e : Same G H) (ha : H a = some o) : Rp K H (.ref a) d := by
  cases d <;> cases o <;> first | exact h.elim | exact .lst (Ls.of ha) (RpAll.mono e h) | exact .dct ha (RpKv.mono e h)
/-- the frame's state -/
structure Fm (K : PySem.W.Frag) (Z : Addr → Prop) (H0 : Hp) (io : Option Addr) (ρ : Ro) (G : Hp) (σ : L2.St) (H : Hp) : Prop where
  sub : Same G H
  len : ρ.length = σ.length
  un : ∀ (i : Nat) (d : D), ρ[i]? = some (some (d, false)) → ∃ v, σ[i]? = some (some v) ∧ Rp K G v d
  ow : ∀ (i : Nat) (d : D), ρ[i]? = some (some (d, true)) → ∃ a o, σ[i]? = some (some (.ref a)) ∧ H a = some o ∧ G a = none ∧ ¬ Z a ∧ OwH K G d o
  dis : ∀ (i j : Nat) (d e : D) (a : Addr), ρ[i]? = some (some (d, true)) → ρ[j]? = some (some (e, true)) → σ[i]? = some (some (.ref a)) → σ[j]? = some (some (.ref a)) → i = j
  zg : ∀ b, Z b → G b = none ∧ H b = H0 b ∧ H0 b ≠ none
  at0 : ∀ a, io = some a → σ[0]? = some (some (.ref a))

section
variable {K : PySem.W.Frag} {Z : Addr → Prop} {H0 : Hp} {io : Option Addr} {ρ : Ro} {G G' H H' : Hp} {σ : L2.St}
theorem Fm.owL (f : Fm K Z H0 io ρ G σ H) {i : Nat} {ds : List D} (h : ρ[i]? = some (some (.list ds, true))) : ∃ a xs, σ[i]? = some (some (.ref a)) ∧ H a = some (.lst xs) ∧ G a = none ∧ ¬ Z a ∧ RpAll K G xs ds := by
  obtain ⟨a, o, h1, h3, h4, h5, h6⟩ := f.ow i _ h
  obtain ⟨xs, rfl, r⟩ := h6.lst
  exact ⟨a, xs, h1, h3, h4, h5, r⟩
theorem Fm.owD (f : Fm K Z H0 io ρ G σ H) {i : Nat} {ds : List (D × D)} (h : ρ[i]? = some (some (.dict ds, true))) : ∃ a kvs, σ[i]? = some (some (.ref a)) ∧ H a = some (.dK kvs) ∧ G a = none ∧ ¬ Z a ∧ RpKv K G kvs ds := by
  obtain ⟨a, o, h1, h3, h4, h5, h6⟩ := f.ow i _ h
  obtain ⟨xs, rfl, r⟩ := h6.dct
  exact ⟨a, xs, h1, h3, h4, h5, r⟩
theorem Fm.ext (f : Fm K Z H0 io ρ G σ H) (e : Ext G H G' H') : Fm K Z H0 io ρ G' σ H' where
  sub := e.gh
  len := f.len
  un := fun i d h => by
    obtain ⟨v, h1, h2⟩ := f.un i d h
    exact ⟨v, h1, h2.mono e.g⟩
  ow := fun i d h => by
    obtain ⟨a, o, h1, h3, h4, h5, h6⟩ := f.ow i d h
    have hn : H a ≠ none := by rw [h3]; exact fun z => nomatch z
    exact ⟨a, o, h1, by rw [e.hold a hn]; exact h3, by rw [e.gold a hn]; exact h4, h5, h6.mono e.g⟩
  dis := f.dis
  zg := fun b hb => by
    obtain ⟨h1, h2, h3⟩ := f.zg b hb
    have hn : H b ≠ none := by rw [h2]; exact h3
    exact ⟨by rw [e.gold b hn]; exact h1, by rw [e.hold b hn]; exact h2, h3⟩
  at0 := f.at0
/-- an owned list is frozen -/
theorem Fm.freeze (f : Fm K Z H0 io ρ G σ H) {i : Nat} {d : D} (h : ρ[i]? = some (some (d, true))) :
    ∃ G' a, Same G G' ∧ σ[i]? = some (some (.ref a)) ∧ Rp K G' (.ref a) d ∧ Fm K Z H0 io (ρ.set i (some (d, false))) G' σ H := by
  obtain ⟨a, o, h1, h3, h4, h5, h6⟩ := f.ow i d h
  have il : i < ρ.length := (List.getElem?_eq_some_iff.mp h).1
  have sg : Same G (upd G a o) := same_new h4
  have rp : Rp K (upd G a o) (.ref a) d := h6.rp sg upd_same
  refine ⟨upd G a o, a, sg, h1, rp, ?_⟩
  refine ⟨fun b u e => ?_, by rw [List.length_set]; exact f.len, fun j e hj => ?_, fun j e hj => ?_, fun j k d' e b hj hk => ?_, fun b hb => ?_, f.at0⟩
  · by_cases hb : b = a
    · subst hb
      rw [upd_same] at e
      rw [← e]
      exact h3
    · rw [upd_ne hb] at e
      exact f.sub _ _ e
  · by_cases hij : i = j
    · subst hij
      rw [List.getElem?_set_self il] at hj
      cases hj
      exact ⟨_, h1, rp⟩
    · rw [List.getElem?_set_ne hij] at hj
      obtain ⟨v, q1, q2⟩ := f.un j e hj
      exact ⟨v, q1, q2.mono sg⟩
  · by_cases hij : i = j
    · subst hij
      rw [List.getElem?_set_self il] at hj
      cases hj
    · rw [List.getElem?_set_ne hij] at hj
      obtain ⟨a', o', q1, q3, q4, q5, q6⟩ := f.ow j e hj
      have hne : a' ≠ a := fun z => hij (f.dis i j _ _ a h hj h1 (by rw [← z]; exact q1))
      exact ⟨a', o', q1, q3, by rw [upd_ne hne]; exact q4, q5, q6.mono sg⟩
  · have hij : i ≠ j := fun z => by
      subst z
      rw [List.getElem?_set_self il] at hj
      cases hj
    have hik : i ≠ k := fun z => by
      subst z
      rw [List.getElem?_set_self il] at hk
      cases hk
    rw [List.getElem?_set_ne hij] at hj
    rw [List.getElem?_set_ne hik] at hk
    exact f.dis j k d' e b hj hk
  · obtain ⟨q1, q2, q3⟩ := f.zg b hb
    have hne : b ≠ a := fun z => h5 (by rw [← z]; exact hb)
    exact ⟨by rw [upd_ne hne]; exact q1, q2, q3⟩
/-- a slot gets a value that is not owned -/
theorem Fm.set (f : Fm K Z H0 io ρ G σ H) {i : Nat} {v : V} {d : D} (r : Rp K G v d) (hi : io ≠ none → i ≠ 0) :
    Fm K Z H0 io (ρ.set i (some (d, false))) G (σ.set i (some v)) H where
  sub := f.sub
  len := by rw [List.length_set, List.length_set]; exact f.len
  un := fun j e hj => by
    by_cases hij : i = j
    · subst hij
      have il : i < ρ.length := by
        have := (List.getElem?_eq_some_iff.mp hj).1
        rwa [List.length_set] at this
      rw [List.getElem?_set_self il] at hj
      cases hj
      exact ⟨v, List.getElem?_set_self (by rw [← f.len]; exact il), r⟩
    · rw [List.getElem?_set_ne hij] at hj
      rw [List.getElem?_set_ne hij]
      exact f.un j e hj
  ow := fun j e hj => by
    by_cases hij : i = j
    · subst hij
      have il : i < ρ.length := by
        have := (List.getElem?_eq_some_iff.mp hj).1
        rwa [List.length_set] at this
      rw [List.getElem?_set_self il] at hj
      cases hj
    · rw [List.getElem?_set_ne hij] at hj
      rw [List.getElem?_set_ne hij]
      exact f.ow j e hj
  dis := fun j k d' e a hj hk h1 h2 => by
    have nj : i ≠ j := fun z => by
      subst z
      have il : i < ρ.length := by
        have := (List.getElem?_eq_some_iff.mp hj).1
        rwa [List.length_set] at this
      rw [List.getElem?_set_self il] at hj
      cases hj
    have nk : i ≠ k := fun z => by
      subst z
      have il : i < ρ.length := by
        have := (List.getElem?_eq_some_iff.mp hk).1
        rwa [List.length_set] at this
      rw [List.getElem?_set_self il] at hk
      cases hk
    rw [List.getElem?_set_ne nj] at hj h1
    rw [List.getElem?_set_ne nk] at hk h2
    exact f.dis j k d' e a hj hk h1 h2
  zg := f.zg
  at0 := fun a ha => by
    have q := hi (by rw [ha]; exact fun z => nomatch z)
    rw [List.getElem?_set_ne q]
    exact f.at0 a ha
end
end Ev


set_option Elab.async false
set_option linter.all false
set_option maxRecDepth 100000
set_option maxHeartbeats 2000000
namespace Ev
open PySem PySem.Spec PyProof.Rows L2

/-! ## the core language -/
inductive Bi where
  | abs | max | min | int | len | str | list | tuple | divmod | sum | all | repr | sorted | any
  deriving DecidableEq
inductive Mi where
  | join | zfill | index
  deriving DecidableEq
inductive CE where
  | var (i : Nat)
  | cst (d : D)
  | gcn (x : Str) (d : D)
  | bin (op : Operator) (a b : CE)
  | neg (a : CE)
  | not (a : CE)
  | cmp (op : CmpOp) (a b : CE)
  | chn (o1 o2 : CmpOp) (a b c : CE)
  | and (a b : CE)
  | or (a b : CE)
  | ite (c a b : CE)
  | tup (es : List CE)
  | lst (es : List CE)
  | idx (a b : CE)
  | idv (i : Nat) (b : CE)
  | slc (a : CE) (lo hi : Option CE)
  | rev (a : CE)
  | comp (kind : Nat) (its : List CE) (tg : List Nat) (one : Bool) (own : List Nat) (cnd : Option CE) (elt : CE)
  | call (f : Str) (perm : List Nat) (args : List CE)
  | cio (f : Str) (i : Nat) (args : List CE)
  | cfo (f : Str) (g : Str) (perm : List Nat) (as : List CE) (args : List CE)
  | blt (f : Bi) (args : List CE)
  | isi (a : CE) (c : String)
  | mth (m : Mi) (o : CE) (args : List CE)
  | dct
  | lr1 (a : CE)
  | lr2 (a b : CE)
  | lzp (a b : CE)
  | neq (i : Nat)
  | rpo (i : Nat)
  | mnd (a b : CE)
  | srs (a : CE)
  | gcd (a b : CE)
  | sls (a : CE) (lo hi : Option CE) (st : CE)
  | cmp2 (k1 : Nat) (its1 : List CE) (tg1 : List Nat) (one1 : Bool) (own : List Nat) (cnd1 : Option CE) (k2 : Nat) (its2 : List CE) (tg2 : List Nat) (one2 : Bool) (cnd2 : Option CE) (elt : CE)

inductive Rs (α : Type) where
  | ok (a : α) (ρ : Ro)
  | er (c : Str) (f : Option (Str × D)) (ρ : Ro)
  | bad
def Rs.bind {α β : Type} (r : Rs α) (f : α → Ro → Rs β) : Rs β :=
  match r with
  | .ok a ρ => f a ρ
  | .er c e ρ => .er c e ρ
  | .bad => .bad
def ofO {α : Type} (o : Option α) (ρ : Ro) : Rs α :=
  match o with
  | some a => .ok a ρ
  | none => .bad
@[simp] theorem Rs.bind_ok {α β : Type} (a : α) (ρ : Ro) (f : α → Ro → Rs β) : (Rs.ok a ρ).bind f = f a ρ := rfl
@[simp] theorem Rs.bind_bad {α β : Type} (f : α → Ro → Rs β) : (Rs.bad : Rs α).bind f = .bad := rfl
@[simp] theorem ofO_some {α : Type} (a : α) (ρ : Ro) : ofO (some a) ρ = .ok a ρ := rfl
@[simp] theorem ofO_none {α : Type} (ρ : Ro) : ofO (none : Option α) ρ = .bad := rfl
/-- what a def does: its value and what its first argument has become -/
inductive CR where
  | ok (d : D) (d0 : Option D)
  | ow (ds : List D) (d0 : Option D)
  | er (c : Str) (f : Option (Str × D)) (d0 : Option D)
  | bad
abbrev Cal := Str → List D → CR

/-! ## the operations on data -/
def lim : Nat := 100000
def bigG (i : Int) : Bool := decide (i.natAbs < 2 ^ 4096)
def smG (i : Int) : Bool := decide (i.natAbs < 2 ^ 64)
def opD : Operator → D → D → Option D
  | .Add, .int i, .int j => some (.int (i + j))
  | .Add, .str a, .str b => if a.length + b.length ≤ lim then some (.str (a ++ b)) else none
  | .Add, .list a, .list b => if a.length + b.length ≤ lim then some (.list (a ++ b)) else none
  | .Add, .tuple a, .tuple b => if a ≠ [] ∧ b ≠ [] ∧ a.length + b.length ≤ lim then some (.tuple (a ++ b)) else none
  | .Sub, .int i, .int j => some (.int (i - j))
  | .Mult, .int i, .int j => if (smG i || smG j || (bigG i && bigG j)) = true then some (.int (i * j)) else none
  | .Mult, .list a, .int j => if 0 ≤ j ∧ j ≤ 100000 ∧ a.length * j.toNat ≤ lim then some (.list (List.replicate j.toNat a).flatten) else none
  | .Mult, .str a, .int j => if j = 1 then some (.str a) else if j = 0 then some (.str Str.empty) else if (1 < j ∧ j ≤ 1000) ∧ 0 < a.length ∧ a.length ≤ 1000 then some (.str ⟨(List.replicate j.toNat a.cps).foldl (· ++ ·) #[]⟩) else none
  | .FloorDiv, .int i, .int j => if 0 < j ∧ bigG j = true then some (.int (i / j)) else none
  | .Mod, .int i, .int j => if 0 < j then some (.int (i % j)) else none
  | .Pow, .int i, .int j => if 0 ≤ j ∧ j ≤ 100 ∧ bigG i = true then some (.int (i ^ j.toNat)) else none
  | _, _, _ => none
def flatD : D → Bool
  | .none | .bool _ | .int _ | .str _ => true
  | _ => false
/-- == -/
def eqD (d e : D) : Option Bool := if (flatD d && flatD e || (SeqAt.shaped d && SeqAt.shaped e)) = true then some (PyData.eqv d e) else none
def inD (d : D) (ds : List D) (l : Bool) : Option Bool := if (flatD d && ds.all flatD || (l && SeqAt.shaped d && SeqAt.shaped (.list ds))) = true then some (ds.any fun z => PyData.eqv z d) else none
/-- the one sign of a text -/
def sign (x : Str) : Option Nat := match x.cps.toList with | [c] => some c | _ => none
def cmpD : CmpOp → D → D → Option Bool
  | .Eq, d, e => eqD d e
  | .NotEq, d, e => (eqD d e).map (!·)
  | .Lt, .int i, .int j => some (decide (i < j))
  | .LtE, .int i, .int j => some (decide (i ≤ j))
  | .Gt, .int i, .int j => some (decide (j < i))
  | .GtE, .int i, .int j => some (decide (j ≤ i))
  | .Lt, .str i, .str j => some (decide (i.cps.toList < j.cps.toList))
  | .LtE, .str i, .str j => some (!decide (j.cps.toList < i.cps.toList))
  | .Is, d, .none => some (match d with | .none => true | _ => false)
  | .IsNot, d, .none => some (match d with | .none => false | _ => true)
  | .IsNot, .bool a, .bool b => some (!decide (a = b))
  | .In, .str x, .str z => (sign x).map fun c => decide (c ∈ z.cps.toList)
  | .NotIn, .str x, .str z => (sign x).map fun c => !decide (c ∈ z.cps.toList)
  | .In, d, .list ds => inD d ds true
  | .NotIn, d, .list ds => (inD d ds true).map (!·)
  | .In, d, .tuple ds => inD d ds false
  | .NotIn, d, .tuple ds => (inD d ds false).map (!·)
  | _, _, _ => none
/-! dicts whose keys are ints and texts -/
def isKey : D → Bool
  | .int _ | .str _ => true
  | _ => false
def keyB : D → D → Bool
  | .int a, .int b => decide (a = b)
  | .str a, .str b => decide (a = b)
  | _, _ => false
def dgetD (ds : List (D × D)) (k : D) : Option D := (ds.find? fun p => keyB p.1 k).map (·.2)
def dputD (ds : List (D × D)) (k v : D) : List (D × D) := if (ds.any fun p => keyB p.1 k) = true then ds.map (fun p => if keyB p.1 k = true then (p.1, v) else p) else ds ++ [(k, v)]
def pairsD : List D → Option (List (D × D))
  | [] => some []
  | .tuple [k, v] :: r => if isKey k = true then (pairsD r).map ((k, v) :: ·) else none
  | _ => none
/-- o[i] -/
def idxD : D → D → Option D
  | .dict ds, k => if isKey k = true then dgetD ds k else none
  | .list ds, .int i => atI ds i
  | .tuple ds, .int i => atI ds i
  | .str z, .int i => if z.length ≤ lim then (atI z.cps.toList i).map fun c => .str ⟨#[c]⟩ else none
  | _, _ => none
/-- truth -/
def truD : D → Option Bool
  | .bool b => some b
  | .none => some false
  | .list xs => some (!xs.isEmpty)
  | .tuple xs => some (!xs.isEmpty)
  | _ => none
end Ev


set_option Elab.async false
set_option linter.all false
set_option maxRecDepth 100000
set_option maxHeartbeats 2000000
namespace Ev
open PySem PySem.Spec PyProof.Rows L2

theorem lim_le {n : Nat} (h : n ≤ lim) : n ≤ sizeLine := Nat.le_trans h (by decide)
theorem lim_le16 {n : Nat} (h : n ≤ lim) : n ≤ 16777216 := Nat.le_trans h (by decide)
/-- what an operation gives -/
def Giv (K : PySem.W.Frag) (G H : Hp) (d : D) (Q : VK) : Prop := ∀ v G' H', Ext G H G' H' → Rp K G' v d → Q v H'
def rD1 (K : PySem.W.Frag) (f : D → Option D) : V → Hp → VK → Prop := fun x H Q => ∃ G dx d, Same G H ∧ Rp K G x dx ∧ f dx = some d ∧ Giv K G H d Q
def rD2 (K : PySem.W.Frag) (f : D → D → Option D) : R2 := fun x y H Q => ∃ G dx dy d, Same G H ∧ Rp K G x dx ∧ Rp K G y dy ∧ f dx dy = some d ∧ Giv K G H d Q
def rDs (K : PySem.W.Frag) (f : List D → Option D) : List V → Hp → VK → Prop := fun xs H Q => ∃ G ds d, Same G H ∧ RpAll K G xs ds ∧ f ds = some d ∧ Giv K G H d Q
section
variable {X : Cx} {K : PySem.W.Frag} {G H : Hp} {Q : VK}
theorem Giv.sc (g : Giv K G H d Q) (s : Same G H) {v : V} (r : Rp K G v d) : Q v H := g v G H (Ext.refl s) r
theorem Giv.int {i : Int} (g : Giv K G H (.int i) Q) (s : Same G H) : Q (.int i) H := g.sc s (.int i)
theorem Giv.str {i : Str} (g : Giv K G H (.str i) Q) (s : Same G H) : Q (.str i) H := g.sc s (.str i)
theorem Giv.bl {i : Bool} (g : Giv K G H (.bool i) Q) (s : Same G H) : Q (.bl i) H := g.sc s (.bl i)
theorem Giv.lst {xs : List V} {ds : List D} (g : Giv K G H (.list ds) Q) (s : Same G H) (r : RpAll K G xs ds) : ∀ p, H p = none → Q (.ref p) (upd H p (.lst xs)) := fun p hp =>
  g _ _ _ (Ext.new s hp) (.lst (Ls.of upd_same) (r.mono (same_new (Same.none s hp))))
theorem Giv.tup {xs : List V} {ds : List D} (g : Giv K G H (.tuple ds) Q) (s : Same G H) (r : RpAll K G xs ds) : ∀ p, H p = none → Q (.ref p) (upd H p (.tup xs)) := fun p hp =>
  g _ _ _ (Ext.new s hp) (.tup (SqT.of upd_same) (r.mono (same_new (Same.none s hp))))

theorem op_catR : OpR X (binaryOp .Add) (fun x y H Q => ∃ l b xs zs, x = .ref l ∧ y = .ref b ∧ Ls X.K H l xs ∧ Ls X.K H b zs ∧ xs.length + zs.length ≤ sizeLine ∧ ∀ p, H p = none → Q (.ref p) (upd H p (.lst (xs ++ zs)))) := by
  intro pins s σ H x y v u Q I rx ry h
  obtain ⟨l, b, xs, zs, rfl, rfl, hH, hB, hz, q⟩ := h
  cases rx
  cases ry
  obtain ⟨z, its, n, r, e⟩ := hH.isL I
  obtain ⟨z2, its2, n2, r2, e2⟩ := hB.isL I
  have hl := r.length
  have hl2 := r2.length
  refine PySem.P.add_list e e2 ?_ (by rw [List.size_toArray, List.size_toArray]; omega)
  have ea : its.toArray ++ its2.toArray = (its ++ its2).toArray := by simp
  rw [ea]
  exact ⟨.ref _, _, I.lnew (t' := s.toks) (r.append r2) (by rw [List.length_append]; omega), rfl, q _ I.fresh⟩

theorem bigG_log {i : Int} (h : bigG i = true) : i.natAbs.log2 < 4096 := by
  have h' : i.natAbs < 2 ^ 4096 := of_decide_eq_true h
  exact PySem.Flt.log2_lt_of (by decide) h'
theorem smG_iff {i : Int} (h : smG i = true) : -(2 ^ 64) < i ∧ i < 2 ^ 64 := by
  have h' : i.natAbs < 2 ^ 64 := of_decide_eq_true h
  omega
theorem mulG_ok {i j : Int} (h : (smG i || smG j || (bigG i && bigG j)) = true) : IntMulOk i j := by
  rw [Bool.or_eq_true, Bool.or_eq_true, Bool.and_eq_true] at h
  rcases h with (h | h) | ⟨h1, h2⟩
  · exact (CMul.ok (.inl (smG_iff h)))
  · exact (CMul.ok (.inr (smG_iff h)))
  · have a := bigG_log h1
    have b := bigG_log h2
    exact (show CMulW i j from by unfold CMulW; omega).ok

theorem bin_add : OpR X (binaryOp .Add) (rD2 X.K (opD .Add)) := by
  rintro pins s σ H x y v u Q I rx ry ⟨G, dx, dy, d, sg, hx, hy, e, g⟩
  cases hx with
  | int i =>
    cases hy with
    | int j => cases (show some (PyData.int (i + j)) = some d from e); exact op_add pins s σ H _ _ _ _ Q I rx ry ⟨i, j, rfl, rfl, g.int sg⟩
    | _ => exact nomatch (show (none : Option D) = some d from e)
  | str i =>
    cases hy with
    | str j =>
      have e' : (if i.length + j.length ≤ lim then some (PyData.str (i ++ j)) else none) = some d := e
      split at e'
      · rename_i hl
        cases e'
        exact op_add_str pins s σ H _ _ _ _ Q I rx ry ⟨i, j, rfl, rfl, lim_le hl, g.str sg⟩
      · cases e'
    | _ => exact nomatch (show (none : Option D) = some d from e)
  | @lst a xs ds hs hr =>
    cases hy with
    | @lst b ys es ht hq =>
      have e' : (if ds.length + es.length ≤ lim then some (PyData.list (ds ++ es)) else none) = some d := e
      split at e'
      · rename_i hl
        cases e'
        refine op_catR pins s σ H _ _ _ _ Q I rx ry ⟨a, b, xs, ys, rfl, rfl, Same.ls sg hs, Same.ls sg ht, ?_, g.lst sg (hr.append hq)⟩
        rw [hr.length, hq.length]
        exact lim_le hl
      · cases e'
    | _ => exact nomatch (show (none : Option D) = some d from e)
  | @tup a xs ds hs hr =>
    cases hy with
    | @tup b ys es ht hq =>
      have e' : (if ds ≠ [] ∧ es ≠ [] ∧ ds.length + es.length ≤ lim then some (PyData.tuple (ds ++ es)) else none) = some d := e
      split at e'
      · rename_i hl
        cases e'
        refine op_catT pins s σ H _ _ _ _ Q I rx ry ⟨a, b, xs, ys, rfl, rfl, Same.seqT sg hs, Same.seqT sg ht, ?_, ?_, ?_, fun _ => g.tup sg (hr.append hq)⟩
        · intro z
          subst z
          cases hr
          exact hl.1 rfl
        · rw [hr.length, hq.length]
          exact lim_le hl.2.2
        · intro z
          subst z
          cases hq
          exact absurd rfl hl.2.1
      · cases e'
    | _ => exact nomatch (show (none : Option D) = some d from e)
  | non => exact nomatch (show (none : Option D) = some d by cases hy <;> exact e)
  | bl b => exact nomatch (show (none : Option D) = some d by cases hy <;> exact e)
  | dct h1 h2 => exact nomatch (show (none : Option D) = some d by cases hy <;> exact e)
/-- an operator that takes ints alone -/
theorem bin_int {op : Operator} {f : Int → Int → Option D} (hf : ∀ dx dy, opD op dx dy = match dx, dy with | .int i, .int j => f i j | _, _ => none)
    (h : ∀ (pins : List (Addr × Obj)) (s : Shared) (σ : L2.St) (H : Hp) (i j : Int) (v u : Value) (Q : VK) (G : Hp) (d : D), L2.Inv X pins σ H s → RelV (.int i) v → RelV (.int j) u → f i j = some d → Same G H → Giv X.K G H d Q →
      wpAny (model X.prog X.w) X.A (binaryOp op v u) (EP X pins σ Q) X.xe s) : OpR X (binaryOp op) (rD2 X.K (opD op)) := by
  rintro pins s σ H x y v u Q I rx ry ⟨G, dx, dy, d, sg, hx, hy, e, g⟩
  rw [hf] at e
  cases hx with
  | int i =>
    cases hy with
    | int j => exact h pins s σ H i j v u Q G d I rx ry e sg g
    | _ => cases e
  | _ => cases hy <;> cases e
theorem bin_sub : OpR X (binaryOp .Sub) (rD2 X.K (opD .Sub)) := by
  refine bin_int (f := fun i j => some (.int (i - j))) (fun dx dy => by cases dx <;> cases dy <;> rfl) ?_
  intro pins s σ H i j v u Q G d I rx ry e sg g
  cases e
  exact op_sub pins s σ H _ _ _ _ Q I rx ry ⟨i, j, rfl, rfl, g.int sg⟩
theorem op_mulG : OpR X (binaryOp .Mult) (rI (fun i j => IntMulOk i j) fun i j => .int (i * j)) := opI fun _ _ _ _ _ _ _ hc q => mul_int q hc
theorem op_repR : OpR X (binaryOp .Mult) (fun x y H Q => ∃ l k xs, x = .ref l ∧ y = .int k ∧ Ls X.K H l xs ∧ 0 ≤ k ∧ k ≤ 100000 ∧ xs.length * k.toNat ≤ lim ∧ ∀ p, H p = none → Q (.ref p) (upd H p (.lst (List.replicate k.toNat xs).flatten))) := by
  rintro pins s σ H x y v u Q I rx ry ⟨l, k, xs, rfl, rfl, hR, h1, h2, hz0, q⟩
  have hz := lim_le hz0
  cases rx
  obtain ⟨t, rfl⟩ := ry
  obtain ⟨z, its, n, r, e⟩ := hR.isL I
  have hl := r.length
  have hlen : its.toArray.size * k.toNat ≤ sizeLine := by rw [List.size_toArray, ← hl]; exact hz
  have hcap : ¬ its.toArray.size * k.toNat > (2 ^ 63 - 1) / 8 := by
    have : (sizeLine : Nat) ≤ (2 ^ 63 - 1) / 8 := by decide
    omega
  have hfit : ¬ (!Builtin.List.listFitsIndex k) = true := by
    rw [fitsIndex_both (by omega) (by omega)]
    exact Bool.false_ne_true
  have hlong : ¬ Builtin.List.listTooLong (its.toArray.size * k.toNat) = true := by
    rw [notLongL hlen]
    exact Bool.false_ne_true
  have hnew : List.foldl (fun x1 x2 => x1 ++ x2) #[] (List.replicate (if its.toArray.isEmpty = true then 0 else k.toNat) its.toArray) = (List.replicate k.toNat its).flatten.toArray := by
    have f0 : ∀ m : Nat, List.foldl (fun x1 x2 => x1 ++ x2) #[] (List.replicate m its.toArray) = (List.replicate m its).flatten.toArray := fun m => by
      have := foldl_rep its m []
      rw [List.nil_append] at this
      exact this
    rw [f0]
    cases its with
    | nil => simp
    | cons a r' => rw [if_neg (by simp)]
  refine wpAny_binaryOp_repeat_ref (T := "list") (U := "int") (by decide) ⟨_, e, rfl⟩ (fun s' => typeIs_int s' k t) noFill_list_mul F.fills_int_mul F.slot_int_rmul repeat_list F.slot_int_index.lookup
    (call_meets F.slot_int_rmul (typeIs_int s k t) F.entry_int_rmul (F.args_int_rmul_2 _ _) (int___rmul___int_list k t l its.toArray n)
      ⟨e, rfl, ⟨_, e, rfl⟩, call_meets F.slot_list_mul ⟨_, e, rfl⟩ F.entry_list_mul (F.args_list_mul_2 _ _) (AutoListH.list___mul___list_int_3 l its.toArray n k t hfit hcap hlong) ⟨e, ?_⟩⟩)
  rw [hnew]
  exact ⟨.ref _, _, I.lnew (t' := s.toks) (r.rep k.toNat) (by rw [PyProof.Rows.lm_len_rep_flat, Nat.mul_comm]; exact hz), rfl, q _ I.fresh⟩
theorem bin_mul : OpR X (binaryOp .Mult) (rD2 X.K (opD .Mult)) := by
  rintro pins s σ H x y v u Q I rx ry ⟨G, dx, dy, d, sg, hx, hy, e, g⟩
  cases hy with
  | int j =>
    cases hx with
    | int i =>
      have e' : (if (smG i || smG j || (bigG i && bigG j)) = true then some (PyData.int (i * j)) else none) = some d := e
      split at e'
      · rename_i hg
        cases e'
        exact op_mulG pins s σ H _ _ _ _ Q I rx ry ⟨i, j, rfl, rfl, mulG_ok hg, g.int sg⟩
      · cases e'
    | @lst a xs ds h1 h2 =>
      have e' : (if 0 ≤ j ∧ j ≤ 100000 ∧ ds.length * j.toNat ≤ lim then some (PyData.list (List.replicate j.toNat ds).flatten) else none) = some d := e
      split at e'
      · rename_i hg
        cases e'
        refine op_repR pins s σ H _ _ _ _ Q I rx ry ⟨a, j, xs, rfl, rfl, Same.ls sg h1, hg.1, hg.2.1, by rw [h2.length]; exact hg.2.2, g.lst sg ?_⟩
        have key : ∀ n : Nat, RpAll X.K G (List.replicate n xs).flatten (List.replicate n ds).flatten := by
          intro n
          induction n with
          | zero => exact .nil
          | succ n ih =>
            rw [List.replicate_succ, List.replicate_succ, List.flatten_cons, List.flatten_cons]
            exact h2.append ih
        exact key _
      · cases e'
    | str z =>
      have e' : (if j = 1 then some (PyData.str z) else if j = 0 then some (PyData.str Str.empty) else if (1 < j ∧ j ≤ 1000) ∧ 0 < z.length ∧ z.length ≤ 1000 then some (PyData.str ⟨(List.replicate j.toNat z.cps).foldl (· ++ ·) #[]⟩) else none) = some d := e
      obtain ⟨t, rfl⟩ := rx
      obtain ⟨t', rfl⟩ := ry
      split at e'
      · rename_i hj
        subst hj
        cases e'
        have h1 : ((1 : Int) == 1 || z.length == 0) = true := by rw [show ((1 : Int) == 1) = true from rfl]; rfl
        refine PySem.P.mul_str (by decide) (fun _ h => by rw [h1] at h; cases h) (fun _ h => by rw [h1] at h; cases h) ?_
        rw [if_neg (by decide), if_pos h1]
        exact ⟨.str z, _, I, ⟨t, rfl⟩, g.str sg⟩
      · split at e'
        · rename_i hj
          subst hj
          cases e'
          exact PySem.P.mul_str_none (by decide) (by decide) ⟨.str Str.empty, _, I.tok _, ⟨_, rfl⟩, g.str sg⟩
        · split at e'
          · rename_i hj1 hj0 hj
            cases e'
            obtain ⟨⟨q1, q2⟩, q3, q4⟩ := hj
            have h1 : (j == 1 || z.length == 0) = false := by
              rw [Bool.or_eq_false_iff]
              exact ⟨by simpa using hj1, by simp; omega⟩
            have h2 : z.length * j.toNat ≤ 1000 * 1000 := Nat.mul_le_mul q4 (by omega)
            refine PySem.P.mul_str (by rw [decide_eq_false (by omega), decide_eq_false (by omega)]; rfl) (fun _ _ => ?_) (fun _ _ => ?_) ?_
            · have := (Int.le_ediv_iff_mul_le (show 0 < j by omega)).2 (show (1000 : Int) * j ≤ 2 ^ 63 - 1 by omega)
              omega
            · have hz : (1000000 : Nat) ≤ sizeLine := by decide
              exact decide_eq_false (by show ¬ _ > _; omega)
            · rw [if_neg (by omega), if_neg (by rw [h1]; decide)]
              refine ⟨?_, .str _, _, I.tok _, ⟨_, rfl⟩, g.str sg⟩
              have hz : (1000000 : Nat) ≤ sizeLine := by decide
              have key : ∀ (n : Nat) (a b : Array Nat), ((List.replicate n a).foldl (· ++ ·) b).size = b.size + n * a.size := fun n => by
                induction n with
                | zero => intro a b; simp
                | succ n ih =>
                  intro a b
                  rw [List.replicate_succ, List.foldl_cons, ih, Array.size_append, Nat.succ_mul]
                  omega
              show ((List.replicate j.toNat z.cps).foldl (· ++ ·) #[]).size ≤ sizeLine
              rw [key]
              have h3 : j.toNat * z.cps.size = z.length * j.toNat := Nat.mul_comm _ _
              rw [h3]
              simp only [List.size_toArray, List.length_nil]
              omega
          · cases e'
    | _ => cases e
  | _ => cases hx <;> cases e
theorem bin_fdiv : OpR X (binaryOp .FloorDiv) (rD2 X.K (opD .FloorDiv)) := by
  refine bin_int (f := fun i j => if 0 < j ∧ bigG j = true then some (.int (i / j)) else none) (fun dx dy => by cases dx <;> cases dy <;> rfl) ?_
  intro pins s σ H i j v u Q G d I rx ry e sg g
  split at e
  · rename_i hg
    cases e
    exact op_fdivW pins s σ H _ _ _ _ Q I rx ry ⟨i, j, rfl, rfl, ⟨hg.1, by have := bigG_log hg.2; omega⟩, g.int sg⟩
  · cases e
theorem bin_mod : OpR X (binaryOp .Mod) (rD2 X.K (opD .Mod)) := by
  refine bin_int (f := fun i j => if 0 < j then some (.int (i % j)) else none) (fun dx dy => by cases dx <;> cases dy <;> rfl) ?_
  intro pins s σ H i j v u Q G d I rx ry e sg g
  split at e
  · rename_i hg
    cases e
    exact op_mod pins s σ H _ _ _ _ Q I rx ry ⟨i, j, rfl, rfl, hg, g.int sg⟩
  · cases e
theorem intBits_big {i : Int} (h : bigG i = true) : Builtin.Int.intBits i ≤ 4097 := by
  have h' := bigG_log h
  unfold Builtin.Int.intBits
  split <;> omega
theorem op_powG : OpR X (binaryOp .Pow) (rI (fun i j => 0 ≤ j ∧ (Builtin.Int.intBits i : Int) * j ≤ 2 ^ 27) fun i j => .int (i ^ j.toNat)) := opI fun _ _ _ _ _ _ _ hc q => pow_int hc.1 hc.2 q
theorem bin_pow : OpR X (binaryOp .Pow) (rD2 X.K (opD .Pow)) := by
  refine bin_int (f := fun i j => if 0 ≤ j ∧ j ≤ 100 ∧ bigG i = true then some (.int (i ^ j.toNat)) else none) (fun dx dy => by cases dx <;> cases dy <;> rfl) ?_
  intro pins s σ H i j v u Q G d I rx ry e sg g
  split at e
  · rename_i hg
    cases e
    refine op_powG pins s σ H _ _ _ _ Q I rx ry ⟨i, j, rfl, rfl, ⟨hg.1, ?_⟩, g.int sg⟩
    have hb := intBits_big hg.2.2
    have : (Builtin.Int.intBits i : Int) * j ≤ 4097 * 100 := Int.mul_le_mul (by omega) hg.2.1 hg.1 (by omega)
    omega
  · cases e
theorem bin_all {op : Operator} : OpR X (binaryOp op) (rD2 X.K (opD op)) := by
  cases op with
  | Add => exact bin_add
  | Sub => exact bin_sub
  | Mult => exact bin_mul
  | FloorDiv => exact bin_fdiv
  | Mod => exact bin_mod
  | Pow => exact bin_pow
  | _ =>
    rintro pins s σ H x y v u Q I rx ry ⟨G, dx, dy, d, sg, hx, hy, e, g⟩
    exact nomatch (show (none : Option D) = some d by rw [← e]; cases dx <;> cases dy <;> rfl)
end
end Ev


set_option Elab.async false
set_option linter.all false
set_option maxRecDepth 100000
set_option maxHeartbeats 2000000
namespace Ev
open PySem PySem.Spec PyProof.Rows L2
section
variable {X : Cx} {K : PySem.W.Frag} {G H : Hp} {Q : VK}
theorem flat_V {v : V} {d : D} (r : Rp K G v d) (f : flatD d = true) : flatV v = true := by
  cases r <;> first | rfl | cases f
theorem flat_eq {v w : V} {d e : D} (r : Rp K G v d) (q : Rp K G w e) (f : flatD d = true) (g : flatD e = true) : eqV v w = PyData.eqv d e := by
  cases r <;> first
    | exact absurd (show false = true from f) Bool.false_ne_true
    | (cases q <;> first | exact absurd (show false = true from g) Bool.false_ne_true | (simp only [eqV, PyData.eqv]) | rfl)
theorem flat_all : ∀ {vs : List V} {ds : List D}, RpAll K G vs ds → ds.all flatD = true → vs.all flatV = true
  | _, _, .nil, _ => rfl
  | _, _, .cons a b, f => by
    rw [List.all_cons, Bool.and_eq_true] at f ⊢
    exact ⟨flat_V a f.1, flat_all b f.2⟩
theorem flat_any {v : V} {d : D} (r : Rp K G v d) (f : flatD d = true) : ∀ {vs : List V} {ds : List D}, RpAll K G vs ds → ds.all flatD = true → inV v vs = ds.any fun z => PyData.eqv z d
  | _, _, .nil, _ => rfl
  | _, _, .cons a b, g => by
    rw [List.all_cons, Bool.and_eq_true] at g
    have ih := flat_any r f b g.2
    unfold inV at ih ⊢
    rw [List.any_cons, List.any_cons, ih, flat_eq a r g.1 f]
theorem flat_nd {d : D} (f : flatD d = true) : (match d with | .dict _ => false | _ => true) = true := by cases d <;> first | rfl | cases f
mutual
theorem Rp.dp : ∀ {v : V} {d : D}, Rp K G v d → d.canLay0 = true → Dp K G v d
  | _, _, .non, _ => .non
  | _, _, .bl b, _ => .bl b
  | _, _, .int i, _ => .int i
  | _, _, .str x, _ => .str x
  | _, _, .lst s r, h => .lst s.seq (RpAll.dp r (by simpa [PyData.canLay0] using h))
  | _, _, .tup s r, h => .tup s (RpAll.dp r (by simpa [PyData.canLay0] using h))
  | _, _, .dct _ _, h => by simp [PyData.canLay0] at h
theorem RpAll.dp : ∀ {v : List V} {d : List D}, RpAll K G v d → PyData.canLayAll0 d = true → DpAll K G v d
  | _, _, .nil, _ => .nil
  | _, _, .cons a b, h => by
    have h' : (PyData.canLay0 _ && PyData.canLayAll0 _) = true := h
    rw [Bool.and_eq_true] at h'
    exact .cons (Rp.dp a h'.1) (RpAll.dp b h'.2)
end
theorem shaped_lay {d : D} (h : SeqAt.shaped d = true) : d.canLay0 = true := by
  unfold SeqAt.shaped at h
  rw [Bool.and_eq_true] at h
  exact h.1
def rDb (K : PySem.W.Frag) (f : D → D → Option Bool) : R2 := fun x y H Q => ∃ G dx dy b, Same G H ∧ Rp K G x dx ∧ Rp K G y dy ∧ f dx dy = some b ∧ Giv K G H (.bool b) Q
theorem cmp_eq0 (hu : X.A.units + 100 < cLine) {pins : List (Addr × Obj)} {s : Shared} {σ : L2.St} {H G : Hp} {x y : V} {v u : Value} {Q : VK} {dx dy : D} (I : L2.Inv X pins σ H s) (rx : RelV x v) (ry : RelV y u) (sg : Same G H) (hx : Rp X.K G x dx) (hy : Rp X.K G y dy)
    (e : (flatD dx && flatD dy || (SeqAt.shaped dx && SeqAt.shaped dy)) = true) (q : Q (.bl (PyData.eqv dx dy)) H) : wpAny (model X.prog X.w) X.A (compareOp .Eq v u) (EP X pins σ Q) X.xe s := by
  rw [Bool.or_eq_true, Bool.and_eq_true, Bool.and_eq_true] at e
  have hs : ∀ {x y : V}, RelV x v → RelV y u → Rp X.K G x dx → Rp X.K G y dy → SeqAt.shaped dx = true → SeqAt.shaped dy = true → wpAny (model X.prog X.w) X.A (compareOp .Eq v u) (EP X pins σ Q) X.xe s := fun rx ry hx hy h1 h2 =>
    op_eqD (by omega) pins s σ H _ _ _ _ Q I rx ry ⟨dx, dy, (hx.mono sg).dp (shaped_lay h1), (hy.mono sg).dp (shaped_lay h2), h1, h2, q⟩
  rcases e with ⟨h1, h2⟩ | ⟨h1, h2⟩
  · have hsc : ∀ {x y : V}, RelV x v → RelV y u → scal x y = true → decide (x = y) = PyData.eqv dx dy → wpAny (model X.prog X.w) X.A (compareOp .Eq v u) (EP X pins σ Q) X.xe s := fun rx ry h e' => op_eq pins s σ H _ _ _ _ Q I rx ry ⟨h, by rw [e']; exact q⟩
    cases hx <;> first
      | exact absurd (show false = true from h1) Bool.false_ne_true
      | (cases hy <;> first
          | exact absurd (show false = true from h2) Bool.false_ne_true
          | exact hsc rx ry rfl (by simp only [PyData.eqv]; first | exact dec_int | exact dec_bl | exact dec_str | done | (exact decide_eq_false (fun z => nomatch z)) | (exact decide_eq_true rfl))
          | exact hs rx ry (by constructor) (by constructor) rfl rfl)
  · exact hs rx ry hx hy h1 h2
theorem cmp_ne0 (hu : X.A.units + 100 < cLine) {pins : List (Addr × Obj)} {s : Shared} {σ : L2.St} {H G : Hp} {x y : V} {v u : Value} {Q : VK} {dx dy : D} (I : L2.Inv X pins σ H s) (rx : RelV x v) (ry : RelV y u) (sg : Same G H) (hx : Rp X.K G x dx) (hy : Rp X.K G y dy)
    (e : (flatD dx && flatD dy || (SeqAt.shaped dx && SeqAt.shaped dy)) = true) (q : Q (.bl (!PyData.eqv dx dy)) H) : wpAny (model X.prog X.w) X.A (compareOp .NotEq v u) (EP X pins σ Q) X.xe s := by
  rw [Bool.or_eq_true, Bool.and_eq_true, Bool.and_eq_true] at e
  have hs : ∀ {x y : V}, RelV x v → RelV y u → Rp X.K G x dx → Rp X.K G y dy → SeqAt.shaped dx = true → SeqAt.shaped dy = true → wpAny (model X.prog X.w) X.A (compareOp .NotEq v u) (EP X pins σ Q) X.xe s := fun rx ry hx hy h1 h2 =>
    op_neD (by omega) pins s σ H _ _ _ _ Q I rx ry ⟨dx, dy, (hx.mono sg).dp (shaped_lay h1), (hy.mono sg).dp (shaped_lay h2), h1, h2, q⟩
  rcases e with ⟨h1, h2⟩ | ⟨h1, h2⟩
  · have hsc : ∀ {x y : V}, RelV x v → RelV y u → scal x y = true → decide (x = y) = PyData.eqv dx dy → wpAny (model X.prog X.w) X.A (compareOp .NotEq v u) (EP X pins σ Q) X.xe s := fun rx ry h e' => op_ne pins s σ H _ _ _ _ Q I rx ry ⟨h, by rw [e']; exact q⟩
    cases hx <;> first
      | exact absurd (show false = true from h1) Bool.false_ne_true
      | (cases hy <;> first
          | exact absurd (show false = true from h2) Bool.false_ne_true
          | exact hsc rx ry rfl (by simp only [PyData.eqv]; first | exact dec_int | exact dec_bl | exact dec_str | done | (exact decide_eq_false (fun z => nomatch z)) | (exact decide_eq_true rfl))
          | exact hs rx ry (by constructor) (by constructor) rfl rfl)
  · exact hs rx ry hx hy h1 h2
theorem eqD_some {dx dy : D} {b : Bool} (h : eqD dx dy = some b) : (flatD dx && flatD dy || (SeqAt.shaped dx && SeqAt.shaped dy)) = true ∧ b = PyData.eqv dx dy := by
  unfold eqD at h
  split at h
  · rename_i hc
    cases h
    exact ⟨hc, rfl⟩
  · cases h
theorem cmp_Eq (hu : X.A.units + 100 < cLine) : OpR X (compareOp .Eq) (rDb X.K (cmpD .Eq)) := by
  rintro pins s σ H x y v u Q I rx ry ⟨G, dx, dy, b, sg, hx, hy, e, g⟩
  obtain ⟨h1, h2⟩ := eqD_some (show eqD dx dy = some b by rw [← e]; cases dx <;> rfl)
  exact cmp_eq0 hu I rx ry sg hx hy h1 (by rw [← h2]; exact g.bl sg)
theorem cmp_Ne (hu : X.A.units + 100 < cLine) : OpR X (compareOp .NotEq) (rDb X.K (cmpD .NotEq)) := by
  rintro pins s σ H x y v u Q I rx ry ⟨G, dx, dy, b, sg, hx, hy, e, g⟩
  have e' : (eqD dx dy).map (!·) = some b := by rw [← e]; cases dx <;> rfl
  cases h : eqD dx dy with
  | none => rw [h] at e'; cases e'
  | some c =>
    rw [h] at e'
    cases e'
    obtain ⟨h1, h2⟩ := eqD_some h
    exact cmp_ne0 hu I rx ry sg hx hy h1 (by rw [← h2]; exact g.bl sg)
/-- orders of ints, of texts -/
theorem cmp_ord {op : CmpOp} {f : Int → Int → Bool} {g' : Str → Str → Option Bool} (hf : ∀ dx dy, cmpD op dx dy = match dx, dy with | .int i, .int j => some (f i j) | .str i, .str j => g' i j | _, _ => none)
    (h1 : OpR X (compareOp op) (rI0 fun i j => .bl (f i j))) (h2 : ∀ i j b, g' i j = some b → OpR X (compareOp op) (fun x y H Q => x = .str i ∧ y = .str j ∧ Q (.bl b) H)) : OpR X (compareOp op) (rDb X.K (cmpD op)) := by
  rintro pins s σ H x y v u Q I rx ry ⟨G, dx, dy, b, sg, hx, hy, e, g⟩
  rw [hf] at e
  cases hx with
  | int i =>
    cases hy with
    | int j => cases e; exact h1 pins s σ H _ _ _ _ Q I rx ry ⟨i, j, rfl, rfl, g.bl sg⟩
    | _ => cases e
  | str i =>
    cases hy with
    | str j => exact h2 i j b e pins s σ H _ _ _ _ Q I rx ry ⟨rfl, rfl, g.bl sg⟩
    | _ => cases e
  | _ => cases hy <;> cases e
theorem cmp_Lt : OpR X (compareOp .Lt) (rDb X.K (cmpD .Lt)) := cmp_ord (fun dx dy => by cases dx <;> cases dy <;> rfl) op_lt fun i j b e => by
  cases e
  rintro pins s σ H x y v u Q I rx ry ⟨rfl, rfl, q⟩
  exact op_lt_str pins s σ H _ _ _ _ Q I rx ry ⟨i, j, rfl, rfl, q⟩
theorem cmp_Le : OpR X (compareOp .LtE) (rDb X.K (cmpD .LtE)) := cmp_ord (fun dx dy => by cases dx <;> cases dy <;> rfl) op_le fun i j b e => by
  cases e
  rintro pins s σ H x y v u Q I rx ry ⟨rfl, rfl, q⟩
  exact op_le_str pins s σ H _ _ _ _ Q I rx ry ⟨i, j, rfl, rfl, q⟩
theorem cmp_Gt : OpR X (compareOp .Gt) (rDb X.K (cmpD .Gt)) := cmp_ord (g' := fun _ _ => none) (fun dx dy => by cases dx <;> cases dy <;> rfl) op_gt fun i j b e => by cases e
theorem cmp_Ge : OpR X (compareOp .GtE) (rDb X.K (cmpD .GtE)) := cmp_ord (g' := fun _ _ => none) (fun dx dy => by cases dx <;> cases dy <;> rfl) op_ge fun i j b e => by cases e
theorem cmp_Is : OpR X (compareOp .Is) (rDb X.K (cmpD .Is)) := by
  rintro pins s σ H x y v u Q I rx ry ⟨G, dx, dy, b, sg, hx, hy, e, g⟩
  cases hy with
  | non =>
    refine op_isN pins s σ H _ _ _ _ Q I rx ry ⟨rfl, ?_⟩
    cases hx <;> (cases e; exact g.bl sg)
  | _ => cases hx <;> cases e
theorem cmp_IsNot : OpR X (compareOp .IsNot) (rDb X.K (cmpD .IsNot)) := by
  rintro pins s σ H x y v u Q I rx ry ⟨G, dx, dy, b, sg, hx, hy, e, g⟩
  cases hy with
  | non =>
    refine op_notN pins s σ H _ _ _ _ Q I rx ry ⟨rfl, ?_⟩
    cases hx <;> (cases e; exact g.bl sg)
  | bl c =>
    cases hx with
    | bl a => cases e; exact op_notBl pins s σ H _ _ _ _ Q I rx ry ⟨a, c, rfl, rfl, g.bl sg⟩
    | _ => cases e
  | _ => cases hx <;> cases e
end
end Ev
namespace Ev
open PySem PySem.Spec PyProof.Rows L2
section
variable {X : Cx} {K : PySem.W.Frag} {G H : Hp} {Q : VK}
theorem inD_some {d : D} {ds : List D} {l b : Bool} (h : inD d ds l = some b) : (flatD d && ds.all flatD || (l && SeqAt.shaped d && SeqAt.shaped (.list ds))) = true ∧ b = ds.any fun z => PyData.eqv z d := by
  unfold inD at h
  split at h
  · rename_i hc
    cases h
    exact ⟨hc, rfl⟩
  · cases h
/-- x in a list, a tuple -/
theorem in_seq (hu : X.A.units + 100 < cLine) {pins : List (Addr × Obj)} {s : Shared} {σ : L2.St} {H G : Hp} {x : V} {a : Addr} {xs : List V} {v : Value} {Q : VK} {d : D} {ds : List D} {l b : Bool} (I : L2.Inv X pins σ H s) (rx : RelV x v) (sg : Same G H)
    (hx : Rp X.K G x d) (hs : Ls X.K G a xs ∨ (l = false ∧ SqT X.K G a xs)) (hr : RpAll X.K G xs ds) (e : inD d ds l = some b) (q : Q (.bl b) H) : wpAny (model X.prog X.w) X.A (compareOp .In v (.ref a)) (EP X pins σ Q) X.xe s := by
  obtain ⟨h1, h2⟩ := inD_some e
  rw [Bool.or_eq_true, Bool.and_eq_true, Bool.and_eq_true, Bool.and_eq_true] at h1
  rcases h1 with ⟨f1, f2⟩ | ⟨⟨hl, f1⟩, f2⟩
  · refine op_in_seq pins s σ H x (.ref a) v (.ref a) Q I rx rfl ⟨a, xs, rfl, ?_, flat_V hx f1, flat_all hr f2, ?_⟩
    · rcases hs with hs | ⟨_, hs⟩
      · exact .inl ((Same.ls sg hs).seq)
      · exact .inr (Same.seqT sg hs)
    · rw [if_neg Bool.false_ne_true, flat_any hx f1 hr f2, ← h2]
      exact q
  · rcases hs with hs | ⟨h0, _⟩
    · refine op_inD (by omega) pins s σ H x (.ref a) v (.ref a) Q I rx rfl ⟨d, ds, (hx.mono sg).dp (shaped_lay f1), Rp.dp (.lst (Same.ls sg hs) (hr.mono sg)) (shaped_lay f2), f1, f2, ?_⟩
      rw [← h2]
      exact q
    · rw [h0] at hl
      cases hl
theorem notin_seq (hu : X.A.units + 100 < cLine) {pins : List (Addr × Obj)} {s : Shared} {σ : L2.St} {H G : Hp} {x : V} {a : Addr} {xs : List V} {v : Value} {Q : VK} {d : D} {ds : List D} {l b : Bool} (I : L2.Inv X pins σ H s) (rx : RelV x v) (sg : Same G H)
    (hx : Rp X.K G x d) (hs : Ls X.K G a xs ∨ (l = false ∧ SqT X.K G a xs)) (hr : RpAll X.K G xs ds) (e : inD d ds l = some b) (q : Q (.bl (!b)) H) : wpAny (model X.prog X.w) X.A (compareOp .NotIn v (.ref a)) (EP X pins σ Q) X.xe s := by
  obtain ⟨h1, h2⟩ := inD_some e
  rw [Bool.or_eq_true, Bool.and_eq_true, Bool.and_eq_true, Bool.and_eq_true] at h1
  rcases h1 with ⟨f1, f2⟩ | ⟨⟨hl, f1⟩, f2⟩
  · refine op_notIn_seq pins s σ H x (.ref a) v (.ref a) Q I rx rfl ⟨a, xs, rfl, ?_, flat_V hx f1, flat_all hr f2, ?_⟩
    · rcases hs with hs | ⟨_, hs⟩
      · exact .inl ((Same.ls sg hs).seq)
      · exact .inr (Same.seqT sg hs)
    · rw [if_pos rfl, flat_any hx f1 hr f2, ← h2]
      exact q
  · rcases hs with hs | ⟨h0, _⟩
    · refine op_notInD (by omega) pins s σ H x (.ref a) v (.ref a) Q I rx rfl ⟨d, ds, (hx.mono sg).dp (shaped_lay f1), Rp.dp (.lst (Same.ls sg hs) (hr.mono sg)) (shaped_lay f2), f1, f2, ?_⟩
      rw [← h2]
      exact q
    · rw [h0] at hl
      cases hl
theorem sign_eq {x : Str} {c : Nat} (h : sign x = some c) : x = ⟨#[c]⟩ := by
  obtain ⟨⟨l⟩⟩ := x
  unfold sign at h
  match l, h with
  | [], h => cases h
  | [d], h => cases h; rfl
  | a :: b :: r, h => cases h
theorem cmp_In (hu : X.A.units + 100 < cLine) : OpR X (compareOp .In) (rDb X.K (cmpD .In)) := by
  rintro pins s σ H x y v u Q I rx ry ⟨G, dx, dy, b, sg, hx, hy, e, g⟩
  cases hy with
  | @lst a xs ds hs hr =>
    cases ry
    exact in_seq (l := true) hu I rx sg hx (.inl hs) hr (by rw [← e]; cases dx <;> rfl) (g.bl sg)
  | @tup a xs ds hs hr =>
    cases ry
    exact in_seq (l := false) hu I rx sg hx (.inr ⟨rfl, hs⟩) hr (by rw [← e]; cases dx <;> rfl) (g.bl sg)
  | str z =>
    cases hx with
    | str w =>
      have e' : ((sign w).map fun c => decide (c ∈ z.cps.toList)) = some b := e
      cases hw : sign w with
      | none => rw [hw] at e'; cases e'
      | some c =>
      rw [hw] at e'
      cases e'
      obtain rfl := sign_eq hw
      exact op_in_sign pins s σ H _ _ _ _ Q I rx ry ⟨c, z, rfl, rfl, g.bl sg⟩
    | _ => cases e
  | _ => cases hx <;> cases e
theorem cmp_NotIn (hu : X.A.units + 100 < cLine) : OpR X (compareOp .NotIn) (rDb X.K (cmpD .NotIn)) := by
  rintro pins s σ H x y v u Q I rx ry ⟨G, dx, dy, b, sg, hx, hy, e, g⟩
  cases hy with
  | @lst a xs ds hs hr =>
    cases ry
    have e' : (inD dx ds true).map (!·) = some b := by rw [← e]; cases dx <;> rfl
    cases h : inD dx ds true with
    | none => rw [h] at e'; cases e'
    | some c =>
      rw [h] at e'
      cases e'
      exact notin_seq (l := true) hu I rx sg hx (.inl hs) hr h (g.bl sg)
  | @tup a xs ds hs hr =>
    cases ry
    have e' : (inD dx ds false).map (!·) = some b := by rw [← e]; cases dx <;> rfl
    cases h : inD dx ds false with
    | none => rw [h] at e'; cases e'
    | some c =>
      rw [h] at e'
      cases e'
      exact notin_seq (l := false) hu I rx sg hx (.inr ⟨rfl, hs⟩) hr h (g.bl sg)
  | str z =>
    cases hx with
    | str w =>
      have e' : ((sign w).map fun c => !decide (c ∈ z.cps.toList)) = some b := e
      cases hw : sign w with
      | none => rw [hw] at e'; cases e'
      | some c =>
      rw [hw] at e'
      cases e'
      obtain rfl := sign_eq hw
      exact op_notIn_sign pins s σ H _ _ _ _ Q I rx ry ⟨c, z, rfl, rfl, g.bl sg⟩
    | _ => cases e
  | _ => cases hx <;> cases e
theorem cmp_all {op : CmpOp} (hu : X.A.units + 100 < cLine) : OpR X (compareOp op) (rDb X.K (cmpD op)) := by
  cases op with
  | Eq => exact cmp_Eq hu
  | NotEq => exact cmp_Ne hu
  | Lt => exact cmp_Lt
  | LtE => exact cmp_Le
  | Gt => exact cmp_Gt
  | GtE => exact cmp_Ge
  | Is => exact cmp_Is
  | IsNot => exact cmp_IsNot
  | In => exact cmp_In hu
  | NotIn => exact cmp_NotIn hu
end
end Ev


set_option Elab.async false
set_option linter.all false
set_option maxRecDepth 100000
set_option maxHeartbeats 2000000
namespace Ev
open PySem PySem.Spec PyProof.Rows L2

/-! ## the evaluator -/
def negD : D → Option D
  | .int i => some (.int (-i))
  | _ => none
def cutD (xs : List D) (lo hi : Option Int) : List D := (xs.drop (HT.sIx xs.length 0 lo)).take (HT.sIx xs.length xs.length hi - HT.sIx xs.length 0 lo)
def slcD : D → Option Int → Option Int → Option D
  | .list xs, lo, hi => some (.list (cutD xs lo hi))
  | .tuple xs, lo, hi => if HT.sIx xs.length 0 lo = 0 ∧ HT.sIx xs.length xs.length hi = xs.length then none else some (.tuple (cutD xs lo hi))
  | .str z, lo, hi => if z.length ≤ lim then some (.str (cutS z lo hi)) else none
  | _, _, _ => none
def stpL {α : Type} (xs : List α) (lo hi : Option Int) (st : Int) : List α := (sliceRange (sliceBounds lo hi (some st) xs.length).1 (sliceBounds lo hi (some st) xs.length).2.1 (sliceBounds lo hi (some st) xs.length).2.2).filterMap (xs[·]?)
/-- xs[lo:hi:st] -/
def stpD : D → Option Int → Option Int → D → Option D
  | .list xs, lo, hi, .int st => if st ≠ 0 ∧ (stpL xs lo hi st).length ≤ lim then some (.list (stpL xs lo hi st)) else none
  | _, _, _, _ => none
def revD : D → Option D
  | .list xs => some (.list xs.reverse)
  | _ => none
def intsOf : List D → Option (List Int)
  | [] => some []
  | .int i :: r => (intsOf r).map (i :: ·)
  | _ => none
def boolsOf : List D → Option (List Bool)
  | [] => some []
  | .bool b :: r => (boolsOf r).map (b :: ·)
  | _ => none
def strsOf : List D → Option (List Str)
  | [] => some []
  | .str b :: r => (strsOf r).map (b :: ·)
  | _ => none
def absD : List D → Option D
  | [.int i] => some (.int (if i < 0 then -i else i))
  | _ => none
def lowL : Int → List Int → Int
  | m, [] => m
  | m, x :: xs => lowL (if x < m then x else m) xs
def topL : Int → List Int → Int
  | m, [] => m
  | m, x :: xs => topL (if m < x then x else m) xs
def maxD : List D → Option D
  | [.int i, .int j] => some (.int (if j > i then j else i))
  | [.list xs] => (intsOf xs).bind fun is => match is with
    | [] => none
    | a :: r => some (.int (topL a r))
  | _ => none
def minD : List D → Option D
  | [.int i, .int j] => some (.int (if j < i then j else i))
  | [.list xs] => (intsOf xs).bind fun is => match is with
    | [] => none
    | a :: r => some (.int (lowL a r))
  | _ => none
/-- min(a list, default=..) -/
def mndD : D → D → Option D
  | .list xs, d => (intsOf xs).bind fun is => match is with
    | [] => some d
    | a :: r => some (.int (lowL a r))
  | _, _ => none
def intD : List D → Option D
  | [.int i] => some (.int i)
  | [.bool b] => some (.int (if b then 1 else 0))
  | [.str z] => if z.length ≤ 640 then (PySem.intText? z).map .int else none
  | _ => none
def lenD : List D → Option D
  | [.list xs] => some (.int xs.length)
  | [.tuple xs] => some (.int xs.length)
  | [.str z] => if z.length ≤ lim then some (.int z.length) else none
  | _ => none
def strD : List D → Option D
  | [.int i] => if i.natAbs.log2 < 1920 then some (.str (toString i)) else none
  | _ => none
def oneS (c : Nat) : D := .str ⟨#[c]⟩
def listD : List D → Option D
  | [.list xs] => some (.list xs)
  | [.tuple xs] => some (.list xs)
  | [.str z] => if z.length ≤ lim then some (.list (z.cps.toList.map oneS)) else none
  | _ => none
def tupleD : List D → Option D
  | [.list xs] => some (.tuple xs)
  | [.tuple xs] => some (.tuple xs)
  | _ => none
def divmodD : List D → Option D
  | [.int i, .int j] => if 0 < j ∧ bigG j = true then some (.tuple [.int (i / j), .int (i % j)]) else none
  | _ => none
def sumD : List D → Option D
  | [.list xs] => (intsOf xs).map fun is => .int is.sum
  | _ => none
def allD : List D → Option D
  | [.list xs] => (boolsOf xs).map fun bs => .bool (bs.all id)
  | _ => none
def anyD : List D → Option D
  | [.list xs] => (boolsOf xs).map fun bs => .bool (bs.any id)
  | _ => none
/-- gcd(a, b) -/
def gcdD : D → D → Option D
  | .int a, .int b => some (.int ((Nat.gcd a.natAbs b.natAbs : Nat) : Int))
  | _, _ => none
def reprOk (d : D) : Bool := d.showable && !d.hasDict && decide (d.depth ≤ 50) && decide (d.shown.length ≤ lim)
def reprD : List D → Option D
  | [.dict []] => some (.str (PyData.dict []).shown)
  | [d] => if reprOk d = true then some (.str d.shown) else none
  | _ => none
def sortedD : List D → Option D
  | [.list xs] => (intsOf xs).map fun is => .list ((PySem.W.sortI is).map .int)
  | _ => none
def dedupI : List Int → List Int
  | [] => []
  | x :: r => if x ∈ r then dedupI r else x :: dedupI r
def srsD : D → Option D
  | .list xs => if xs.length < 64 then (intsOf xs).map fun is => .list ((PySem.W.sortI (dedupI is)).map .int) else none
  | _ => none
def bltD : Bi → List D → Option D
  | .abs => absD
  | .max => maxD
  | .min => minD
  | .int => intD
  | .len => lenD
  | .str => strD
  | .list => listD
  | .tuple => tupleD
  | .divmod => divmodD
  | .sum => sumD
  | .all => allD
  | .repr => reprD
  | .sorted => sortedD
  | .any => anyD
def isiT (d : D) : String := match d with | .none => "NoneType" | .bool _ => "bool" | .int _ => "int" | .str _ => "str" | .list _ => "list" | .tuple _ => "tuple" | .dict _ => "dict"
def isiD (d : D) (c : String) : Option Bool := kitB (isiT d) c
def joinD : D → List D → Option D
  | .str a, [.list xs] => (strsOf xs).bind fun ys => if (ys.map (·.length)).sum + ys.length * a.length ≤ lim then some (.str (Txt.join a ys)) else none
  | _, _ => none
def zfillD : D → List D → Option D
  | .str a, [.int i] => if PadOk i = true then some (.str (Txt.zfill a i)) else none
  | _, _ => none
/-- the first place of an equal item -/
def indexD : D → List D → Option D
  | .list xs, [d] => if (SeqAt.shaped (.list xs) && SeqAt.shaped d) = true then (xs.findIdx? fun z => PyData.eqv z d).map fun j => .int (j : Nat) else none
  | _, _ => none
def mthD : Mi → D → List D → Option D
  | .join => joinD
  | .zfill => zfillD
  | .index => indexD
def recv : Mi → D → Bool
  | .join, .str _ => true
  | .zfill, .str _ => true
  | .index, .list _ => true
  | _, _ => false
def rngL (lo hi : Int) : List D := (List.range (hi - lo).toNat).map fun (k : Nat) => PyData.int (lo + k)
/-- list(range(a, b)) -/
def lrD : D → D → Option D
  | .int a, .int b => if (-(2 ^ 62) ≤ a ∧ a < 2 ^ 62) ∧ (-(2 ^ 62) ≤ b ∧ b < 2 ^ 62) ∧ (b - a).toNat ≤ lim then some (.list (rngL a b)) else none
  | _, _ => none
def enumL : List D → Nat → List D
  | [], _ => []
  | x :: xs, i => .tuple [.int (i : Nat), x] :: enumL xs (i + 1)
def zipL : List D → List D → List D
  | x :: xs, y :: ys => .tuple [x, y] :: zipL xs ys
  | _, _ => []
/-- list(zip(a, b)) -/
def lzD : D → D → Option D
  | .list xs, .list ys => if (zipL xs ys).length ≤ lim then some (.list (zipL xs ys)) else none
  | _, _ => none
def itemsD (kind : Nat) (ds : List D) : Option (List D) :=
  match kind, ds with
  | 0, [.list xs] => some xs
  | 4, [.tuple xs] => some xs
  | 5, [.str z] => some (z.cps.toList.map oneS)
  | 1, [.int n] => some (rngL 0 n)
  | 1, [.int a, .int b] => some (rngL a b)
  | 2, [.list xs] => some (enumL xs 0)
  | 6, [.tuple xs] => some (enumL xs 0)
  | 3, [.list xs, .list ys] => some (zipL xs ys)
  | 7, [.tuple xs, .tuple ys] => some (zipL xs ys)
  | 8, [.list xs, .tuple ys] => some (zipL xs ys)
  | 9, [.list xs] => some xs
  | 9, [.tuple xs] => some xs
  | 9, [.str z] => some (z.cps.toList.map oneS)
  | 10, [.list xs] => some (enumL xs 0)
  | 10, [.tuple xs] => some (enumL xs 0)
  | 11, [.list xs, .list ys] => some (zipL xs ys)
  | 12, [.list xs] => some xs.reverse
  | _, _ => none
def set0 (b0 : Bool) (i : Nat) (d : D) (ρ : Ro) : Option Ro := if (b0 && i == 0) = true then none else some (ρ.set i (some (d, false)))
def setMany (b0 : Bool) : List Nat → List D → Ro → Option Ro
  | [], [], ρ => some ρ
  | i :: is, d :: ds, ρ => (set0 b0 i d ρ).bind (setMany b0 is ds)
  | _, _, _ => none
/-- a name, and a tuple of names -/
def setNest (b0 : Bool) (i : Nat) (js : List Nat) : D → Ro → Option Ro
  | .tuple [x, .tuple ys], ρ => (set0 b0 i x ρ).bind (setMany b0 js ys)
  | _, _ => none
def setTg (b0 : Bool) (tg : List Nat) (one : Bool) (d : D) (ρ : Ro) : Option Ro :=
  if one = true then (match tg with
    | [i] => set0 b0 i d ρ
    | i :: js => setNest b0 i js d ρ
    | _ => none)
  else match d with
    | .tuple xs => setMany b0 tg xs ρ
    | _ => none
def wipeR (ρ : Ro) : List Nat → Ro
  | [] => ρ
  | v :: vs => (wipeR ρ vs).set v none
/-- ρ' with the places of vs as in ρ -/
def backR (ρ ρ' : Ro) : List Nat → Ro
  | [] => ρ'
  | v :: vs => match ρ[v]? with
    | some x => (backR ρ ρ' vs).set v x
    | none => backR ρ ρ' vs
def free (ρ : Ro) (vs : List Nat) : Bool := vs.all fun i => match ρ[i]? with | some (some (_, true)) => false | _ => true
def noEr {α : Type} (r : Rs α) : Rs α := match r with | .er _ _ _ => .bad | r => r
def compL (st : D → Ro → Option Ro) (own : List Nat) (cnd : Ro → Rs Bool) (elt : Ro → Rs D) : List D → Ro → List D → Rs (List D)
  | [], ρ, acc => .ok acc ρ
  | x :: xs, ρ, acc => match st x ρ with
    | none => .bad
    | some ρ1 => (noEr (cnd ρ1)).bind fun b ρ2 =>
      if b = true then (noEr (elt ρ2)).bind fun d ρ3 => if acc.length < lim then compL st own cnd elt xs (wipeR ρ3 own) (acc ++ [d]) else .bad
      else compL st own cnd elt xs (wipeR ρ2 own) acc
def compL2 (st1 : D → Ro → Option Ro) (own : List Nat) (cnd1 : Ro → Rs Bool) (its2 : Ro → Rs (List D)) (own2 : List Nat) (inn : List D → Ro → List D → Rs (List D)) : List D → Ro → List D → Rs (List D)
  | [], ρ, acc => .ok acc ρ
  | x :: xs, ρ, acc => match st1 x ρ with
    | none => .bad
    | some ρ1 => (noEr (cnd1 ρ1)).bind fun b ρ2 =>
      if b = true then (noEr (its2 ρ2)).bind fun ys ρ3 => (inn ys (wipeR ρ3 own2) acc).bind fun acc' ρ4 => compL2 st1 own cnd1 its2 own2 inn xs (wipeR ρ4 own) acc'
      else compL2 st1 own cnd1 its2 own2 inn xs (wipeR ρ2 own) acc
def truR (x : D) (ρ : Ro) : Rs Bool := ofO (truD x) ρ
def permD (perm : List Nat) (ds : List D) : Option (List D) := perm.mapM fun i => ds[i]?
def callR (r : CR) (ρ : Ro) : Rs D := match r with
  | .ok d none => .ok d ρ
  | .ow ds none => .ok (.list ds) ρ
  | .er c f none => .er c f ρ
  | _ => .bad
def cioR (i : Nat) (r : CR) (ρ : Ro) : Rs D := match r with
  | .ok d (some e) => .ok d (ρ.set i (some (e, true)))
  | .ow ds (some e) => .ok (.list ds) (ρ.set i (some (e, true)))
  | .er c f (some e) => .er c f (ρ.set i (some (e, true)))
  | _ => .bad
/-- a call that was lent a new list, which is dropped behind it -/
def cfoR (r : CR) (ρ : Ro) : Rs D := match r with
  | .ok d (some _) => .ok d ρ
  | .ow ds (some _) => .ok (.list ds) ρ
  | _ => .bad
def callO (r : CR) (ρ : Ro) : Rs (List D) := match r with
  | .ow ds none => .ok ds ρ
  | .er c f none => .er c f ρ
  | _ => .bad
def cioO (i : Nat) (r : CR) (ρ : Ro) : Rs (List D) := match r with
  | .ow ds (some e) => .ok ds (ρ.set i (some (e, true)))
  | .er c f (some e) => .er c f (ρ.set i (some (e, true)))
  | _ => .bad
section
variable (cal : Cal) (b0 : Bool)
mutual
def ev : CE → Ro → Rs D
  | .var i, ρ => match ρ[i]? with
    | some (some (d, false)) => .ok d ρ
    | some (some (d, true)) => if (b0 && i == 0) = true then .bad else .ok d (ρ.set i (some (d, false)))
    | _ => .bad
  | .cst d, ρ => .ok d ρ
  | .gcn _ d, ρ => .ok d ρ
  | .bin op a b, ρ => (ev a ρ).bind fun x ρ1 => (ev b ρ1).bind fun y ρ2 => ofO (opD op x y) ρ2
  | .neg a, ρ => (ev a ρ).bind fun x ρ1 => ofO (negD x) ρ1
  | .not a, ρ => (ev a ρ).bind fun x ρ1 => match truD x with | some b => .ok (.bool (!b)) ρ1 | none => .bad
  | .cmp op a b, ρ => (ev a ρ).bind fun x ρ1 => (ev b ρ1).bind fun y ρ2 => ofO ((cmpD op x y).map .bool) ρ2
  | .chn o1 o2 a b c, ρ => (ev a ρ).bind fun x ρ1 => (ev b ρ1).bind fun y ρ2 => match cmpD o1 x y with
    | some true => (ev c ρ2).bind fun z ρ3 => ofO ((cmpD o2 y z).map .bool) ρ3
    | some false => .ok (.bool false) ρ2
    | none => .bad
  | .and a b, ρ => (ev a ρ).bind fun x ρ1 => match x with | .bool true => ev b ρ1 | .bool false => .ok (.bool false) ρ1 | _ => .bad
  | .or a b, ρ => (ev a ρ).bind fun x ρ1 => match x with | .bool true => .ok (.bool true) ρ1 | .bool false => ev b ρ1 | _ => .bad
  | .ite c a b, ρ => (ev c ρ).bind fun x ρ1 => (truR x ρ1).bind fun k ρ2 => if k = true then ev a ρ2 else ev b ρ2
  | .tup es, ρ => (evA es ρ).bind fun ds ρ1 => if ds.length ≤ lim then .ok (.tuple ds) ρ1 else .bad
  | .lst es, ρ => (evA es ρ).bind fun ds ρ1 => if ds.length ≤ lim then .ok (.list ds) ρ1 else .bad
  | .idx a b, ρ => (ev a ρ).bind fun x ρ1 => (ev b ρ1).bind fun y ρ2 => ofO (idxD x y) ρ2
  | .idv i b, ρ => match ρ[i]? with
    | some (some (_, true)) => (ev b ρ).bind fun y ρ1 => match ρ1[i]? with | some (some (d, true)) => ofO (idxD d y) ρ1 | _ => .bad
    | some (some (d, false)) => (ev b ρ).bind fun y ρ1 => ofO (idxD d y) ρ1
    | _ => .bad
  | .slc a lo hi, ρ => (ev a ρ).bind fun x ρ1 => (evO lo ρ1).bind fun l ρ2 => (evO hi ρ2).bind fun h ρ3 => ofO (slcD x l h) ρ3
  | .rev a, ρ => (ev a ρ).bind fun x ρ1 => ofO (revD x) ρ1
  | .comp kind its tg one own cnd elt, ρ => (evA its ρ).bind fun ds ρ1 => match itemsD kind ds with
    | none => .bad
    | some xs => if (free ρ1 own && !(b0 && own.contains 0) && tg.all own.contains) = true then
        (compL (setTg b0 tg one) own (evC cnd) (ev elt) xs (wipeR ρ1 own) []).bind fun acc ρ2 => .ok (.list acc) (backR ρ1 ρ2 own)
      else .bad
  | .call f perm args, ρ => (evA args ρ).bind fun ds ρ1 => match permD perm ds with
    | some es => callR (cal f es) ρ1
    | none => .bad
  | .cio f i args, ρ => match ρ[i]? with
    | some (some (_, true)) => (evA args ρ).bind fun ds ρ1 => match ρ1[i]? with
      | some (some (.list es, true)) => cioR i (cal f (.list es :: ds)) ρ1
      | _ => .bad
    | _ => .bad
  | .cfo f g perm as args, ρ => (evA as ρ).bind fun ds0 ρ1 => match permD perm ds0 with
    | some es => (match cal g es with
      | .ow xs none => (evA args ρ1).bind fun ds ρ2 => cfoR (cal f (.list xs :: ds)) ρ2
      | _ => .bad)
    | none => .bad
  | .blt f args, ρ => (evA args ρ).bind fun ds ρ1 => ofO (bltD f ds) ρ1
  | .dct, ρ => .ok (.dict []) ρ
  | .lr1 a, ρ => (ev a ρ).bind fun x ρ1 => ofO (lrD (.int 0) x) ρ1
  | .lr2 a b, ρ => (ev a ρ).bind fun x ρ1 => (ev b ρ1).bind fun y ρ2 => ofO (lrD x y) ρ2
  | .lzp a b, ρ => (ev a ρ).bind fun x ρ1 => (ev b ρ1).bind fun y ρ2 => ofO (lzD x y) ρ2
  | .gcd a b, ρ => (ev a ρ).bind fun x ρ1 => (ev b ρ1).bind fun y ρ2 => ofO (gcdD x y) ρ2
  | .sls a lo hi st, ρ => (ev a ρ).bind fun x ρ1 => (evO lo ρ1).bind fun l ρ2 => (evO hi ρ2).bind fun h ρ3 => (ev st ρ3).bind fun y ρ4 => ofO (stpD x l h y) ρ4
  | .cmp2 k1 its1 tg1 one1 own cnd1 k2 its2 tg2 one2 cnd2 elt, ρ => (evA its1 ρ).bind fun ds ρ1 => match itemsD k1 ds with
    | none => .bad
    | some xs => if (free ρ1 own && !(b0 && own.contains 0) && tg1.all own.contains && tg2.all own.contains) = true then
        (compL2 (setTg b0 tg1 one1) own (evC cnd1) (fun ρ => (evA its2 ρ).bind fun ds ρ1 => ofO (itemsD k2 ds) ρ1) tg2 (compL (setTg b0 tg2 one2) tg2 (evC cnd2) (ev elt)) xs (wipeR ρ1 own) []).bind fun acc ρ2 => .ok (.list acc) (backR ρ1 ρ2 own)
      else .bad
  | .srs a, ρ => (ev a ρ).bind fun x ρ1 => ofO (srsD x) ρ1
  | .mnd a b, ρ => (ev a ρ).bind fun x ρ1 => (ev b ρ1).bind fun y ρ2 => ofO (mndD x y) ρ2
  | .rpo i, ρ => match ρ[i]? with
    | some (some (d, _)) => ofO (bltD .repr [d]) ρ
    | _ => .bad
  | .neq i, ρ => match ρ[i]? with
    | some (some (d, _)) => if SeqAt.shaped d = true then .ok (.bool (!PyData.eqv d (.list []))) ρ else .bad
    | _ => .bad
  | .isi a c, ρ => (ev a ρ).bind fun x ρ1 => ofO ((isiD x c).map .bool) ρ1
  | .mth m o args, ρ => (ev o ρ).bind fun x ρ1 => if recv m x = true then (evA args ρ1).bind fun ds ρ2 => ofO (mthD m x ds) ρ2 else .bad
def evA : List CE → Ro → Rs (List D)
  | [], ρ => .ok [] ρ
  | e :: es, ρ => (ev e ρ).bind fun d ρ1 => (evA es ρ1).bind fun ds ρ2 => .ok (d :: ds) ρ2
def evO : Option CE → Ro → Rs (Option Int)
  | none, ρ => .ok none ρ
  | some e, ρ => (ev e ρ).bind fun d ρ1 => match d with | .int i => .ok (some i) ρ1 | _ => .bad
def evC : Option CE → Ro → Rs Bool
  | none, ρ => .ok true ρ
  | some e, ρ => (ev e ρ).bind fun d ρ1 => truR d ρ1
end
/-- a test -/
def evT (c : CE) (ρ : Ro) : Rs Bool := (ev cal b0 c ρ).bind truR
end
end Ev


set_option Elab.async false
set_option linter.all false
set_option maxRecDepth 100000
set_option maxHeartbeats 2000000
namespace Ev
open PySem PySem.Spec PyProof.Rows L2

structure Pm where
  K : PySem.W.Frag
  mg : Str → Option Value
  Z : Addr → Prop
  H0 : Hp
  io : Option Addr
  cal : Cal
  W : WX
def Pm.b0 (P : Pm) : Bool := P.io.isSome
abbrev Pm.Fm (P : Pm) (ρ : Ro) (G : Hp) (σ : L2.St) (H : Hp) : Prop := Ev.Fm P.K P.Z P.H0 P.io ρ G σ H
/-- the error that a raise leaves -/
def ErrV (P : Pm) (c : Str) (f : Option (Str × D)) (cls : Value) (dx : Option Addr) (G : Hp) : Prop := ∃ C, P.mg c = some (.ref C) ∧ cls = .ref C ∧
  match f with
  | none => dx = none
  | some (n, d) => ∃ dd v, dx = some dd ∧ G dd = some (.xd [(n, v)]) ∧ Rp P.K G v d
def Out {α β : Type} (P : Pm) (R : Hp → β → α → Prop) (G : Hp) (σ : L2.St) (r : Rs α) (Q : β → Hp → Prop) : Prop :=
  match r with
  | .ok a ρ => ∀ b G' H', Same G G' → P.Fm ρ G' σ H' → R G' b a → Q b H'
  | .er c f ρ => ∀ cls dx G' H', Same G G' → P.Fm ρ G' σ H' → ErrV P c f cls dx G' → P.W cls dx σ H'
  | .bad => False
section
variable {P : Pm} {α β γ δ : Type} {G G1 H : Hp} {σ : L2.St} {ρ : Ro}
theorem Out.mono {R : Hp → β → α → Prop} {r : Rs α} {Q : β → Hp → Prop} (s : Same G G1) (h : Out P R G σ r Q) : Out P R G1 σ r Q := by
  cases r with
  | ok a ρ => exact fun b G' H' s' f r => h b G' H' (Same.trans s s') f r
  | er c f ρ => exact fun cls dx G' H' s' fm e => h cls dx G' H' (Same.trans s s') fm e
  | bad => exact h
theorem Out.bind {R1 : Hp → β → α → Prop} {R2 : Hp → δ → γ → Prop} {r : Rs α} {f : α → Ro → Rs γ} {Q : δ → Hp → Prop} {Q1 : β → Hp → Prop} (h : Out P R2 G σ (r.bind f) Q)
    (k : ∀ a ρ1 b G1 H1, Same G G1 → P.Fm ρ1 G1 σ H1 → R1 G1 b a → Out P R2 G1 σ (f a ρ1) Q → Q1 b H1) : Out P R1 G σ r Q1 := by
  cases r with
  | ok a ρ => exact fun b G' H' s fm r => k a ρ b G' H' s fm r (Out.mono s h)
  | er c f' ρ => exact h
  | bad => exact h
theorem Out.imp {R : Hp → β → α → Prop} {r : Rs α} {Q Q' : β → Hp → Prop} (h : Out P R G σ r Q) (k : ∀ b H', Q b H' → Q' b H') : Out P R G σ r Q' := by
  cases r with
  | ok a ρ => exact fun b G' H' s fm r => k _ _ (h b G' H' s fm r)
  | er c f' ρ => exact h
  | bad => exact h
theorem Out.ret {R : Hp → β → α → Prop} {a : α} {b : β} {Q : β → Hp → Prop} (h : Out P R G σ (.ok a ρ) Q) (fm : P.Fm ρ G σ H) (r : R G b a) : Q b H := h b G H (Same.refl G) fm r
theorem Out.give {d : D} {Q : VK} (h : Out P (fun G v d => Rp P.K G v d) G σ (.ok d ρ) Q) (fm : P.Fm ρ G σ H) : Giv P.K G H d Q := fun v G' H' e r => h v G' H' e.g (fm.ext e) r
theorem Out.giveO {o : Option D} {Q : VK} (h : Out P (fun G v d => Rp P.K G v d) G σ (ofO o ρ) Q) (fm : P.Fm ρ G σ H) : ∃ d, o = some d ∧ Giv P.K G H d Q := by
  cases o with
  | none => exact h.elim
  | some d => exact ⟨d, rfl, Out.give h fm⟩
end
/-- the reading of an expression -/
def T (P : Pm) (c : CE) : TE := fun σ H Q => ∃ ρ G, P.Fm ρ G σ H ∧ Out P (fun G v d => Rp P.K G v d) G σ (ev P.cal P.b0 c ρ) Q
def TT' (P : Pm) (c : CE) : TT := fun σ H Q => ∃ ρ G, P.Fm ρ G σ H ∧ Out P (fun _ b d => b = d) G σ (evT P.cal P.b0 c ρ) Q
def TAs (P : Pm) (cs : List CE) : TA := fun σ H Q => ∃ ρ G, P.Fm ρ G σ H ∧ Out P (fun G vs ds => RpAll P.K G vs ds) G σ (evA P.cal P.b0 cs ρ) Q
def TOp (P : Pm) (c : Option CE) : TO := fun σ H Q => ∃ ρ G, P.Fm ρ G σ H ∧ Out P (fun _ b d => b = d) G σ (evO P.cal P.b0 c ρ) Q

theorem PEw {X : Cx} {e : Expr} {t t' : TE} (h : PE X e t) (k : ∀ σ H Q, t' σ H Q → t σ H Q) : PE X e t' := ⟨fun pins s σ H Q I q => h.run pins s σ H Q I (k _ _ _ q)⟩
theorem PTw {X : Cx} {e : Expr} {t t' : TT} (h : PT X e t) (k : ∀ σ H Q, t' σ H Q → t σ H Q) : PT X e t' := ⟨fun pins s σ H Q I q => h.run pins s σ H Q I (k _ _ _ q)⟩
theorem PWw {X : Cx} {e : Expr} {t t' : TT} (h : PW X e t) (k : ∀ σ H Q, t' σ H Q → t σ H Q) : PW X e t' := ⟨fun wh pins s σ H Q I q => h.run wh pins s σ H Q I (k _ _ _ q)⟩
theorem PAw {X : Cx} {e : List Expr} {t t' : TA} (h : PA X e t) (k : ∀ σ H Q, t' σ H Q → t σ H Q) : PA X e t' := ⟨fun pos pins s σ H Q I q => h.run pos pins s σ H Q I (k _ _ _ q)⟩
theorem PSw {X : Cx} {e : Stmt} {t t' : TS} (h : PS X e t) (k : ∀ D σ H, t' D σ H → t D σ H) : PS X e t' := ⟨fun pins s σ H Q I q => h.run pins s σ H Q I (k _ _ _ q)⟩
theorem PSsw {X : Cx} {e : List Stmt} {t t' : TS} (h : PSs X e t) (k : ∀ D σ H, t' D σ H → t D σ H) : PSs X e t' := ⟨fun pins s σ H Q I q => h.run pins s σ H Q I (k _ _ _ q)⟩

section
variable {P : Pm} {X : Cx} {a b c e : Expr} {ca cb cc ce : CE} {pos : Pos} {op o1 o2 : CmpOp}
theorem t_var (i : Nat) {x : Str} (hN : X.N[i]? = some x) (hv : Vis X.env.scope x) (hd : (x == ("__debug__" : Str)) = false) (hcd : (x == ("__classdict__" : Str)) = false) : PE X (.Name x pos) (T P (.var i)) := by
  refine PEw (pe_var hN hv hd hcd) fun σ H Q ⟨ρ, G, fm, h⟩ => ?_
  simp only [ev] at h
  cases hr : ρ[i]? with
  | none => rw [hr] at h; exact h.elim
  | some o =>
    cases o with
    | none => rw [hr] at h; exact h.elim
    | some p =>
      obtain ⟨d, w⟩ := p
      rw [hr] at h
      cases w with
      | false =>
        obtain ⟨v, h1, h2⟩ := fm.un i d hr
        exact ⟨v, h1, h.ret fm h2⟩
      | true =>
        simp only at h
        split at h
        · exact h.elim
        · obtain ⟨G', a, sg, h1, h2, h3⟩ := fm.freeze hr
          exact ⟨_, h1, h _ G' H sg h3 h2⟩
theorem cst_rp {K : PySem.W.Frag} {G : Hp} : ∀ {v : V} {d : D}, (match v, d with | .non, .none => True | .bl a, .bool b => a = b | .int a, .int b => a = b | .str a, .str b => a = b | _, _ => False) → Rp K G v d
  | .non, .none, _ => .non
  | .bl a, .bool b, h => by cases (show a = b from h); exact .bl _
  | .int a, .int b, h => by cases (show a = b from h); exact .int _
  | .str a, .str b, h => by cases (show a = b from h); exact .str _
theorem t_cst {v : V} {d : D} (h : PE X e (tC v)) (r : ∀ G, Rp P.K G v d) : PE X e (T P (.cst d)) := PEw h fun σ H Q ⟨ρ, G, fm, h⟩ => h.ret fm (r G)
theorem t_dct : PE X (.Dict [] [] pos) (T P .dct) := PEw pe_dnewK fun σ H Q ⟨ρ, G, fm, h⟩ p hp => by
  have h' : Out P (fun G v d => Rp P.K G v d) G σ (.ok (.dict []) ρ) Q := by simpa only [ev] using h
  exact Out.give h' fm _ _ _ (Ext.new fm.sub hp) (.dct upd_same .nil)
theorem t_gcn {v : V} {d : D} {x : Str} (h : PE X e (tC v)) (r : ∀ G, Rp P.K G v d) : PE X e (T P (.gcn x d)) := PEw h fun σ H Q ⟨ρ, G, fm, h⟩ => h.ret fm (r G)
theorem t_bin {op : Operator} (hK : X.K = P.K) (ha : PE X a (T P ca)) (hb : PE X b (T P cb)) : PE X (.BinOp a op b pos) (T P (.bin op ca cb)) := by
  refine PEw (pe_op bin_all ha hb) fun σ H Q ⟨ρ, G, fm, h⟩ => ⟨ρ, G, fm, ?_⟩
  simp only [ev] at h
  refine Out.bind h fun x ρ1 v G1 H1 s1 fm1 r1 h1 => ⟨ρ1, G1, fm1, ?_⟩
  refine Out.bind h1 fun y ρ2 w G2 H2 s2 fm2 r2 h2 => ?_
  obtain ⟨d, e1, g⟩ := h2.giveO fm2
  rw [hK]
  exact ⟨G2, x, y, d, fm2.sub, r1.mono s2, r2, e1, g⟩
theorem t_neg (ha : PE X a (T P ca)) : PE X (.UnaryOp .USub a pos) (T P (.neg ca)) := by
  refine PEw (pe_un un_neg ha) fun σ H Q ⟨ρ, G, fm, h⟩ => ⟨ρ, G, fm, ?_⟩
  simp only [ev] at h
  refine Out.bind h fun x ρ1 v G1 H1 s1 fm1 r1 h1 => ?_
  obtain ⟨d, e1, g⟩ := h1.giveO fm1
  cases r1 with
  | int i => cases e1; exact ⟨i, rfl, g.int fm1.sub⟩
  | _ => cases e1
theorem t_cmp (hK : X.K = P.K) (hu : X.A.units + 100 < cLine) (hm : behindInMarks op b = false) (ha : PE X a (T P ca)) (hb : PE X b (T P cb)) : PE X (.Compare a [op] [b] pos) (T P (.cmp op ca cb)) := by
  refine PEw (pe_cmpR (cmp_all hu) ha hb hm) fun σ H Q ⟨ρ, G, fm, h⟩ => ⟨ρ, G, fm, ?_⟩
  simp only [ev] at h
  refine Out.bind h fun x ρ1 v G1 H1 s1 fm1 r1 h1 => ⟨ρ1, G1, fm1, ?_⟩
  refine Out.bind h1 fun y ρ2 w G2 H2 s2 fm2 r2 h2 => ?_
  obtain ⟨d, e1, g⟩ := h2.giveO fm2
  rw [hK]
  cases hc : cmpD op x y with
  | none => rw [hc] at e1; cases e1
  | some k =>
    rw [hc] at e1
    cases e1
    exact ⟨G2, x, y, k, fm2.sub, r1.mono s2, r2, hc, g⟩
theorem t_chn (hK : X.K = P.K) (hu : X.A.units + 100 < cLine) (hm : lastMarks [o1, o2] [b, c] = false) (ha : PE X a (T P ca)) (hb : PE X b (T P cb)) (hc : PE X c (T P cc)) : PE X (.Compare a [o1, o2] [b, c] pos) (T P (.chn o1 o2 ca cb cc)) := by
  refine PEw (pe_chain (cmp_all hu) (cmp_all hu) ha hb hc hm) fun σ H Q ⟨ρ, G, fm, h⟩ => ⟨ρ, G, fm, ?_⟩
  simp only [ev] at h
  refine Out.bind h fun x ρ1 v G1 H1 s1 fm1 r1 h1 => ⟨ρ1, G1, fm1, ?_⟩
  refine Out.bind h1 fun y ρ2 w G2 H2 s2 fm2 r2 h2 => ?_
  rw [hK]
  cases hc1 : cmpD o1 x y with
  | none => rw [hc1] at h2; exact h2.elim
  | some k =>
    rw [hc1] at h2
    refine ⟨G2, x, y, k, fm2.sub, r1.mono s2, r2, hc1, fun z G3 H3 e3 r3 => ?_⟩
    cases r3
    refine ⟨k, rfl, ?_⟩
    have fm3 := fm2.ext e3
    cases k with
    | false => exact iteF ((Out.mono e3.g h2).ret fm3 (.bl _))
    | true =>
      refine iteT ⟨ρ2, G3, fm3, ?_⟩
      refine Out.bind (Out.mono e3.g h2) fun z ρ4 w4 G4 H4 s4 fm4 r4 h4 => ?_
      obtain ⟨d, e1, g⟩ := h4.giveO fm4
      cases hc2 : cmpD o2 y z with
      | none => rw [hc2] at e1; cases e1
      | some k2 =>
        rw [hc2] at e1
        cases e1
        exact ⟨G4, y, z, k2, fm4.sub, (r2.mono e3.g).mono s4, r4, hc2, g⟩
theorem t_and {rest : List Expr} (ha : PE X a (T P ca)) (hb : PE X (.BoolOp .And (b :: rest) pos) (T P cb)) : PE X (.BoolOp .And (a :: b :: rest) pos) (T P (.and ca cb)) := by
  refine PEw (pe_and ha hb) fun σ H Q ⟨ρ, G, fm, h⟩ => ⟨ρ, G, fm, ?_⟩
  simp only [ev] at h
  refine Out.bind h fun x ρ1 v G1 H1 s1 fm1 r1 h1 => ?_
  cases r1 with
  | bl k =>
    refine ⟨k, rfl, ?_⟩
    cases k with
    | true => exact iteT ⟨ρ1, G1, fm1, h1⟩
    | false => exact iteF (h1.ret fm1 (.bl _))
  | _ => exact h1.elim
theorem t_or {rest : List Expr} (ha : PE X a (T P ca)) (hb : PE X (.BoolOp .Or (b :: rest) pos) (T P cb)) : PE X (.BoolOp .Or (a :: b :: rest) pos) (T P (.or ca cb)) := by
  refine PEw (pe_or ha hb) fun σ H Q ⟨ρ, G, fm, h⟩ => ⟨ρ, G, fm, ?_⟩
  simp only [ev] at h
  refine Out.bind h fun x ρ1 v G1 H1 s1 fm1 r1 h1 => ?_
  cases r1 with
  | bl k =>
    refine ⟨k, rfl, ?_⟩
    cases k with
    | true => exact iteT (h1.ret fm1 (.bl _))
    | false => exact iteF ⟨ρ1, G1, fm1, h1⟩
  | _ => exact h1.elim
theorem t_one {o : BoolOp} (ha : PE X a (T P ca)) : PE X (.BoolOp o [a] pos) (T P ca) := pe_one ha
/-! tests -/
theorem isEmpty_rp {K : PySem.W.Frag} {G : Hp} {xs : List V} {ds : List D} (h : RpAll K G xs ds) : (!ds.isEmpty) = !xs.isEmpty := by
  cases h <;> rfl
theorem tt_of (hK : X.K = P.K) (h : PE X a (T P ca)) (he : ∀ whole, isTrue a X.env whole = (do let v ← whole; standAt a.pos; holding [v] (truthy v))) : PT X a (TT' P ca) := by
  refine PTw (pt_truth h he) fun σ H Q ⟨ρ, G, fm, h⟩ => ⟨ρ, G, fm, ?_⟩
  refine Out.bind h fun x ρ1 v G1 H1 s1 fm1 r1 h1 => ?_
  cases r1 with
  | bl k => exact ⟨k, rfl, h1.ret fm1 rfl⟩
  | non => exact ⟨false, rfl, h1.ret fm1 rfl⟩
  | @lst a xs ds q1 q2 => exact ⟨!ds.isEmpty, .inl ⟨xs, hK ▸ (Same.ls fm1.sub q1).seq, by rw [isEmpty_rp q2]⟩, h1.ret fm1 rfl⟩
  | @tup a xs ds q1 q2 => exact ⟨!ds.isEmpty, .inr (.inl ⟨xs, hK ▸ Same.seqT fm1.sub q1, by rw [isEmpty_rp q2]⟩), h1.ret fm1 rfl⟩
  | _ => exact h1.elim
theorem t_not (hK : X.K = P.K) (ha : PE X a (T P ca)) : PE X (.UnaryOp .Not a pos) (T P (.not ca)) := by
  refine PEw (pe_notT ha) fun σ H Q ⟨ρ, G, fm, h⟩ => ⟨ρ, G, fm, ?_⟩
  simp only [ev] at h
  refine Out.bind h fun x ρ1 v G1 H1 s1 fm1 r1 h1 => ?_
  cases r1 with
  | bl k => exact ⟨k, rfl, h1.ret fm1 (.bl _)⟩
  | non => exact ⟨false, rfl, h1.ret fm1 (.bl _)⟩
  | @lst a xs ds q1 q2 => exact ⟨!ds.isEmpty, .inl ⟨xs, hK ▸ (Same.ls fm1.sub q1).seq, by rw [isEmpty_rp q2]⟩, h1.ret fm1 (.bl _)⟩
  | @tup a xs ds q1 q2 => exact ⟨!ds.isEmpty, .inr (.inl ⟨xs, hK ▸ Same.seqT fm1.sub q1, by rw [isEmpty_rp q2]⟩), h1.ret fm1 (.bl _)⟩
  | _ => exact h1.elim
theorem Rs.assoc {α β γ : Type} (r : Rs α) (f : α → Ro → Rs β) (g : β → Ro → Rs γ) : (r.bind f).bind g = r.bind fun a ρ => (f a ρ).bind g := by cases r <;> rfl
theorem tt_cmp (hK : X.K = P.K) (hu : X.A.units + 100 < cLine) (hm : behindInMarks op b = false) (ha : PE X a (T P ca)) (hb : PE X b (T P cb)) : PT X (.Compare a [op] [b] pos) (TT' P (.cmp op ca cb)) := by
  refine PTw (pt_cmpR (cmp_all hu) ha hb hm) fun σ H Q ⟨ρ, G, fm, h⟩ => ⟨ρ, G, fm, ?_⟩
  simp only [evT, ev, Rs.assoc] at h
  refine Out.bind h fun x ρ1 v G1 H1 s1 fm1 r1 h1 => ⟨ρ1, G1, fm1, ?_⟩
  refine Out.bind h1 fun y ρ2 w G2 H2 s2 fm2 r2 h2 => ?_
  rw [hK]
  cases hc : cmpD op x y with
  | none => rw [hc] at h2; exact h2.elim
  | some k =>
    rw [hc] at h2
    refine ⟨G2, x, y, k, fm2.sub, r1.mono s2, r2, hc, fun z G3 H3 e3 r3 => ?_⟩
    cases r3
    exact ⟨k, rfl, (Out.mono e3.g h2).ret (fm2.ext e3) rfl⟩
theorem tt_chn (hK : X.K = P.K) (hu : X.A.units + 100 < cLine) (hm : lastMarks [o1, o2] [b, c] = false) (ha : PE X a (T P ca)) (hb : PE X b (T P cb)) (hc : PE X c (T P cc)) : PT X (.Compare a [o1, o2] [b, c] pos) (TT' P (.chn o1 o2 ca cb cc)) := by
  refine PTw (pt_chain (cmp_all hu) (cmp_all hu) ha hb hc hm) fun σ H Q ⟨ρ, G, fm, h⟩ => ⟨ρ, G, fm, ?_⟩
  simp only [evT, ev, Rs.assoc] at h
  refine Out.bind h fun x ρ1 v G1 H1 s1 fm1 r1 h1 => ⟨ρ1, G1, fm1, ?_⟩
  refine Out.bind h1 fun y ρ2 w G2 H2 s2 fm2 r2 h2 => ?_
  rw [hK]
  cases hc1 : cmpD o1 x y with
  | none => rw [hc1] at h2; exact h2.elim
  | some k =>
    rw [hc1] at h2
    refine ⟨G2, x, y, k, fm2.sub, r1.mono s2, r2, hc1, fun z G3 H3 e3 r3 => ?_⟩
    cases r3
    refine ⟨k, rfl, ?_⟩
    have fm3 := fm2.ext e3
    cases k with
    | false => exact iteF ⟨false, rfl, (Out.mono e3.g h2).ret fm3 rfl⟩
    | true =>
      simp only [Rs.assoc] at h2
      refine iteT ⟨ρ2, G3, fm3, ?_⟩
      refine Out.bind (Out.mono e3.g h2) fun z ρ4 w4 G4 H4 s4 fm4 r4 h4 => ?_
      cases hc2 : cmpD o2 y z with
      | none => rw [hc2] at h4; exact h4.elim
      | some k2 =>
        rw [hc2] at h4
        refine ⟨G4, y, z, k2, fm4.sub, (r2.mono e3.g).mono s4, r4, hc2, fun z G5 H5 e5 r5 => ?_⟩
        cases r5
        exact ⟨k2, rfl, (Out.mono e5.g h4).ret (fm4.ext e5) rfl⟩
theorem tt_not (ha : PT X a (TT' P ca)) : PT X (.UnaryOp .Not a pos) (TT' P (.not ca)) := by
  refine PTw (pt_not ha) fun σ H Q ⟨ρ, G, fm, h⟩ => ⟨ρ, G, fm, ?_⟩
  simp only [evT, ev, Rs.assoc] at h ⊢
  cases hq : ev P.cal P.b0 ca ρ with
  | bad => rw [hq] at h; exact h
  | er c f ρ' => rw [hq] at h; exact h
  | ok x ρ1 =>
    rw [hq] at h
    simp only [Rs.bind_ok] at h ⊢
    unfold truR
    cases ht : truD x with
    | some k =>
      rw [ht] at h
      intro b G' H' s fm' e
      have e' : b = k := e
      subst e'
      exact h (!b) G' H' s fm' rfl
    | none => rw [ht] at h; exact h.elim
theorem tw_one {o : BoolOp} (ha : PT X a (TT' P ca)) : PW X (.BoolOp o [a] pos) (TT' P ca) := by
  cases o with
  | And => exact pw_and1 ha
  | Or => exact pw_or1 ha
theorem tw_and {rest : List Expr} (ha : PT X a (TT' P ca)) (hb : PW X (.BoolOp .And (b :: rest) pos) (TT' P cb)) : PW X (.BoolOp .And (a :: b :: rest) pos) (TT' P (.and ca cb)) := by
  refine PWw (pw_and ha hb) fun σ H Q ⟨ρ, G, fm, h⟩ => ⟨ρ, G, fm, ?_⟩
  simp only [evT, ev, Rs.assoc] at h ⊢
  cases hq : ev P.cal P.b0 ca ρ with
  | bad => rw [hq] at h; exact h
  | er c f ρ' => rw [hq] at h; exact h
  | ok x ρ1 =>
    rw [hq] at h
    cases x with
    | bool k =>
      intro b G' H' s fm' e
      have e' : b = k := e
      subst e'
      cases b with
      | true => exact iteT ⟨ρ1, G', fm', Out.mono s h⟩
      | false => exact iteF (h false G' H' s fm' rfl)
    | _ => exact h.elim
theorem tw_or {rest : List Expr} (ha : PT X a (TT' P ca)) (hb : PW X (.BoolOp .Or (b :: rest) pos) (TT' P cb)) : PW X (.BoolOp .Or (a :: b :: rest) pos) (TT' P (.or ca cb)) := by
  refine PWw (pw_or ha hb) fun σ H Q ⟨ρ, G, fm, h⟩ => ⟨ρ, G, fm, ?_⟩
  simp only [evT, ev, Rs.assoc] at h ⊢
  cases hq : ev P.cal P.b0 ca ρ with
  | bad => rw [hq] at h; exact h
  | er c f ρ' => rw [hq] at h; exact h
  | ok x ρ1 =>
    rw [hq] at h
    cases x with
    | bool k =>
      intro b G' H' s fm' e
      have e' : b = k := e
      subst e'
      cases b with
      | true => exact iteT (h true G' H' s fm' rfl)
      | false => exact iteF ⟨ρ1, G', fm', Out.mono s h⟩
    | _ => exact h.elim
theorem t_ite (hc : PT X c (TT' P cc)) (ha : PE X a (T P ca)) (hb : PE X b (T P cb)) : PE X (.IfExp c a b pos) (T P (.ite cc ca cb)) := by
  refine PEw (pe_ifExp hc ha hb) fun σ H Q ⟨ρ, G, fm, h⟩ => ⟨ρ, G, fm, ?_⟩
  simp only [ev] at h
  rw [← Rs.assoc] at h
  refine Out.bind (r := evT P.cal P.b0 cc ρ) h fun x ρ1 v G1 H1 s1 fm1 r1 h1 => ?_
  have e' : v = x := r1
  subst e'
  cases v with
  | true => exact iteT ⟨ρ1, G1, fm1, h1⟩
  | false => exact iteF ⟨ρ1, G1, fm1, h1⟩
/-! argument lists, displays -/
theorem ta_nil : PA X [] (TAs P []) := PAw pa_nil fun σ H Q ⟨ρ, G, fm, h⟩ => h.ret fm .nil
theorem ta_cons {es : List Expr} {cs : List CE} (he : PE X e (T P ce)) (hs : PA X es (TAs P cs)) (hst : starEach (e :: es) X.env = (false, eval e X.env) :: starEach es X.env) : PA X (e :: es) (TAs P (ce :: cs)) := by
  refine PAw (pa_cons he hs hst) fun σ H Q ⟨ρ, G, fm, h⟩ => ⟨ρ, G, fm, ?_⟩
  simp only [evA] at h
  refine Out.bind h fun x ρ1 v G1 H1 s1 fm1 r1 h1 => ⟨ρ1, G1, fm1, ?_⟩
  refine Out.bind h1 fun xs ρ2 vs G2 H2 s2 fm2 r2 h2 => ?_
  exact h2.ret fm2 (.cons (r1.mono s2) r2)
theorem t_tup {es : List Expr} {cs : List CE} {x1 : Nat} (h : PA X es (TAs P cs)) : PE X (.Tuple es x1 pos) (T P (.tup cs)) := by
  refine PEw (pe_tup h) fun σ H Q ⟨ρ, G, fm, h⟩ => ⟨ρ, G, fm, ?_⟩
  simp only [ev] at h
  refine Out.bind h fun ds ρ1 vs G1 H1 s1 fm1 r1 h1 => ?_
  split at h1
  · rename_i hl
    exact ⟨by rw [r1.length]; exact lim_le hl, (h1.give fm1).tup fm1.sub r1⟩
  · exact h1.elim
theorem t_lst {es : List Expr} {cs : List CE} (h : PA X es (TAs P cs)) : PE X (.List es pos) (T P (.lst cs)) := by
  refine PEw (pe_lst h) fun σ H Q ⟨ρ, G, fm, h⟩ => ⟨ρ, G, fm, ?_⟩
  simp only [ev] at h
  refine Out.bind h fun ds ρ1 vs G1 H1 s1 fm1 r1 h1 => ?_
  split at h1
  · rename_i hl
    exact ⟨by rw [r1.length]; exact lim_le hl, (h1.give fm1).lst fm1.sub r1⟩
  · exact h1.elim
/-! o[i] -/
theorem atI_rp {K : PySem.W.Frag} {G : Hp} {xs : List V} {ds : List D} {i : Int} {d : D} (r : RpAll K G xs ds) (h : atI ds i = some d) : ∃ v, atI xs i = some v ∧ Rp K G v d := by
  unfold atI at h ⊢
  rw [r.length]
  cases hj : ixN ds.length i with
  | none => rw [hj] at h; cases h
  | some j =>
    rw [hj] at h
    exact r.get h
theorem keyV {K : PySem.W.Frag} {G : Hp} {v : V} {d : D} (r : Rp K G v d) (h : isKey d = true) : ∃ k : Key, v = kV k := by
  cases r with
  | int i => exact ⟨.inl i, rfl⟩
  | str x => exact ⟨.inr x, rfl⟩
  | _ => cases h
theorem keyB_iff {K : PySem.W.Frag} {G : Hp} {k k' : Key} {d e : D} (r : Rp K G (kV k) d) (r' : Rp K G (kV k') e) : keyB d e = decide (k = k') := by
  cases k with
  | inl i =>
    cases r
    cases k' with
    | inl j => cases r'; show decide (i = j) = _; simp
    | inr j => cases r'; show false = _; simp
  | inr i =>
    cases r
    cases k' with
    | inl j => cases r'; show false = _; simp
    | inr j => cases r'; show decide (i = j) = _; simp
theorem RpKv.get {K : PySem.W.Frag} {G : Hp} {k : Key} {y : D} (ry : Rp K G (kV k) y) : ∀ {kvs : List (Key × V)} {ds : List (D × D)} {d : D}, RpKv K G kvs ds → dgetD ds y = some d → ∃ v, valV kvs k = some v ∧ Rp K G v d
  | _, _, _, .nil, h => by cases h
  | _, _, d, @RpKv.cons _ _ k0 v0 kvs e0 d0 ds a b c, h => by
    have e := keyB_iff a ry
    unfold dgetD at h
    rw [List.find?_cons] at h
    by_cases q : k0 = k
    · rw [show keyB (e0, d0).1 y = true by rw [show (e0, d0).1 = e0 from rfl, e, decide_eq_true q]] at h
      cases h
      exact ⟨v0, valV_pos q, b⟩
    · rw [show keyB (e0, d0).1 y = false by rw [show (e0, d0).1 = e0 from rfl, e, decide_eq_false q]] at h
      rw [valV_neg q]
      exact RpKv.get ry c h
theorem RpKv.length {K : PySem.W.Frag} {G : Hp} : ∀ {kvs : List (Key × V)} {ds : List (D × D)}, RpKv K G kvs ds → kvs.length = ds.length
  | _, _, .nil => rfl
  | _, _, .cons _ _ c => by rw [List.length_cons, List.length_cons, RpKv.length c]
theorem RpKv.has {K : PySem.W.Frag} {G : Hp} {k : Key} {y : D} (ry : Rp K G (kV k) y) : ∀ {kvs : List (Key × V)} {ds : List (D × D)}, RpKv K G kvs ds → (ds.any fun p => keyB p.1 y) = kvs.any fun kv => decide (kv.1 = k)
  | _, _, .nil => rfl
  | _, _, .cons a b c => by
    rw [List.any_cons, List.any_cons, keyB_iff a ry, RpKv.has ry c]
theorem RpKv.app {K : PySem.W.Frag} {G : Hp} {k : Key} {v : V} {y d : D} (ry : Rp K G (kV k) y) (rv : Rp K G v d) : ∀ {kvs : List (Key × V)} {ds : List (D × D)}, RpKv K G kvs ds → RpKv K G (kvs ++ [(k, v)]) (ds ++ [(y, d)])
  | _, _, .nil => .cons ry rv .nil
  | _, _, .cons a b c => .cons a b (RpKv.app ry rv c)
theorem RpKv.over {K : PySem.W.Frag} {G : Hp} {k : Key} {v : V} {y d : D} (ry : Rp K G (kV k) y) (rv : Rp K G v d) : ∀ {kvs : List (Key × V)} {ds : List (D × D)}, RpKv K G kvs ds → RpKv K G (kvs.map fun kv => if kv.1 = k then (kv.1, v) else kv) (ds.map fun p => if keyB p.1 y = true then (p.1, d) else p)
  | _, _, .nil => .nil
  | _, _, @RpKv.cons _ _ k0 v0 kvs e0 d0 ds a b c => by
    have e := keyB_iff a ry
    rw [List.map_cons, List.map_cons]
    by_cases q : k0 = k
    · rw [if_pos (show (k0, v0).1 = k from q), if_pos (show keyB (e0, d0).1 y = true by rw [show (e0, d0).1 = e0 from rfl, e, decide_eq_true q])]
      exact .cons a rv (RpKv.over ry rv c)
    · rw [if_neg (show ¬ (k0, v0).1 = k from q), if_neg (show ¬ keyB (e0, d0).1 y = true by rw [show (e0, d0).1 = e0 from rfl, e, decide_eq_false q]; exact Bool.false_ne_true)]
      exact .cons a b (RpKv.over ry rv c)
theorem RpKv.put {K : PySem.W.Frag} {G : Hp} {k : Key} {v : V} {y d : D} {kvs : List (Key × V)} {ds : List (D × D)} (ry : Rp K G (kV k) y) (rv : Rp K G v d) (h : RpKv K G kvs ds) : RpKv K G (putK kvs k v) (dputD ds y d) := by
  unfold putK dputD
  rw [RpKv.has ry h]
  split
  · exact RpKv.over ry rv h
  · exact RpKv.app ry rv h
theorem ix_dict (hu : X.A.units + 1 < cLine) : IxR X (fun x y H Q => ∃ a v, x = .ref a ∧ DGet H a y (some v) ∧ Q v H) := by
  rintro value slice pins s σ H x y v u Q I rx ry ⟨a, w, rfl, g, q⟩ hs
  obtain rfl : v = Value.ref a := rx
  exact tail_any (dict_typeIs I g) PySem.F.slot_dict_getitem.lookup (d_getItem hu I g ry fun w' s' I' rw' => ⟨w, H, I', rw', q⟩) hs
theorem ix_D {K : PySem.W.Frag} (hu : X.A.units + 100 < cLine) (hK : X.K = K) : IxR X (rD2 K idxD) := by
  subst hK
  rintro value slice pins s σ H x y v u Q I rx ry ⟨G, dx, dy, d, sg, hx, hy, e, g⟩ hs
  by_cases isd : ∃ ds, dx = .dict ds
  · obtain ⟨ds, rfl⟩ := isd
    cases hx with
    | @dct a kvs _ h1 h2 =>
      have e' : (if isKey dy = true then dgetD ds dy else none) = some d := e
      split at e'
      · rename_i hk
        obtain ⟨k, rfl⟩ := keyV hy hk
        obtain ⟨w, h3, h4⟩ := h2.get hy e'
        exact ix_dict (by omega) value slice pins s σ H _ _ _ _ Q I rx ry ⟨a, w, rfl, by rw [← h3]; exact DGet.k (sg _ _ h1), g.sc sg h4⟩ hs
      · cases e'
  cases hy with
  | int i =>
    cases hx with
    | @lst a xs ds h1 h2 =>
      obtain ⟨w, h3, h4⟩ := atI_rp h2 (show atI ds i = some d from e)
      exact ix_list value slice pins s σ H _ _ _ _ Q I rx ry ⟨a, xs, i, w, rfl, rfl, (Same.ls sg h1).seq, h3, g.sc sg h4⟩ hs
    | @tup a xs ds h1 h2 =>
      obtain ⟨w, h3, h4⟩ := atI_rp h2 (show atI ds i = some d from e)
      exact ix_tup value slice pins s σ H _ _ _ _ Q I rx ry ⟨a, xs, i, w, rfl, rfl, Same.seqT sg h1, h3, g.sc sg h4⟩ hs
    | str z =>
      have e' : (if z.length ≤ lim then (atI z.cps.toList i).map fun c => PyData.str ⟨#[c]⟩ else none) = some d := e
      split at e'
      · rename_i hl
        cases ha : atI z.cps.toList i with
        | none => rw [ha] at e'; cases e'
        | some c =>
          rw [ha] at e'
          cases e'
          exact ix_str value slice pins s σ H _ _ _ _ Q I rx ry ⟨z, i, c, rfl, rfl, lim_le hl, ha, g.str sg⟩ hs
      · cases e'
    | dct _ _ => exact absurd ⟨_, rfl⟩ isd
    | _ => cases e
  | _ => cases hx <;> first | exact absurd ⟨_, rfl⟩ isd | cases e
theorem t_idx (hu : X.A.units + 100 < cLine) (hK : X.K = P.K) (hp : PlainIx b) (ha : PE X a (T P ca)) (hb : PE X b (T P cb)) : PE X (.Subscript a b pos) (T P (.idx ca cb)) := by
  refine PEw (pe_ix (ix_D hu hK) ha hb hp) fun σ H Q ⟨ρ, G, fm, h⟩ => ⟨ρ, G, fm, ?_⟩
  simp only [ev] at h
  refine Out.bind h fun x ρ1 v G1 H1 s1 fm1 r1 h1 => ⟨ρ1, G1, fm1, ?_⟩
  refine Out.bind h1 fun y ρ2 w G2 H2 s2 fm2 r2 h2 => ?_
  obtain ⟨d, e1, g⟩ := h2.giveO fm2
  exact ⟨G2, x, y, d, fm2.sub, r1.mono s2, r2, e1, g⟩
/-- an item of a name's value -/
theorem t_idv (i : Nat) {x : Str} {p : Pos} (hu : X.A.units + 100 < cLine) (hK : X.K = P.K) (hN : X.N[i]? = some x) (hv : Vis X.env.scope x) (hd : (x == ("__debug__" : Str)) = false) (hcd : (x == ("__classdict__" : Str)) = false) (hp : PlainIx b) (hb : PE X b (T P cb)) :
    PE X (.Subscript (.Name x p) b pos) (T P (.idv i cb)) := by
  have ixo : IxR X (fun y z H Q => ∃ a xs k v, y = .ref a ∧ z = .int k ∧ H a = some (.lst xs) ∧ atI xs k = some v ∧ Q v H) := by
    rintro value slice pins s σ H x y v u Q I rx ry ⟨a, xs, k, w, rfl, rfl, ha, hw, q⟩ hs
    exact ix_list value slice pins s σ H _ _ _ _ Q I rx ry ⟨a, xs, k, w, rfl, rfl, .inl (.inl ha), hw, q⟩ hs
  refine PEw (pe_ix ((ixo.or (ix_dict (by omega))).or (ix_D hu hK)) (pe_var hN hv hd hcd) hb hp) fun σ H Q ⟨ρ, G, fm, h⟩ => ?_
  · simp only [ev] at h
    cases hr : ρ[i]? with
    | none => rw [hr] at h; exact h.elim
    | some o =>
    match o, hr, h with
    | none, hr, h => rw [hr] at h; exact h.elim
    | some (d0, false), hr, h =>
      rw [hr] at h
      obtain ⟨v0, q1, q2⟩ := fm.un i d0 hr
      refine ⟨_, q1, ρ, G, fm, Out.bind h fun y ρ1 w G1 H1 s1 fm1 r1 h1 => .inr ?_⟩
      obtain ⟨d, e1, g⟩ := Out.giveO h1 fm1
      exact ⟨G1, d0, y, d, fm1.sub, q2.mono s1, r1, e1, g⟩
    | some (d0, true), hr, h =>
      rw [hr] at h
      obtain ⟨a, o0, q1, _⟩ := fm.ow i d0 hr
      refine ⟨_, q1, ρ, G, fm, Out.bind h fun y ρ1 w G1 H1 s1 fm1 r1 h1 => .inl ?_⟩
      cases hr1 : ρ1[i]? with
      | none => rw [hr1] at h1; exact h1.elim
      | some o1 =>
      match o1, hr1, h1 with
      | none, hr1, h1 => rw [hr1] at h1; exact h1.elim
      | some (d1, false), hr1, h1 => rw [hr1] at h1; exact h1.elim
      | some (d1, true), hr1, h1 =>
        rw [hr1] at h1
        obtain ⟨a', o', p1, p3, _, _, p6⟩ := fm1.ow i d1 hr1
        rw [q1] at p1
        cases p1
        obtain ⟨d, e1, g⟩ := Out.giveO h1 fm1
        cases d1 with
        | list ds' =>
          obtain ⟨xs', rfl, p6⟩ := p6.lst
          cases r1 with
          | int k =>
            obtain ⟨v, p7, p8⟩ := atI_rp p6 (show atI ds' k = some d from e1)
            exact .inl ⟨a, xs', k, v, rfl, rfl, p3, p7, g.sc fm1.sub p8⟩
          | _ => cases e1
        | dict ds' =>
          obtain ⟨kvs, rfl, p6⟩ := p6.dct
          have e' : (if isKey y = true then dgetD ds' y else none) = some d := e1
          split at e'
          · rename_i hk
            obtain ⟨k, rfl⟩ := keyV r1 hk
            obtain ⟨v, p7, p8⟩ := p6.get r1 e'
            exact .inr ⟨a, v, rfl, by rw [← p7]; exact DGet.k p3, g.sc fm1.sub p8⟩
          · cases e'
        | _ => exact p6.elim
/-- a name's list against [] -/
theorem neq_data (i : Nat) (hK : X.K = P.K) {σ : L2.St} {H G : Hp} {ρ : Ro} {d : D} {w : Bool} (fm : P.Fm ρ G σ H) (hr : ρ[i]? = some (some (d, w))) : ∃ v, σ[i]? = some (some v) ∧ ∀ {G1 H1 : Hp}, Same G G1 → P.Fm ρ G1 σ H1 → Rp X.K H1 v d := by
  cases w with
  | false =>
    obtain ⟨v0, q1, q2⟩ := fm.un i d hr
    exact ⟨v0, q1, fun s1 fm1 => by rw [hK]; exact (q2.mono s1).mono fm1.sub⟩
  | true =>
    obtain ⟨a, o0, q1, _⟩ := fm.ow i d hr
    refine ⟨_, q1, fun s1 fm1 => ?_⟩
    obtain ⟨a', o', p1, p3, _, _, p6⟩ := fm1.ow i d hr
    rw [q1] at p1
    cases p1
    rw [hK]
    exact p6.rp fm1.sub p3
theorem t_neq (i : Nat) {x : Str} {p : Pos} (hK : X.K = P.K) (hu : X.A.units + 100 < cLine) (hN : X.N[i]? = some x) (hv : Vis X.env.scope x) (hd : (x == ("__debug__" : Str)) = false) (hcd : (x == ("__classdict__" : Str)) = false) (hm : behindInMarks .NotEq b = false) (hb : PE X b (T P (.lst []))) :
    PE X (.Compare (.Name x p) [.NotEq] [b] pos) (T P (.neq i)) := by
  refine PEw (pe_cmpR (op_neD (by omega)) (pe_var hN hv hd hcd) hb hm) fun σ H Q ⟨ρ, G, fm, h⟩ => ?_
  simp only [ev] at h
  cases hr : ρ[i]? with
  | none => rw [hr] at h; exact h.elim
  | some o =>
  match o, hr, h with
  | none, hr, h => rw [hr] at h; exact h.elim
  | some (d, w), hr, h =>
    rw [hr] at h
    dsimp only at h
    split at h
    · rename_i hs
      obtain ⟨v, q1, q2⟩ := neq_data i hK fm hr
      refine ⟨v, q1, ρ, G, fm, ?_⟩
      simp only [ev, evA, Rs.bind_ok]
      rw [if_pos (by decide)]
      intro y G1 H1 s1 fm1 r1
      exact ⟨d, .list [], (q2 s1 fm1).dp (shaped_lay hs), Rp.dp (by rw [hK]; exact r1.mono fm1.sub) rfl, hs, rfl, h _ _ _ s1 fm1 (.bl _)⟩
    · exact h.elim
theorem tt_neq (i : Nat) {x : Str} {p : Pos} (hK : X.K = P.K) (hu : X.A.units + 100 < cLine) (hN : X.N[i]? = some x) (hv : Vis X.env.scope x) (hd : (x == ("__debug__" : Str)) = false) (hcd : (x == ("__classdict__" : Str)) = false) (hm : behindInMarks .NotEq b = false) (hb : PE X b (T P (.lst []))) :
    PT X (.Compare (.Name x p) [.NotEq] [b] pos) (TT' P (.neq i)) := by
  refine PTw (pt_cmpR (op_neD (by omega)) (pe_var hN hv hd hcd) hb hm) fun σ H Q ⟨ρ, G, fm, h⟩ => ?_
  simp only [evT, ev] at h
  cases hr : ρ[i]? with
  | none => rw [hr] at h; exact h.elim
  | some o =>
  match o, hr, h with
  | none, hr, h => rw [hr] at h; exact h.elim
  | some (d, w), hr, h =>
    rw [hr] at h
    dsimp only at h
    split at h
    · rename_i hs
      obtain ⟨v, q1, q2⟩ := neq_data i hK fm hr
      refine ⟨v, q1, ρ, G, fm, ?_⟩
      simp only [ev, evA, Rs.bind_ok]
      rw [if_pos (by decide)]
      intro y G1 H1 s1 fm1 r1
      exact ⟨d, .list [], (q2 s1 fm1).dp (shaped_lay hs), Rp.dp (by rw [hK]; exact r1.mono fm1.sub) rfl, hs, rfl, _, rfl, h _ _ _ s1 fm1 rfl⟩
    · exact h.elim
end
end Ev


set_option Elab.async false
set_option linter.all false
set_option maxRecDepth 100000
set_option maxHeartbeats 2000000
namespace Ev
open PySem PySem.Spec PyProof.Rows L2

/-! ## Reads of data -/
section
variable {X : Cx} {pins : List (Addr × Obj)} {σ : L2.St} {H : Hp} {s : Shared}
mutual
theorem rp_reads (I : L2.Inv X pins σ H s) : ∀ {v : V} {d : D} {u : Value}, Rp X.K H v d → d.hasDict = false → RelV v u → ∃ as, Reads s.heap u d as
  | _, _, _, .non, _, r => by cases r; exact ⟨_, .none⟩
  | _, _, _, .bl b, _, r => by cases r; exact ⟨_, .bool b⟩
  | _, _, _, .int i, _, r => by obtain ⟨t, rfl⟩ := r; exact ⟨_, .int i t⟩
  | _, _, _, .str x, _, r => by obtain ⟨t, rfl⟩ := r; exact ⟨_, .str x t⟩
  | _, _, _, .lst s h, hd, r => by
    cases r
    obtain ⟨its, rv, ⟨o, n, h1, h2, _, h4⟩, _⟩ := I.list s.seq
    obtain ⟨as, q⟩ := rp_readsAll I h (by simpa [PyData.hasDict] using hd) rv
    exact ⟨_, .list h1 h2 h4 q⟩
  | _, _, _, .tup s h, hd, r => by
    cases r
    obtain ⟨its, rv, ⟨o, h1, h2, n, h4⟩, _⟩ := I.tuple s
    obtain ⟨as, q⟩ := rp_readsAll I h (by simpa [PyData.hasDict] using hd) rv
    exact ⟨_, .tuple h1 h2 h4 q⟩
  | _, _, _, .dct _ _, hd, _ => by simp [PyData.hasDict] at hd
theorem rp_readsAll (I : L2.Inv X pins σ H s) : ∀ {v : List V} {d : List D} {u : List Value}, RpAll X.K H v d → PyData.hasDictAll d = false → Vals v u → ∃ as, ReadsAll s.heap u d as
  | _, _, _, .nil, _, r => by cases r; exact ⟨_, .nil⟩
  | _, _, _, .cons a b, hd, r => by
    cases r with
    | cons r1 r2 =>
      simp only [PyData.hasDictAll, Bool.or_eq_false_iff] at hd
      obtain ⟨as, q1⟩ := rp_reads I a hd.1 r1
      obtain ⟨bs, q2⟩ := rp_readsAll I b hd.2 r2
      exact ⟨_, .cons q1 q2⟩
end
end
end Ev
namespace Ev
open PySem PySem.Spec PyProof.Rows L2
/-! ## built-ins -/
section
variable {X : Cx}
theorem one_arg {K : PySem.W.Frag} {G : Hp} {xs : List V} {ds : List D} (h : RpAll K G xs ds) {d : D} (e : ds = [d]) : ∃ v, xs = [v] ∧ Rp K G v d := by
  subst e
  cases h with
  | cons a b => cases b; exact ⟨_, rfl, a⟩
theorem two_arg {K : PySem.W.Frag} {G : Hp} {xs : List V} {ds : List D} (h : RpAll K G xs ds) {d e : D} (q : ds = [d, e]) : ∃ v w, xs = [v, w] ∧ Rp K G v d ∧ Rp K G w e := by
  subst q
  cases h with
  | cons a b =>
    cases b with
    | cons c b => cases b; exact ⟨_, _, rfl, a, c⟩
theorem cb_abs : CallR X (.builtin "abs") (rDs X.K absD) := by
  rintro pins s σ H xs us Q I r ⟨G, ds, d, sg, hr, e, g⟩
  unfold absD at e
  split at e
  · obtain ⟨v, rfl, h⟩ := one_arg hr rfl
    cases h
    cases e
    exact call_abs pins s σ H _ _ Q I r ⟨_, rfl, g.int sg⟩
  · cases e
theorem cb_int : CallR X (.type "int") (rDs X.K intD) := by
  rintro pins s σ H xs us Q I r ⟨G, ds, d, sg, hr, e, g⟩
  unfold intD at e
  split at e
  · obtain ⟨v, rfl, h⟩ := one_arg hr rfl
    cases h
    cases e
    exact call_int1 pins s σ H _ _ Q I r (.inl ⟨_, rfl, g.int sg⟩)
  · obtain ⟨v, rfl, h⟩ := one_arg hr rfl
    cases h
    cases e
    exact call_int1 pins s σ H _ _ Q I r (.inr ⟨_, rfl, g.int sg⟩)
  · obtain ⟨v, rfl, h⟩ := one_arg hr rfl
    cases h
    split at e
    · rename_i z hl
      cases hq : PySem.intText? z with
      | none => rw [hq] at e; cases e
      | some n =>
        rw [hq] at e
        cases e
        exact call_int_str pins s σ H _ _ Q I r ⟨_, n, rfl, hq, hl, g.int sg⟩
    · cases e
  · cases e
theorem cb_len : CallR X (.builtin "len") (rDs X.K lenD) := by
  rintro pins s σ H xs us Q I r ⟨G, ds, d, sg, hr, e, g⟩
  unfold lenD at e
  split at e
  · obtain ⟨v, rfl, h⟩ := one_arg hr rfl
    cases h with
    | @lst a ys _ h1 h2 =>
      cases e
      refine call_len pins s σ H _ _ Q I r ⟨_, ys.length, rfl, .inl ⟨ys, (Same.ls sg h1).seq, rfl⟩, ?_⟩
      rw [h2.length]
      exact g.int sg
  · obtain ⟨v, rfl, h⟩ := one_arg hr rfl
    cases h with
    | @tup a ys _ h1 h2 =>
      cases e
      refine call_len pins s σ H _ _ Q I r ⟨_, ys.length, rfl, .inr ⟨ys, Same.seqT sg h1, rfl⟩, ?_⟩
      rw [h2.length]
      exact g.int sg
  · obtain ⟨v, rfl, h⟩ := one_arg hr rfl
    cases h
    split at e
    · rename_i hl
      cases e
      exact call_len pins s σ H _ _ Q I r ⟨_, _, rfl, ⟨lim_le hl, rfl⟩, g.int sg⟩
    · cases e
  · cases e
theorem cb_str : CallR X (.type "str") (rDs X.K strD) := by
  rintro pins s σ H xs us Q I r ⟨G, ds, d, sg, hr, e, g⟩
  unfold strD at e
  split at e
  · obtain ⟨v, rfl, h⟩ := one_arg hr rfl
    cases h
    split at e
    · rename_i hl
      cases e
      exact call_str_int pins s σ H _ _ Q I r ⟨_, rfl, hl, g.str sg⟩
    · cases e
  · cases e
theorem vals_get : ∀ {xs : List V} {us : List Value}, xs.length = us.length → (∀ (i : Nat) (x : V) (u : Value), xs[i]? = some x → us[i]? = some u → RelV x u) → Vals xs us
  | [], [], _, _ => .nil
  | x :: xs, u :: us, hl, h => .cons (h 0 x u rfl rfl) (vals_get (by simpa using hl) fun i y w h1 h2 => h (i + 1) y w (by simpa using h1) (by simpa using h2))
  | [], _ :: _, hl, _ => by cases hl
  | _ :: _, [], hl, _ => by cases hl
theorem ones_rp {K : PySem.W.Frag} {G : Hp} : ∀ cs : List Nat, RpAll K G (cs.map fun c => V.str ⟨#[c]⟩) (cs.map oneS)
  | [] => .nil
  | c :: cs => .cons (.str _) (ones_rp cs)
theorem cb_list (hc : X.calm = true) : CallR X (.type "list") (rDs X.K listD) := by
  rintro pins s σ H xs us Q I r ⟨G, ds, d, sg, hr, e, g⟩
  unfold listD at e
  split at e
  · obtain ⟨v, rfl, h⟩ := one_arg hr rfl
    cases h with
    | @lst a ys _ h1 h2 =>
      cases e
      exact call_list_of pins s σ H _ _ Q I r ⟨a, ys, rfl, .inl ((Same.ls sg h1).seq), g.lst sg h2⟩
  · obtain ⟨v, rfl, h⟩ := one_arg hr rfl
    cases h with
    | @tup a ys _ h1 h2 =>
      cases e
      exact call_list_of pins s σ H _ _ Q I r ⟨a, ys, rfl, .inr (Same.seqT sg h1), g.lst sg h2⟩
  · obtain ⟨v, rfl, h⟩ := one_arg hr rfl
    cases h
    split at e
    · rename_i z hl
      cases e
      cases r with
      | cons ru rr =>
      cases rr
      obtain ⟨t, rfl⟩ := ru
      have hl' : z.length ≤ sizeLine := lim_le hl
      refine PySem.call_list_str (I.ok.hd hc) z t (hn := hl') fun h' tk acc c' hk hS hi => ?_
      have fr : H s.heap.objs.size = none := I.hok.fresh (Nat.le_refl _)
      have hv : Vals (z.cps.toList.map fun c => V.str ⟨#[c]⟩) acc.toList := vals_get (by simp [hi.1]) fun i x u h1 h2 => by
        obtain ⟨c, w, q1, q2⟩ := hi.2 i u (by simpa using h2)
        have q1' : z.cps.toList[i]? = some c := by simpa using q1
        rw [List.getElem?_map, q1'] at h1
        cases h1
        exact ⟨w, q2⟩
      exact ⟨.ref s.heap.objs.size, upd H s.heap.objs.size (.lst (z.cps.toList.map fun c => V.str ⟨#[c]⟩)), I.laid (t' := tk) hk (Nat.le_refl _) (show ObjOk X.prog X.w _ _ _ (.lst _) from ⟨by rw [List.length_map]; simpa [Str.length] using hl', acc.toList, c', hv, by simpa using hS⟩), rfl, g.lst sg (ones_rp _) _ fr⟩
    · cases e
  · cases e
theorem cb_tuple : CallR X (.type "tuple") (rDs X.K tupleD) := by
  rintro pins s σ H xs us Q I r ⟨G, ds, d, sg, hr, e, g⟩
  unfold tupleD at e
  split at e
  · obtain ⟨v, rfl, h⟩ := one_arg hr rfl
    cases h with
    | @lst a ys _ h1 h2 =>
      cases e
      exact call_tuple_of pins s σ H _ _ Q I r ⟨a, ys, rfl, .inl ⟨(Same.ls sg h1).seq, g.tup sg h2⟩⟩
  · obtain ⟨v, rfl, h⟩ := one_arg hr rfl
    cases h with
    | @tup a ys _ h1 h2 =>
      cases e
      exact call_tuple_of pins s σ H _ _ Q I r ⟨a, ys, rfl, .inr ⟨Same.seqT sg h1, g.sc sg (.tup h1 h2)⟩⟩
  · cases e
theorem cb_divmod : CallR X (.builtin "divmod") (rDs X.K divmodD) := by
  rintro pins s σ H xs us Q I r ⟨G, ds, d, sg, hr, e, g⟩
  unfold divmodD at e
  split at e
  · rename_i i j
    obtain ⟨v, w, rfl, h, h'⟩ := two_arg hr rfl
    cases h
    cases h'
    split at e
    · rename_i hg
      cases e
      obtain ⟨u, w', rfl, ⟨t, rfl⟩, ⟨t', rfl⟩⟩ := vals2 r
      have hj : (0 : Int) < j := hg.1
      refine PyProof.Rows.divmod_int (by omega) ?_ (.inl (PyProof.noPylong_of_log2 (by have := bigG_log hg.2; omega)))
      rw [Int.fdiv_eq_ediv_of_nonneg i (by omega), Int.fmod_eq_emod_of_nonneg i (by omega)]
      have hn : H s.heap.objs.size = none := I.hok.fresh (Nat.le_refl _)
      refine ⟨.ref s.heap.objs.size, _, I.laid (o := .tup [.int (i / j), .int (i % j)]) (fun b o e => Heap.get?_push_of_some _ e) (Nat.le_refl _) ⟨by show 2 ≤ sizeLine; decide, [.int (i / j) s.toks, .int (i % j) (s.toks + 1)], .cons ⟨_, rfl⟩ (.cons ⟨_, rfl⟩ .nil), ?_⟩, rfl,
        g.tup sg (.cons (.int _) (.cons (.int _) .nil)) _ hn⟩
      exact ⟨_, Heap.get?_push_size s.heap rfl, rfl, 0, rfl⟩
    · cases e
  · cases e
theorem ints_of {K : PySem.W.Frag} {G : Hp} : ∀ {xs : List V} {ds : List D} {is : List Int}, RpAll K G xs ds → intsOf ds = some is → xs = is.map V.int
  | _, _, _, .nil, h => by cases h; rfl
  | _, d :: ds, is, .cons a b, h => by
    cases d with
    | int i =>
      have h' : (intsOf ds).map (i :: ·) = some is := h
      cases hq : intsOf ds with
      | none => rw [hq] at h'; cases h'
      | some js =>
        rw [hq] at h'
        cases h'
        cases a
        rw [ints_of b hq]
        rfl
    | _ => cases h
theorem bools_of {K : PySem.W.Frag} {G : Hp} : ∀ {xs : List V} {ds : List D} {is : List Bool}, RpAll K G xs ds → boolsOf ds = some is → xs = is.map V.bl
  | _, _, _, .nil, h => by cases h; rfl
  | _, d :: ds, is, .cons a b, h => by
    cases d with
    | bool i =>
      have h' : (boolsOf ds).map (i :: ·) = some is := h
      cases hq : boolsOf ds with
      | none => rw [hq] at h'; cases h'
      | some js =>
        rw [hq] at h'
        cases h'
        cases a
        rw [bools_of b hq]
        rfl
    | _ => cases h
theorem strs_of {K : PySem.W.Frag} {G : Hp} : ∀ {xs : List V} {ds : List D} {is : List Str}, RpAll K G xs ds → strsOf ds = some is → xs = is.map V.str
  | _, _, _, .nil, h => by cases h; rfl
  | _, d :: ds, is, .cons a b, h => by
    cases d with
    | str i =>
      have h' : (strsOf ds).map (i :: ·) = some is := h
      cases hq : strsOf ds with
      | none => rw [hq] at h'; cases h'
      | some js =>
        rw [hq] at h'
        cases h'
        cases a
        rw [strs_of b hq]
        rfl
    | _ => cases h
theorem lowL_spec : ∀ (m : Int) (xs : List Int), (lowL m xs = m ∨ lowL m xs ∈ xs) ∧ lowL m xs ≤ m ∧ ∀ y ∈ xs, lowL m xs ≤ y
  | m, [] => ⟨.inl rfl, Int.le_refl _, fun y h => by cases h⟩
  | m, x :: xs => by
    obtain ⟨h1, h2, h3⟩ := lowL_spec (if x < m then x else m) xs
    have e : lowL m (x :: xs) = lowL (if x < m then x else m) xs := rfl
    rw [e]
    have hz : ∃ z, z = (if x < m then x else m) ∧ (z ≤ m ∧ z ≤ x) := ⟨_, rfl, by split <;> omega, by split <;> omega⟩
    obtain ⟨z, hz, z1, z2⟩ := hz
    refine ⟨?_, ?_, fun y hy => ?_⟩
    · rcases h1 with h | h
      · rw [h]
        split
        · exact .inr List.mem_cons_self
        · exact .inl rfl
      · exact .inr (List.mem_cons_of_mem _ h)
    · rw [← hz] at h2 ⊢
      omega
    · rcases List.mem_cons.mp hy with q | q
      · subst q
        rw [← hz] at h2 ⊢
        omega
      · exact h3 y q
theorem topL_spec : ∀ (m : Int) (xs : List Int), (topL m xs = m ∨ topL m xs ∈ xs) ∧ m ≤ topL m xs ∧ ∀ y ∈ xs, y ≤ topL m xs
  | m, [] => ⟨.inl rfl, Int.le_refl _, fun y h => by cases h⟩
  | m, x :: xs => by
    obtain ⟨h1, h2, h3⟩ := topL_spec (if m < x then x else m) xs
    have e : topL m (x :: xs) = topL (if m < x then x else m) xs := rfl
    rw [e]
    have hz : ∃ z, z = (if m < x then x else m) ∧ (m ≤ z ∧ x ≤ z) := ⟨_, rfl, by split <;> omega, by split <;> omega⟩
    obtain ⟨z, hz, z1, z2⟩ := hz
    refine ⟨?_, ?_, fun y hy => ?_⟩
    · rcases h1 with h | h
      · rw [h]
        split
        · exact .inr List.mem_cons_self
        · exact .inl rfl
      · exact .inr (List.mem_cons_of_mem _ h)
    · rw [← hz] at h2 ⊢
      omega
    · rcases List.mem_cons.mp hy with q | q
      · subst q
        rw [← hz] at h2 ⊢
        omega
      · exact h3 y q
theorem cb_max (hc : X.calm = true) : CallR X (.builtin "max") (rDs X.K maxD) := by
  rintro pins s σ H xs us Q I r ⟨G, ds, d, sg, hr, e, g⟩
  unfold maxD at e
  split at e
  · obtain ⟨v, w, rfl, h, h'⟩ := two_arg hr rfl
    cases h
    cases h'
    cases e
    exact call_max2 hc pins s σ H _ _ Q I r ⟨_, _, rfl, g.int sg⟩
  · rename_i ys
    obtain ⟨v, rfl, h⟩ := one_arg hr rfl
    cases h with
    | @lst a zs _ h1 h2 =>
      cases hq : intsOf ys with
      | none => rw [hq] at e; cases e
      | some is =>
        rw [hq] at e
        have := ints_of h2 hq
        subst this
        cases is with
        | nil => cases e
        | cons b bs =>
          cases e
          refine cr_max hc pins s σ H _ _ Q I r ⟨a, b :: bs, rfl, (Same.ls sg h1).seq, by simp, fun m m1 m2 => ?_⟩
          obtain ⟨l1, l2, l3⟩ := topL_spec b bs
          have : m = topL b bs := by
            have q1 : topL b bs ≤ m := by
              rcases l1 with l | l
              · rw [l]; exact m2 b List.mem_cons_self
              · exact m2 _ (List.mem_cons_of_mem _ l)
            have q2 : m ≤ topL b bs := by
              rcases List.mem_cons.mp m1 with l | l
              · rw [l]; exact l2
              · exact l3 m l
            omega
          subst this
          exact g.int sg
  · cases e
theorem cb_min (hc : X.calm = true) : CallR X (.builtin "min") (rDs X.K minD) := by
  rintro pins s σ H xs us Q I r ⟨G, ds, d, sg, hr, e, g⟩
  unfold minD at e
  split at e
  · obtain ⟨v, w, rfl, h, h'⟩ := two_arg hr rfl
    cases h
    cases h'
    cases e
    exact call_min2 hc pins s σ H _ _ Q I r ⟨_, _, rfl, g.int sg⟩
  · rename_i ys
    obtain ⟨v, rfl, h⟩ := one_arg hr rfl
    cases h with
    | @lst a zs _ h1 h2 =>
      cases hq : intsOf ys with
      | none => rw [hq] at e; cases e
      | some is =>
        rw [hq] at e
        have := ints_of h2 hq
        subst this
        cases is with
        | nil => cases e
        | cons b bs =>
          cases e
          refine cr_min hc pins s σ H _ _ Q I r ⟨a, b :: bs, rfl, (Same.ls sg h1).seq, by simp, fun m m1 m2 => ?_⟩
          obtain ⟨l1, l2, l3⟩ := lowL_spec b bs
          have : m = lowL b bs := by
            have q1 : m ≤ lowL b bs := by
              rcases l1 with l | l
              · rw [l]; exact m2 b List.mem_cons_self
              · exact m2 _ (List.mem_cons_of_mem _ l)
            have q2 : lowL b bs ≤ m := by
              rcases List.mem_cons.mp m1 with l | l
              · rw [l]; exact l2
              · exact l3 m l
            omega
          subst this
          exact g.int sg
  · cases e
theorem cb_sum (hc : X.calm = true) : CallR X (.builtin "sum") (rDs X.K sumD) := by
  rintro pins s σ H xs us Q I r ⟨G, ds, d, sg, hr, e, g⟩
  unfold sumD at e
  split at e
  · rename_i ys
    obtain ⟨v, rfl, h⟩ := one_arg hr rfl
    cases h with
    | @lst a zs _ h1 h2 =>
      cases hq : intsOf ys with
      | none => rw [hq] at e; cases e
      | some is =>
        rw [hq] at e
        cases e
        have := ints_of h2 hq
        subst this
        exact cr_sum hc pins s σ H _ _ Q I r ⟨a, is, rfl, (Same.ls sg h1).seq, g.int sg⟩
  · cases e
theorem cb_all (hc : X.calm = true) : CallR X (.builtin "all") (rDs X.K allD) := by
  rintro pins s σ H xs us Q I r ⟨G, ds, d, sg, hr, e, g⟩
  unfold allD at e
  split at e
  · rename_i ys
    obtain ⟨v, rfl, h⟩ := one_arg hr rfl
    cases h with
    | @lst a zs _ h1 h2 =>
      cases hq : boolsOf ys with
      | none => rw [hq] at e; cases e
      | some is =>
        rw [hq] at e
        cases e
        have := bools_of h2 hq
        subst this
        exact cr_all hc pins s σ H _ _ Q I r ⟨a, is, rfl, (Same.ls sg h1).seq, g.bl sg⟩
  · cases e
theorem cb_any (hc : X.calm = true) : CallR X (.builtin "any") (rDs X.K anyD) := by
  rintro pins s σ H xs us Q I r ⟨G, ds, d, sg, hr, e, g⟩
  unfold anyD at e
  split at e
  · rename_i ys
    obtain ⟨v, rfl, h⟩ := one_arg hr rfl
    cases h with
    | @lst a zs _ h1 h2 =>
      cases hq : boolsOf ys with
      | none => rw [hq] at e; cases e
      | some is =>
        rw [hq] at e
        cases e
        have := bools_of h2 hq
        subst this
        exact cr_any hc pins s σ H _ _ Q I r ⟨a, is, rfl, (Same.ls sg h1).seq, g.bl sg⟩
  · cases e
theorem ints_rpA {K : PySem.W.Frag} {G : Hp} : ∀ is : List Int, RpAll K G (is.map V.int) (is.map PyData.int)
  | [] => .nil
  | i :: is => .cons (.int i) (ints_rpA is)
theorem cb_sorted : CallR X (.builtin "sorted") (rDs X.K sortedD) := by
  rintro pins s σ H xs us Q I r ⟨G, ds, d, sg, hr, e, g⟩
  unfold sortedD at e
  split at e
  · rename_i ys
    obtain ⟨v, rfl, h⟩ := one_arg hr rfl
    cases h with
    | @lst a zs _ h1 h2 =>
      cases hq : intsOf ys with
      | none => rw [hq] at e; cases e
      | some is =>
        rw [hq] at e
        cases e
        have := ints_of h2 hq
        subst this
        exact cr_sortedI pins s σ H _ _ Q I r ⟨a, is, rfl, (Same.ls sg h1).seq, fun ns' p hp hs hn => by
          obtain rfl := PySem.W.eq_sortI hp hs
          exact g.lst sg (ints_rpA _) p hn⟩
  · cases e
theorem cb_repr (hg : X.A.guards = some []) (hu : X.A.units + 100 < cLine) : CallR X (.builtin "repr") (rDs X.K reprD) := by
  rintro pins s σ H xs us Q I r ⟨G, ds, d, sg, hr, e, g⟩
  unfold reprD at e
  split at e
  · obtain ⟨v, rfl, h⟩ := one_arg hr rfl
    obtain ⟨u, rfl, ru⟩ := vals1 r
    cases e
    cases h with
    | @dct a kvs ds' h1 h2 =>
      cases h2
      cases ru
      obtain ⟨_, hz, vs, kv, o, es, ep, q1, q2, q3, _, q5, _⟩ : (0 : Nat) ≤ sizeLine ∧ (a == sysModules) = false ∧ ∃ vs, KV [] vs ∧ s.heap.DictOf (mixKind X.prog X.w) a vs := I.hok a _ (sg _ _ h1)
      cases kv
      have hes : es.toList = [] := by
        cases hq : es.toList with
        | nil => rfl
        | cons x xs => rw [hq] at q5; cases q5
      have hR : Reads s.heap (.ref a) (.dict []) (a :: [] ++ []) := .dict q1 q2.1 q3 (by rw [hes]; exact .nil) (by rw [hes]; exact .nil)
      refine repr_of_reads' hR rfl (fun _ hm => ?_) hg (by simp [PyData.depth, PyData.depthKv]; omega) (fun b o e => e) (fun h' u tk hk => ⟨.str _, H, I.kept hk, ⟨u, rfl⟩, g.str sg⟩) (by decide +kernel)
      have e : sysModules = a := by simpa using hm
      rw [← e] at hz
      simp at hz
  · rename_i d0 hd0
    obtain ⟨v, rfl, h⟩ := one_arg hr rfl
    obtain ⟨u, rfl, ru⟩ := vals1 r
    split at e
    · rename_i hk
      cases e
      unfold reprOk at hk
      simp only [Bool.and_eq_true, decide_eq_true_eq, Bool.not_eq_true'] at hk
      obtain ⟨⟨⟨k1, k2⟩, k3⟩, k4⟩ := hk
      have fin : ∀ tk t, EP X pins σ Q (.str d0.shown t) { s with toks := tk } := fun tk t => ⟨.str d0.shown, H, I.tok tk, ⟨t, rfl⟩, g.str sg⟩
      cases h with
      | non => cases ru; exact PySem.P.repr_of_none (fin _ _)
      | bl b => cases ru; exact PySem.P.repr_of_bool (by have q := fin (s.toks + 1) s.toks; cases b <;> exact q)
      | int i => obtain ⟨t, rfl⟩ := ru; exact PySem.P.repr_of_int (by simpa [PyData.showable] using k1) (fin _ _)
      | str x => obtain ⟨t, rfl⟩ := ru; exact PySem.P.repr_of_str (fin _ _) (lim_le k4)
      | @lst a ys ds' h1 h2 =>
        cases ru
        obtain ⟨as, hR⟩ := rp_reads I ((Rp.lst h1 h2).mono sg) k2 rfl
        exact repr_of_reads' hR k1 (PyData.noDict_hsm k2) hg (by omega) (fun b o e => e) (fun h' u tk hk => ⟨.str _, H, I.kept hk, ⟨u, rfl⟩, g.str sg⟩) (lim_le k4)
      | @tup a ys ds' h1 h2 =>
        cases ru
        obtain ⟨as, hR⟩ := rp_reads I ((Rp.tup h1 h2).mono sg) k2 rfl
        exact repr_of_reads' hR k1 (PyData.noDict_hsm k2) hg (by omega) (fun b o e => e) (fun h' u tk hk => ⟨.str _, H, I.kept hk, ⟨u, rfl⟩, g.str sg⟩) (lim_le k4)
      | dct h1 h2 => simp [PyData.hasDict] at k2
    · cases e
  · cases e
/-! isinstance -/
theorem rp_ty {K : PySem.W.Frag} {G H : Hp} {v : V} {d : D} (sg : Same G H) (h : Rp K G v d) : TyX K H v (.type (isiT d)) := by
  cases h with
  | non => exact .base .non
  | bl b => exact .base (.bl b)
  | int b => exact .base (.int b)
  | str b => exact .base (.str b)
  | lst h1 h2 =>
    rcases Same.ls sg h1 with (h | ⟨o, h⟩) | ⟨its, n, h, _⟩
    · exact .base (.lst h)
    · exact .base (.frz h)
    · exact .kList h rfl
  | tup h1 h2 =>
    rcases Same.seqT sg h1 with (h | ⟨o, h⟩) | ⟨o, its, n, e, c, _⟩
    · exact .base (.tup h)
    · exact .fTuple h
    · exact .kTuple e c
  | dct h1 h2 => exact .base (.dK (sg _ _ h1))
/-- the tests behind the first argument -/
def rIs (K : PySem.W.Frag) (c : String) : List V → Hp → VK → Prop := fun xs H Q => ∃ G x d b, xs = [x, .ty c] ∧ Same G H ∧ Rp K G x d ∧ isiD d c = some b ∧ Giv K G H (.bool b) Q
theorem cb_isi {c : String} : CallR X (.builtin "isinstance") (rIs X.K c) := by
  rintro pins s σ H xs us Q I r ⟨G, x, d, b, rfl, sg, h, e, g⟩
  exact call_isi pins s σ H _ _ Q I r ⟨x, .ty c, _, _, b, rfl, .ty c, rp_ty sg h, kit_ty e, g.bl sg⟩
end
end Ev


set_option Elab.async false
set_option linter.all false
set_option maxRecDepth 100000
set_option maxHeartbeats 2000000
namespace Ev
open PySem PySem.Spec PyProof.Rows L2

/-! ## a def's promise, where no repr is under way -/
structure FnG (P : Program) (w : World) (K : PySem.W.Frag) (mg : Str → Option Value) (base : Heap) (k : Nat) (f : Addr) (fd : FuncData) (ps : List Str) (sp : Sp) : Prop where
  len : ∀ vs H Q E, sp vs H Q E → vs.length = ps.length
  run : ∀ (A : Around) (outer : List PySem.Env) (s : Shared) (H : Hp) (args : Args) (us : List Value) (vs : List V) (Q : VK) (E : XK), Room k A → A.guards = some [] → Env0 P w K mg base A outer s H →
    BindsTo s fd args (ps.zip us) → Vals vs us → sp vs H Q E → codeAny (model P w) A (.call (.ref f) args) (L2.CR (L2N.CX P w) outer P w H s Q E) s
theorem FnG.lift {P : Program} {w : World} {K : PySem.W.Frag} {mg : Str → Option Value} {base : Heap} {j k : Nat} {f : Addr} {fd : FuncData} {ps : List Str} {sp : Sp} (F : FnG P w K mg base j f fd ps sp) (h : j ≤ k) : FnG P w K mg base k f fd ps sp :=
  ⟨F.len, fun A outer s H args us vs Q E hr => F.run A outer s H args us vs Q E (hr.mono h)⟩

/-- a def, by its body -/
theorem fnG_of {P : Program} {w : World} {K : PySem.W.Frag} {mg : Str → Option Value} {base : Heap} {k : Nat} {x qual : Str} {st : Stmt} {f : Addr} {fd : FuncData} {N ps : List Str} {sp : Sp} (F : Fun K x qual st f fd) (S : FnScope N ps (defScope st))
    (len : ∀ vs H Q E, sp vs H Q E → vs.length = ps.length)
    (body : ∀ (cdv : Value) (A : Around) (outer : List PySem.Env) (s : Shared) (H : Hp) (vs : List V) (Q : VK) (E : XK), Room k (A.deeper (envOfC qual (defScope st) s.heap.objs.size f cdv)) → A.guards = some [] → sp vs H Q E →
      ∃ t, PSs (cxOf (L2N.CX P w) P w K mg base N qual (defScope st) f cdv A outer s H E) (defBody st) t ∧ t { nx := fun _ H' => Q .non H', rt := Q } (start N vs) H) :
    FnG P w K mg base (k + 1) f fd ps sp := by
  obtain ⟨oc, od, kV, doc, pm, an, cdv, ct, osl, rfl, lk, hcd⟩ := F.ex
  constructor
  · exact len
  intro A outer s H args us vs Q E hr hg e0 hb r hsp
  have KX : K.In s.heap := e0.mod.kin.keeps fun b o q => (e0.bs b o q).1
  have lim : s.heap.NoLimit := e0.mod.nolimit.keeps fun b o q => (e0.bs b o q).1
  refine codeAny_call_function hr.depth (KX _ _ lk) rfl S.co S.gen rfl (PySem.W.codeRec_of KX hcd) (hb _ _ _ _ (wpAny_newFunctionEnv_cells S.kind ?_ ?_))
  · rintro ⟨n, v⟩ hy
    rcases S.par n (List.of_mem_zip hy).1 with q | q
    · exact Or.inl q
    · exact Or.inr ⟨q, PySem.W.cellsFrom_some _ _ _ (Or.inl q)⟩
  · rintro env rfl s1 z
    obtain ⟨t, ht, hq⟩ := body cdv A outer s H vs Q E (hr.deeper _) hg hsp
    refine ⟨lim.keeps z.toInCall.keep, codeAny_func (wpAny_mono (ht.run [] s1 (start N vs) H _ (inv_start S hr.hd e0 (len _ _ _ _ hsp) r z) hq) ?_ fun _ _ q => q)⟩
    intro fl s' hs
    cases fl with
    | ret u => exact let ⟨v, _, H', J, rv, q⟩ := hs; ⟨v, H', J.os, J.bare, J.base, J.hok, rv, q⟩
    | next => exact let ⟨_, H', J, q⟩ := hs; ⟨.non, H', J.os, J.bare, J.base, J.hok, rfl, q⟩
    | brk => exact let ⟨_, _, _, q⟩ := hs; q.elim
    | cont => exact let ⟨_, _, _, q⟩ := hs; q.elim

section
variable {X : Cx} {W : WX} {k : Nat} {f : Addr} {fd : FuncData} {ps ks : List Str} {sp : Sp} {x : Str} {p pos : Pos} {e : Expr} {es : List Expr} {t : TA}
theorem run_G {pins : List (Addr × Obj)} {σ : L2.St} {H : Hp} {s : Shared} {Q : VK} {us ws : List Value} {kw : List (Str × Value)} {vs : List V} (F : FnG X.prog X.w X.K X.mg X.base k f fd ps sp) (hr : Room k X.A) (hg : X.A.guards = some []) (tk : L2N.Takes X W)
    (I : L2.Inv X pins σ H s) (hb : BindsTo s fd ⟨us, kw⟩ (ps.zip ws)) (r : Vals vs ws) (h : sp vs H Q (WE W σ)) : wpAny (model X.prog X.w) X.A (call (.ref f) us kw) (EP X pins σ Q) X.xe s := by
  refine wpAny_call (codeAny_mono (F.run X.A X.stack s H ⟨us, kw⟩ ws vs Q (WE W σ) hr hg I.env0 hb r h) ?_)
  rintro (e | fl) s' hq
  · exact L2N.passAt tk σ pins H s e s' I hq
  · cases fl with
    | ret u => exact I.after hq
    | next => exact hq.elim
    | brk => exact hq.elim
    | cont => exact hq.elim
theorem pe_G (F : FnG X.prog X.w X.K X.mg X.base k f fd ps sp) (hr : Room k X.A) (hg : X.A.guards = some []) (tk : L2N.Takes X W) (gl : Gl X x) (hm : X.mg x = some (.ref f)) (hk : PySem.W.keepIn X.K (.ref f) = true) (hb : Binds X.K fd ps [])
    (ha : PA X (e :: es) t) (hdb : (x == ("__debug__" : Str)) = false) (he : starEach (e :: es) X.env = (false, eval e X.env) :: starEach es X.env) (hpl : (backTo pos (starEach es X.env)).any (·.1) = false) :
    PE X (.Call (.Name x p) (e :: es) [] pos) (tCallS sp (WE W) t) := by
  constructor
  intro pins s σ H Q I h
  refine wpAny_Call_Name_kw (ld_glob I gl hm (PySem.W.callWith_K (h₀ := X.base) I.ok.mod.kin hk ?_ he hpl) hdb)
  refine thn (ha.run pos pins s σ H _ I h) ?_
  rintro us s1 ⟨vs, H1, I1, r, q⟩
  have hb' := hb s1 us I1.kIn (by rw [List.append_nil, ← r.length]; exact F.len _ _ _ _ q)
  rw [List.append_nil] at hb'
  exact ⟨I1.kIn, run_G F hr hg tk I1 hb' r q⟩
theorem pe_G0 (F : FnG X.prog X.w X.K X.mg X.base k f fd ps sp) (hr : Room k X.A) (hg : X.A.guards = some []) (tk : L2N.Takes X W) (gl : Gl X x) (hm : X.mg x = some (.ref f)) (hk : PySem.W.keepIn X.K (.ref f) = true) (hb : Binds X.K fd ps [])
    (hdb : (x == ("__debug__" : Str)) = false) : PE X (.Call (.Name x p) [] [] pos) (tCallS sp (WE W) tNil) := by
  constructor
  intro pins s σ H Q I h
  refine wpAny_Call_Name_kw (ld_glob I gl hm (PySem.W.callWith_K0 I.kIn hk ?_) hdb)
  have hb' := hb s [] I.kIn (F.len _ _ _ _ h)
  exact run_G (us := []) F hr hg tk I hb' .nil h
/-- how keywords bind: perm tells each parameter's place among them -/
def KwB (K : PySem.W.Frag) (fd : FuncData) (ps ks : List Str) (perm : List Nat) : Prop := ∀ (s : Shared) (ws us : List Value), K.In s.heap → ws.length = ks.length → perm.mapM (fun i => ws[i]?) = some us → BindsTo s fd ⟨[], ks.zip ws⟩ (ps.zip us)
theorem vals_perm : ∀ {perm : List Nat} {vs zs : List V} {ws : List Value}, Vals vs ws → perm.mapM (fun i => vs[i]?) = some zs → ∃ us, perm.mapM (fun i => ws[i]?) = some us ∧ Vals zs us
  | [], vs, zs, ws, r, h => by
    simp only [List.mapM_nil, Option.pure_def, Option.some.injEq] at h ⊢
    subst h
    exact ⟨[], rfl, .nil⟩
  | i :: perm, vs, zs, ws, r, h => by
    rw [List.mapM_cons] at h ⊢
    cases hi : vs[i]? with
    | none => rw [hi] at h; cases h
    | some v =>
      rw [hi] at h
      cases hp : perm.mapM (fun i => vs[i]?) with
      | none => rw [hp] at h; cases h
      | some zs' =>
        rw [hp] at h
        cases h
        obtain ⟨u, h1, h2⟩ := r.get hi
        obtain ⟨us, h3, h4⟩ := vals_perm r hp
        rw [h1, h3]
        exact ⟨u :: us, rfl, .cons h2 h4⟩
/-- f(a=.., b=..) -/
theorem pe_GK {kws : List Keyword} {perm : List Nat} (F : FnG X.prog X.w X.K X.mg X.base k f fd ps sp) (hr : Room k X.A) (hg : X.A.guards = some []) (tk : L2N.Takes X W) (gl : Gl X x) (hm : X.mg x = some (.ref f)) (hk : PySem.W.keepIn X.K (.ref f) = true) (hb : KwB X.K fd ps ks perm)
    (ha : PK X kws t) (hdb : (x == ("__debug__" : Str)) = false) (hall : (backToKw pos (keywordEach kws X.env)).all (·.1.isSome) = true) (hks : (backToKw pos (keywordEach kws X.env)).filterMap (·.1) = ks)
    (hpl : ((backTo pos (starEach [] X.env)).any (·.1) || (backToKw pos (keywordEach kws X.env)).any (·.1.isNone)) = false) (hlen : kws.length = ks.length) :
    PE X (.Call (.Name x p) [] kws pos) (fun σ H Q => t σ H fun vs H1 => vs.length = ks.length ∧ ∃ zs, perm.mapM (fun i => vs[i]?) = some zs ∧ sp zs H1 Q (WE W σ)) := by
  constructor
  intro pins s σ H Q I h
  refine wpAny_Call_Name_kw (ld_glob I gl hm (PySem.W.callWith_KW0 (h₀ := X.base) I.ok.mod.kin hk hall ?_ hpl) hdb)
  refine thn (ha.run pos pins s σ H _ I h) ?_
  rintro ws s1 ⟨vs, H1, I1, r, hl, zs, hz, q⟩
  rw [hks]
  obtain ⟨us, h1, h2⟩ := vals_perm r hz
  exact ⟨I1.kIn, run_G (us := []) F hr hg tk I1 (hb s1 ws us I1.kIn (by rw [← r.length]; exact hl) h1) h2 q⟩
end
end Ev


set_option Elab.async false
set_option linter.all false
set_option maxRecDepth 100000
set_option maxHeartbeats 2000000
namespace Ev
open PySem PySem.Spec PyProof.Rows L2

/-! ## what a def promises, by the evaluator -/
/-- what stays through a call: a0 is the list that was lent -/
def Stay (G H : Hp) (io : Option Addr) (G' H' : Hp) : Prop := ∀ b, H b ≠ none → G b = none → io ≠ some b → H' b = H b ∧ G' b = none
/-- what has become of the list that was lent -/
def Lent (K : PySem.W.Frag) (io : Option Addr) (d0 : Option D) (G' H' : Hp) : Prop := match io, d0 with
  | none, none => True
  | some a, some (.list ds) => G' a = none ∧ ∃ ys, H' a = some (.lst ys) ∧ RpAll K G' ys ds
  | _, _ => False
def EndC (K : PySem.W.Frag) (mg : Str → Option Value) (G H : Hp) (io : Option Addr) (r : Ev.CR) (Q : VK) (E : XK) : Prop := match r with
  | .ok d d0 => ∀ v G' H', Same G G' → Same G' H' → Stay G H io G' H' → Rp K G' v d → Lent K io d0 G' H' → Q v H'
  | .ow ds d0 => ∀ p xs G' H', Same G G' → Same G' H' → Stay G H io G' H' → H p = none → G' p = none → H' p = some (.lst xs) → RpAll K G' xs ds → Lent K io d0 G' H' → Q (.ref p) H'
  | .er c f d0 => ∀ cls dx G' H', Same G G' → Same G' H' → Stay G H io G' H' → ErrV ⟨K, mg, fun _ => False, H, io, fun _ _ => .bad, fun _ _ _ _ => False⟩ c f cls dx G' → Lent K io d0 G' H' → E cls dx H'
  | .bad => False
/-- the arguments -/
def ArgC (K : PySem.W.Frag) (G H : Hp) (io : Option Addr) (vs : List V) (ds : List D) : Prop := match io with
  | none => RpAll K G vs ds
  | some a => ∃ us xs es rs, vs = .ref a :: us ∧ ds = .list es :: rs ∧ H a = some (.lst xs) ∧ G a = none ∧ RpAll K G xs es ∧ RpAll K G us rs
def spD (K : PySem.W.Frag) (mg : Str → Option Value) (cal : Cal) (x : Str) (b : Bool) (n : Nat) : Sp := fun vs H Q E => ∃ G ds io, vs.length = n ∧ Same G H ∧ Option.isSome io = b ∧ ArgC K G H io vs ds ∧ EndC K mg G H io (cal x ds) Q E

section
variable {P : Pm} {G G' H H' : Hp} {σ : L2.St} {ρ : Ro}
/-- behind a call that was lent nothing -/
theorem fm_call (fm : P.Fm ρ G σ H) (s1 : Same G G') (s2 : Same G' H') (st : Stay G H none G' H') : P.Fm ρ G' σ H' where
  sub := s2
  len := fm.len
  un := fun i d h => let ⟨v, h1, h2⟩ := fm.un i d h; ⟨v, h1, h2.mono s1⟩
  ow := fun i d h => by
    obtain ⟨a, o, h1, h3, h4, h5, h6⟩ := fm.ow i d h
    obtain ⟨q1, q2⟩ := st a (by rw [h3]; exact fun z => nomatch z) h4 (fun z => nomatch z)
    exact ⟨a, o, h1, q1.trans h3, q2, h5, h6.mono s1⟩
  dis := fm.dis
  zg := fun b hb => by
    obtain ⟨h1, h2, h3⟩ := fm.zg b hb
    obtain ⟨q1, q2⟩ := st b (by rw [h2]; exact h3) h1 (fun z => nomatch z)
    exact ⟨q2, q1.trans h2, h3⟩
  at0 := fm.at0
/-- behind a call that was lent slot i's list -/
theorem fm_lent {i : Nat} {d : D} {a : Addr} {es : List D} {ys : List V} (fm : P.Fm ρ G σ H) (hi : ρ[i]? = some (some (d, true))) (ha : σ[i]? = some (some (.ref a))) (s1 : Same G G') (s2 : Same G' H') (st : Stay G H (some a) G' H')
    (g : G' a = none) (h : H' a = some (.lst ys)) (r : RpAll P.K G' ys es) : P.Fm (ρ.set i (some (.list es, true))) G' σ H' := by
  have il : i < ρ.length := (List.getElem?_eq_some_iff.mp hi).1
  have za : ¬ P.Z a := by
    obtain ⟨a', o, h1, _, _, h5, _⟩ := fm.ow i d hi
    rw [ha] at h1
    cases h1
    exact h5
  refine ⟨s2, by rw [List.length_set]; exact fm.len, fun j e hj => ?_, fun j e hj => ?_, fun j k d' e b hj hk h1 h2 => ?_, fun b hb => ?_, fm.at0⟩
  · by_cases hij : i = j
    · subst hij
      rw [List.getElem?_set_self il] at hj
      cases hj
    · rw [List.getElem?_set_ne hij] at hj
      obtain ⟨v, q1, q2⟩ := fm.un j e hj
      exact ⟨v, q1, q2.mono s1⟩
  · by_cases hij : i = j
    · subst hij
      rw [List.getElem?_set_self il] at hj
      cases hj
      exact ⟨a, .lst ys, ha, h, g, za, r⟩
    · rw [List.getElem?_set_ne hij] at hj
      obtain ⟨b, o, q1, q3, q4, q5, q6⟩ := fm.ow j e hj
      have ne : b ≠ a := fun z => hij (fm.dis i j _ _ a hi hj ha (by rw [← z]; exact q1))
      obtain ⟨w1, w2⟩ := st b (by rw [q3]; exact fun z => nomatch z) q4 (fun z => ne (Option.some.inj z).symm)
      exact ⟨b, o, q1, w1.trans q3, w2, q5, q6.mono s1⟩
  · have own : ∀ j d, (ρ.set i (some (PyData.list es, true)))[j]? = some (some (d, true)) → ∃ d', ρ[j]? = some (some (d', true)) := fun j d hj => by
      by_cases hij : i = j
      · subst hij
        exact ⟨_, hi⟩
      · rw [List.getElem?_set_ne hij] at hj
        exact ⟨_, hj⟩
    obtain ⟨_, w1⟩ := own _ _ hj
    obtain ⟨_, w2⟩ := own _ _ hk
    exact fm.dis j k _ _ b w1 w2 h1 h2
  · obtain ⟨q1, q2, q3⟩ := fm.zg b hb
    have ne : b ≠ a := fun z => za (by rw [← z]; exact hb)
    obtain ⟨w1, w2⟩ := st b (by rw [q2]; exact q3) q1 (fun z => ne (Option.some.inj z).symm)
    exact ⟨w2, w1.trans q2, q3⟩
end

section
variable {P : Pm} {X : Cx} {a b c e : Expr} {ca cb cc ce : CE} {cs : List CE} {pos : Pos}
/-! ## slices -/
theorem cut_rp {K : PySem.W.Frag} {G : Hp} {xs : List V} {ds : List D} {lo hi : Option Int} (h : RpAll K G xs ds) : RpAll K G (cutV xs lo hi) (cutD ds lo hi) := by
  unfold cutV cutD
  rw [h.length]
  exact (h.drop _).take _
theorem sl_D {K : PySem.W.Frag} (hK : X.K = K) : SlR X (fun x lo hi H Q => ∃ G dx d, Same G H ∧ Rp K G x dx ∧ slcD dx lo hi = some d ∧ Giv K G H d Q) := by
  subst hK
  rintro pins s σ H x v vl vu lo hi sl Q I rx hs pl pu ⟨G, dx, d, sg, hx, e, g⟩
  cases hx with
  | @lst a xs ds h1 h2 =>
    cases e
    exact sl_list pins s σ H _ v vl vu lo hi sl Q I rx hs pl pu ⟨a, xs, rfl, (Same.ls sg h1).seq, g.lst sg (cut_rp h2)⟩
  | @tup a xs ds h1 h2 =>
    have e' : (if HT.sIx ds.length 0 lo = 0 ∧ HT.sIx ds.length ds.length hi = ds.length then none else some (PyData.tuple (cutD ds lo hi))) = some d := e
    split at e'
    · cases e'
    · rename_i hc
      cases e'
      exact sl_tup pins s σ H _ v vl vu lo hi sl Q I rx hs pl pu ⟨a, xs, rfl, Same.seqT sg h1, by rw [h2.length]; exact hc, g.tup sg (cut_rp h2)⟩
  | str z =>
    have e' : (if z.length ≤ lim then some (PyData.str (cutS z lo hi)) else none) = some d := e
    split at e'
    · rename_i hl
      cases e'
      exact sl_str pins s σ H _ v vl vu lo hi sl Q I rx hs pl pu ⟨z, rfl, lim_le hl, g.str sg⟩
    · cases e'
  | _ => cases e
theorem to_none : PO X none (TOp P none) := ⟨fun pins s σ H Q I ⟨ρ, G, fm, h⟩ => po_none.run pins s σ H Q I (h.ret fm rfl)⟩
theorem to_some (h : PE X e (T P ce)) : PO X (some e) (TOp P (some ce)) := ⟨fun pins s σ H Q I ⟨ρ, G, fm, hq⟩ => (po_some h).run pins s σ H Q I ⟨ρ, G, fm, by
  simp only [evO] at hq
  refine Out.bind hq fun d ρ1 v G1 H1 s1 fm1 r1 h1 => ?_
  cases r1 with
  | int i => exact ⟨i, rfl, h1.ret fm1 rfl⟩
  | _ => exact h1.elim⟩⟩
theorem t_slc (hK : X.K = P.K) {lo hi : Option Expr} {cl ch : Option CE} {p2 : Pos} (ha : PE X a (T P ca)) (hl : PO X lo (TOp P cl)) (hh : PO X hi (TOp P ch)) : PE X (.Subscript a (.Slice lo hi none p2) pos) (T P (.slc ca cl ch)) := by
  refine PEw (pe_slice (sl_D hK) ha hl hh) fun σ H Q ⟨ρ, G, fm, h⟩ => ⟨ρ, G, fm, ?_⟩
  simp only [ev] at h
  refine Out.bind h fun x ρ1 v G1 H1 s1 fm1 r1 h1 => ⟨ρ1, G1, fm1, ?_⟩
  refine Out.bind h1 fun l ρ2 l' G2 H2 s2 fm2 r2 h2 => ⟨ρ2, G2, fm2, ?_⟩
  refine Out.bind h2 fun u ρ3 u' G3 H3 s3 fm3 r3 h3 => ?_
  obtain ⟨d, e1, g⟩ := h3.giveO fm3
  have r2' : l' = l := r2
  have r3' : u' = u := r3
  subst r2' r3'
  exact ⟨G3, x, d, fm3.sub, (r1.mono s2).mono s3, e1, g⟩
theorem vals_pick {xs : List V} {us : List Value} (r : Vals xs us) : ∀ is : List Nat, Vals (is.filterMap (xs[·]?)) (is.filterMap (us[·]?))
  | [] => .nil
  | i :: is => by
    have ih := vals_pick r is
    have hl := r.length
    rw [List.filterMap_cons, List.filterMap_cons]
    cases q : xs[i]? with
    | none =>
      rw [List.getElem?_eq_none (by have := List.getElem?_eq_none_iff.mp q; omega)]
      exact ih
    | some x =>
      obtain ⟨u, e, ru⟩ := r.get q
      rw [e]
      exact .cons ru ih
theorem rp_pick {K : PySem.W.Frag} {G : Hp} {xs : List V} {ds : List D} (r : RpAll K G xs ds) : ∀ is : List Nat, RpAll K G (is.filterMap (xs[·]?)) (is.filterMap (ds[·]?))
  | [] => .nil
  | i :: is => by
    have ih := rp_pick r is
    have hl := r.length
    rw [List.filterMap_cons, List.filterMap_cons]
    cases q : xs[i]? with
    | none =>
      rw [List.getElem?_eq_none (by have := List.getElem?_eq_none_iff.mp q; omega)]
      exact ih
    | some x =>
      obtain ⟨u, e, ru⟩ := r.getV q
      rw [e]
      exact .cons ru ih
theorem stp_rp {K : PySem.W.Frag} {G : Hp} {xs : List V} {ds : List D} {lo hi : Option Int} {k : Int} (r : RpAll K G xs ds) : RpAll K G (stpL xs lo hi k) (stpL ds lo hi k) := by
  unfold stpL
  rw [r.length]
  exact rp_pick r _
/-- xs[lo:hi:k] -/
def tSls (K : PySem.W.Frag) (ta : TE) (tl th ts : TO) : TE := fun σ H Q => ta σ H fun x H1 => tl σ H1 fun lo H2 => th σ H2 fun hi H3 => ts σ H3 fun st H4 => ∃ a xs k, x = .ref a ∧ st = some k ∧ k ≠ 0 ∧ SqL K H4 a xs ∧ (stpL xs lo hi k).length ≤ sizeLine ∧
  ∀ p, H4 p = none → Q (.ref p) (upd H4 p (.lst (stpL xs lo hi k)))
theorem pe_sls {lo hi : Option Expr} {st : Expr} {p2 : Pos} {ta : TE} {tl th ts : TO} (ha : PE X a ta) (hl : PO X lo tl) (hh : PO X hi th) (hs : PO X (some st) ts) : PE X (.Subscript a (.Slice lo hi (some st) p2) pos) (tSls X.K ta tl th ts) := by
  refine ⟨fun pins s σ H Q I q0 => ?_⟩
  refine Subscript_ (thn (ha.run pins s σ H _ I q0) fun v s1 ⟨x, H1, I1, r1, q1⟩ => ?_)
  refine wpAny_Slice (thn (hl.run pins s1 σ H1 _ I1 q1) fun vl s2 ⟨l, H2, I2, pl, q2⟩ => thn (hh.run pins s2 σ H2 _ I2 q2) fun vu s3 ⟨u, H3, I3, pu, q3⟩ => thn (hs.run pins s3 σ H3 _ I3 q3) fun vk s4 ⟨o, H4, I4, pk, q4⟩ => ?_)
  obtain ⟨b, xs, k, rfl, rfl, k0, hx, hz, q⟩ := q4
  cases r1
  have I5 : Inv X pins σ H4 { s4 with heap := s4.heap.push { cls := .type "slice", data := .fields #[vl, vu, vk] } } := I4.kept (t' := s4.toks) fun c ob w => Heap.get?_push_of_some _ w
  obtain ⟨its, r, ht, hz'⟩ := I5.list hx
  have hlen := r.length
  show wpAny (model X.prog X.w) X.A (subscriptTail a (.Slice lo hi (some st) p2) (.ref b) (.ref s4.heap.objs.size)) (EP X pins σ Q) X.xe { s4 with heap := s4.heap.push { cls := .type "slice", data := .fields #[vl, vu, vk] } }
  refine tail_any (ops := [.ref b, .ref s4.heap.objs.size]) ht.isList.typeIs (PySem.slot_list_getitem.lookup) ?_ (by with_unfolding_all rfl)
  refine wpAny_getItem_list_slice ht.isList (Heap.IsSliceOf.new _ vl vu vk) pl pu pk (fun z => k0 (Option.some.inj z)) ?_ (by rw [List.size_toArray]; omega)
  have e : slicePick its.toArray l u (some k) = (stpL its l u k).toArray := by
    unfold slicePick stpL
    rw [List.size_toArray]
    simp
  rw [e]
  refine ⟨.ref _, _, I5.laid (t' := s4.toks) (o := .lst (stpL xs l u k)) (fun c ob w => Heap.get?_push_of_some _ w) (Nat.le_refl _) ?_, rfl, q _ (I5.hok.fresh (Nat.le_refl _))⟩
  refine ⟨hz, _, 0, ?_, Heap.get?_push_size _ rfl⟩
  unfold stpL
  rw [r.length]
  exact vals_pick r _
theorem t_sls (hK : X.K = P.K) {lo hi : Option Expr} {cl ch : Option CE} {st : Expr} {cst : CE} {p2 : Pos} (ha : PE X a (T P ca)) (hl : PO X lo (TOp P cl)) (hh : PO X hi (TOp P ch)) (hs : PE X st (T P cst)) : PE X (.Subscript a (.Slice lo hi (some st) p2) pos) (T P (.sls ca cl ch cst)) := by
  refine PEw (pe_sls ha hl hh (to_some hs)) fun σ H Q ⟨ρ, G, fm, h⟩ => ⟨ρ, G, fm, ?_⟩
  simp only [ev] at h
  refine Out.bind h fun x ρ1 v G1 H1 s1 fm1 r1 h1 => ⟨ρ1, G1, fm1, ?_⟩
  refine Out.bind h1 fun l ρ2 l' G2 H2 s2 fm2 r2 h2 => ⟨ρ2, G2, fm2, ?_⟩
  refine Out.bind h2 fun u ρ3 u' G3 H3 s3 fm3 r3 h3 => ⟨ρ3, G3, fm3, ?_⟩
  simp only [evO]
  cases hq : ev P.cal P.b0 cst ρ3 with
  | bad => rw [hq] at h3; exact h3.elim
  | er c f ρ4 => rw [hq] at h3; exact h3
  | ok y ρ4 =>
    rw [hq] at h3
    simp only [Rs.bind_ok] at h3 ⊢
    have r2' : l' = l := r2
    have r3' : u' = u := r3
    subst r2' r3'
    cases x with
    | list ds =>
      cases y with
      | int k =>
        intro o G4 H4 s4 fm4 ro
        have ro' : o = some k := ro
        subst ro'
        have h4 := Out.mono s4 h3
        obtain ⟨d, e1, g⟩ := Out.giveO h4 fm4
        have e' : (if k ≠ 0 ∧ (stpL ds l' u' k).length ≤ lim then some (PyData.list (stpL ds l' u' k)) else none) = some d := e1
        split at e'
        · rename_i hc
          cases e'
          have r5 := ((r1.mono s2).mono s3).mono s4
          cases r5 with
          | @lst b xs _ p1 p2 =>
            have rr := stp_rp (lo := l') (hi := u') (k := k) p2
            exact ⟨b, xs, k, rfl, rfl, hc.1, hK ▸ (Same.ls fm4.sub p1).seq, by rw [rr.length]; exact lim_le hc.2, g.lst fm4.sub rr⟩
        · cases e'
      | _ => exact h3.elim
    | _ => cases y <;> exact h3.elim
theorem t_rev (hK : X.K = P.K) {k : Nat} {p1 p2 p3 : Pos} (ha : PE X a (T P ca)) : PE X (.Subscript a (.Slice none none (some (.UnaryOp .USub (.Constant (.int 1) k p1) p2)) p3) pos) (T P (.rev ca)) := by
  refine PEw (pe_revL ha) fun σ H Q ⟨ρ, G, fm, h⟩ => ⟨ρ, G, fm, ?_⟩
  simp only [ev] at h
  refine Out.bind h fun x ρ1 v G1 H1 s1 fm1 r1 h1 => ?_
  obtain ⟨d, e1, g⟩ := h1.giveO fm1
  rw [hK]
  cases r1 with
  | @lst a xs ds q1 q2 =>
    cases e1
    exact ⟨a, xs, rfl, (Same.ls fm1.sub q1).seq, g.lst fm1.sub q2.reverse⟩
  | _ => cases e1
/-! ## list(range(..)) -/
theorem rg_rp {K : PySem.W.Frag} {G : Hp} (a b : Int) : RpAll K G (rgV a b) (rngL a b) := by
  unfold rgV rngL
  generalize (b - a).toNat = n
  have : ∀ l : List Nat, RpAll K G (l.map fun i => V.int (a + (i : Nat))) (l.map fun (k : Nat) => PyData.int (a + k)) := fun l => by
    induction l with
    | nil => exact .nil
    | cons x l ih => exact .cons (.int _) ih
  exact this _
theorem lrD_some {x y d : D} (h : lrD x y = some d) : ∃ a b, x = .int a ∧ y = .int b ∧ RgOk a b ∧ d = .list (rngL a b) := by
  cases x with
  | int a =>
    cases y with
    | int b =>
      have h' : (if (-(2 ^ 62) ≤ a ∧ a < 2 ^ 62) ∧ (-(2 ^ 62) ≤ b ∧ b < 2 ^ 62) ∧ (b - a).toNat ≤ lim then some (PyData.list (rngL a b)) else none) = some d := h
      split at h'
      · rename_i q
        cases h'
        exact ⟨a, b, rfl, rfl, ⟨q.1.1, q.1.2, q.2.1.1, q.2.1.2, Nat.le_trans q.2.2 (by decide)⟩, rfl⟩
      · cases h'
    | _ => cases h
  | _ => cases h
theorem t_lr1 {p p2 pos2 : Pos} (hc : X.calm = true) (gl : Gl X "list") (hm : X.mg "list" = none) (gr : Gl X "range") (hmr : X.mg "range" = none) (ha : PE X a (T P ca)) (sa : starEach [a] X.env = (false, eval a X.env) :: starEach [] X.env) :
    PE X (.Call (.Name "list" p) [.Call (.Name "range" p2) [a] [] pos2] [] pos) (T P (.lr1 ca)) := by
  refine PEw (pe_listRg hc gl hm (prg_1 gr hmr ha sa)) fun σ H Q ⟨ρ, G, fm, h⟩ => ⟨ρ, G, fm, ?_⟩
  simp only [ev] at h
  refine Out.bind h fun x ρ1 v G1 H1 s1 fm1 r1 h1 => ?_
  obtain ⟨d, e1, g⟩ := h1.giveO fm1
  obtain ⟨i, j, e2, rfl, ok, rfl⟩ := lrD_some e1
  cases e2
  cases r1
  exact ⟨j, rfl, ok, g.lst fm1.sub (rg_rp 0 j)⟩
theorem t_lr2 {p p2 pos2 : Pos} (hc : X.calm = true) (gl : Gl X "list") (hm : X.mg "list" = none) (gr : Gl X "range") (hmr : X.mg "range" = none) (ha : PE X a (T P ca)) (hb : PE X b (T P cb)) (sa : starEach [a, b] X.env = (false, eval a X.env) :: starEach [b] X.env) (sb : starEach [b] X.env = (false, eval b X.env) :: starEach [] X.env)
    (sp : (backTo pos2 (starEach [b] X.env)).any (·.1) = false) : PE X (.Call (.Name "list" p) [.Call (.Name "range" p2) [a, b] [] pos2] [] pos) (T P (.lr2 ca cb)) := by
  refine PEw (pe_listRg hc gl hm (prg_2 gr hmr ha hb sa sb sp)) fun σ H Q ⟨ρ, G, fm, h⟩ => ⟨ρ, G, fm, ?_⟩
  simp only [ev] at h
  refine Out.bind h fun x ρ1 v G1 H1 s1 fm1 r1 h1 => ⟨ρ1, G1, fm1, ?_⟩
  refine Out.bind h1 fun y ρ2 w G2 H2 s2 fm2 r2 h2 => ?_
  obtain ⟨d, e1, g⟩ := h2.giveO fm2
  obtain ⟨i, j, rfl, rfl, ok, rfl⟩ := lrD_some e1
  cases r1
  cases r2
  exact ⟨i, j, rfl, rfl, ok, g.lst fm2.sub (rg_rp i j)⟩
/-! ## built-ins, methods -/
theorem t_args {r : List V → Hp → VK → Prop} {f : List D → Option D} (hr : ∀ {G H : Hp} {xs : List V} {ds : List D} {d : D} {Q : VK}, Same G H → RpAll P.K G xs ds → f ds = some d → Giv P.K G H d Q → r xs H Q) {σ : L2.St} {H : Hp} {Q : VK}
    (h : ∃ ρ G, P.Fm ρ G σ H ∧ Out P (fun G v d => Rp P.K G v d) G σ ((evA P.cal P.b0 cs ρ).bind fun ds ρ1 => ofO (f ds) ρ1) Q) : tCB r (TAs P cs) σ H Q := by
  obtain ⟨ρ, G, fm, h⟩ := h
  refine ⟨ρ, G, fm, Out.bind h fun ds ρ1 vs G1 H1 s1 fm1 r1 h1 => ?_⟩
  obtain ⟨d, e1, g⟩ := h1.giveO fm1
  exact hr fm1.sub r1 e1 g
theorem t_bltB {f : Bi} {id : String} {x : Str} {p : Pos} {es : List Expr} (hK : X.K = P.K) (hc : CallR X (.builtin id) (rDs X.K (bltD f))) (gl : Gl X x) (hm : X.mg x = none) (hv : bootBuiltins x = some (.builtin id)) (ha : PA X (e :: es) (TAs P cs)) (hn : x ≠ "__name__")
    (hd : (x == ("__debug__" : Str)) = false) (he : starEach (e :: es) X.env = (false, eval e X.env) :: starEach es X.env) (hpl : (backTo pos (starEach es X.env)).any (·.1) = false) : PE X (.Call (.Name x p) (e :: es) [] pos) (T P (.blt f cs)) := by
  refine PEw (pe_callB hc gl hm hv ha hn hd he hpl) fun σ H Q h => t_args (fun sg r e g => ?_) (by simpa only [T, ev] using h)
  rw [hK]
  exact ⟨_, _, _, sg, r, e, g⟩
theorem t_bltT {f : Bi} {id : String} {x : Str} {p : Pos} {es : List Expr} (hK : X.K = P.K) (hc : CallR X (.type id) (rDs X.K (bltD f))) (gl : Gl X x) (hm : X.mg x = none) (hv : bootBuiltins x = some (.type id)) (ha : PA X (e :: es) (TAs P cs)) (hn : x ≠ "__name__")
    (hd : (x == ("__debug__" : Str)) = false) (he : starEach (e :: es) X.env = (false, eval e X.env) :: starEach es X.env) (hpl : (backTo pos (starEach es X.env)).any (·.1) = false) : PE X (.Call (.Name x p) (e :: es) [] pos) (T P (.blt f cs)) := by
  refine PEw (pe_callTy hc gl hm hv ha hn hd he hpl) fun σ H Q h => t_args (fun sg r e g => ?_) (by simpa only [T, ev] using h)
  rw [hK]
  exact ⟨_, _, _, sg, r, e, g⟩
theorem repr_str {d e : D} (h : bltD .repr [d] = some e) : ∃ z, e = .str z := by
  have h' : reprD [d] = some e := h
  unfold reprD at h'
  split at h'
  · cases h'; exact ⟨_, rfl⟩
  · split at h'
    · cases h'; exact ⟨_, rfl⟩
    · cases h'
  · cases h'
/-- repr of a name's value, which stays as it is -/
theorem t_rpo (i : Nat) {x y : Str} {p p2 : Pos} (hK : X.K = P.K) (hc : CallR X (.builtin "repr") (rDs X.K (bltD .repr))) (gl : Gl X x) (hm : X.mg x = none) (hv : bootBuiltins x = some (.builtin "repr")) (hN : X.N[i]? = some y) (hvy : Vis X.env.scope y) (hdy : (y == ("__debug__" : Str)) = false) (hcd : (y == ("__classdict__" : Str)) = false) (hn : x ≠ "__name__")
    (hd : (x == ("__debug__" : Str)) = false) (he : starEach [.Name y p2] X.env = (false, eval (.Name y p2) X.env) :: starEach [] X.env) : PE X (.Call (.Name x p) [.Name y p2] [] pos) (T P (.rpo i)) := by
  refine PEw (pe_callB hc gl hm hv (pa_cons (pe_var hN hvy hdy hcd) pa_nil he) hn hd he (by rfl)) fun σ H Q ⟨ρ, G, fm, h⟩ => ?_
  simp only [ev] at h
  cases hr : ρ[i]? with
  | none => rw [hr] at h; exact h.elim
  | some o =>
  match o, hr, h with
  | none, hr, h => rw [hr] at h; exact h.elim
  | some (d, w), hr, h =>
    rw [hr] at h
    dsimp only at h
    cases hb : bltD .repr [d] with
    | none => rw [hb] at h; exact h.elim
    | some e =>
      rw [hb] at h
      obtain ⟨z, rfl⟩ := repr_str hb
      obtain ⟨v, q1, q2⟩ := neq_data i hK fm hr
      refine ⟨v, q1, H, [d], .str z, Same.refl H, .cons (q2 (Same.refl G) fm) .nil, hb, fun u G' H' e r => ?_⟩
      cases r
      exact h _ G H' (Same.refl G) (fm.ext ⟨Same.refl G, fun b x q => by rw [e.hold b (fun z => by rw [fm.sub b x q] at z; cases z)]; exact fm.sub b x q, e.hold, fun _ _ => rfl⟩) (.str _)
theorem t_isi {x y : Str} {p p2 : Pos} {id : String} (hK : X.K = P.K) (gl : Gl X x) (hm : X.mg x = none) (hv : bootBuiltins x = some (.builtin "isinstance")) (gy : Gl X y) (hy : X.mg y = none) (hw : bootBuiltins y = some (.type id)) (ha : PE X a (T P ca))
    (hn : x ≠ "__name__") (hd : (x == ("__debug__" : Str)) = false) (hn2 : y ≠ "__name__") (hd2 : (y == ("__debug__" : Str)) = false) (hst : starEach [a, .Name y p2] X.env = (false, eval a X.env) :: starEach [.Name y p2] X.env) :
    PE X (.Call (.Name x p) [a, .Name y p2] [] pos) (T P (.isi ca id)) := by
  refine PEw (pe_callB (cb_isi (c := id)) gl hm hv (pa_cons ha (pa_cons (pe_bltn (v := .ty id) gy hy hw rfl hn2 hd2) pa_nil) hst) hn hd hst (by rfl)) fun σ H Q ⟨ρ, G, fm, h⟩ => ⟨ρ, G, fm, ?_⟩
  simp only [ev] at h
  refine Out.bind h fun x ρ1 v G1 H1 s1 fm1 r1 h1 => ?_
  obtain ⟨d, e1, g⟩ := h1.giveO fm1
  rw [hK]
  cases hq : isiD x id with
  | none => rw [hq] at e1; cases e1
  | some k =>
    rw [hq] at e1
    cases e1
    exact ⟨G1, v, x, k, rfl, fm1.sub, r1, hq, g⟩
def rM (K : PySem.W.Frag) (f : D → List D → Option D) : V → List V → Hp → VK → Prop := fun x xs H Q => ∃ G dx ds d, Same G H ∧ Rp K G x dx ∧ RpAll K G xs ds ∧ f dx ds = some d ∧ Giv K G H d Q
theorem mt_joinD : MtR X "str.join" (rM X.K joinD) := by
  rintro pins s σ H x xs v us Q I rx rv ⟨G, dx, ds, d, sg, hx, hr, e, g⟩
  unfold joinD at e
  split at e
  · rename_i z zs
    obtain ⟨w, rfl, h⟩ := one_arg hr rfl
    cases hx
    cases h with
    | @lst p ys _ h1 h2 =>
      cases hq : strsOf zs with
      | none => rw [hq] at e; cases e
      | some is =>
        rw [hq] at e
        simp only [Option.bind_some] at e
        split at e
        · rename_i hl
          cases e
          have := strs_of h2 hq
          subst this
          exact mt_join pins s σ H _ _ v us Q I rx rv ⟨_, p, is, rfl, rfl, .inl ((Same.ls sg h1).seq), lim_le16 hl, g.str sg⟩
        · cases e
  · cases e
theorem mt_zfillD : MtR X "str.zfill" (rM X.K zfillD) := by
  rintro pins s σ H x xs v us Q I rx rv ⟨G, dx, ds, d, sg, hx, hr, e, g⟩
  unfold zfillD at e
  split at e
  · obtain ⟨w, rfl, h⟩ := one_arg hr rfl
    cases hx
    cases h
    split at e
    · rename_i hp
      cases e
      exact mt_zfill pins s σ H _ _ v us Q I rx rv ⟨_, _, rfl, rfl, hp, g.str sg⟩
    · cases e
  · cases e
theorem mt_indexA (hu : X.A.units + 100 < cLine) : MtR X "list.index" (rM X.K indexD) := by
  rintro pins s σ H x xs v us Q I rx rv ⟨G, dx, ds, d, sg, hx, hr, e, g⟩
  unfold indexD at e
  split at e
  · rename_i zs d0
    obtain ⟨w, rfl, h⟩ := one_arg hr rfl
    split at e
    · rename_i hs
      rw [Bool.and_eq_true] at hs
      cases hx with
      | @lst p ys _ h1 h2 =>
        cases hq : zs.findIdx? (fun z => PyData.eqv z d0) with
        | none => rw [hq] at e; cases e
        | some j =>
          rw [hq] at e
          cases e
          obtain ⟨hj, hb, hbef⟩ := List.findIdx?_eq_some_iff_getElem.mp hq
          refine mt_indexD (by omega) pins s σ H _ _ v us Q I rx rv ⟨p, w, d0, zs, j, zs[j], rfl, rfl, Rp.dp (.lst (Same.ls sg h1) (h2.mono sg)) (shaped_lay hs.1), (h.mono sg).dp (shaped_lay hs.2), hs.1, hs.2, List.getElem?_eq_getElem hj, hb, fun m z' hm hz => ?_, g.int sg⟩
          obtain ⟨hm', hz'⟩ := List.getElem?_eq_some_iff.mp hz
          have := hbef m hm
          rw [hz'] at this
          simpa using this
    · cases e
  · cases e
end
end Ev


set_option Elab.async false
set_option linter.all false
set_option maxRecDepth 100000
set_option maxHeartbeats 2000000
namespace Ev
open PySem PySem.Spec PyProof.Rows L2
section
variable {P : Pm} {X : Cx} {a b c e o : Expr} {ca cb cc ce co : CE} {cs : List CE} {pos : Pos}
theorem t_mthS {m : Mi} {name : Str} {id : String} {es : List Expr} {apos cpos : Pos} (hK : X.K = P.K) (hm' : ∀ x, recv m x = true → ∃ z, x = PyData.str z) (slot : Slot "str" name id) (hty : typeOf (.builtin id) = pure (.type "method_descriptor")) (hm : MtR X id (rM X.K (mthD m)))
    (ho : PE X o (T P co)) (ha : PA X (e :: es) (TAs P cs)) (h1 : attributeBase o name X.env (eval o X.env) = eval o X.env) (h2 : ((backTo cpos (starEach (e :: es) X.env)).all (fun x => !x.1) && (backToKw cpos (keywordEach [] X.env)).all (fun x => x.1.isSome) && decide ((e :: es).length + ([] : List Keyword).length + (if ([] : List Keyword).isEmpty then 0 else 1) < 30)) = true)
    (h3 : (apos.endLine == cpos.line) = true) (h4 : starEach (e :: es) X.env = (false, eval e X.env) :: starEach es X.env) (h5 : (backTo cpos (starEach es X.env)).any (·.1) = false) : PE X (.Call (.Attribute o name apos) (e :: es) [] cpos) (T P (.mth m co cs)) := by
  refine PEw (pe_bm PySem.F.plainAttrs_str slot hty hm ho ha h1 h2 h3 h4 h5) fun σ H Q ⟨ρ, G, fm, h⟩ => ⟨ρ, G, fm, ?_⟩
  simp only [ev] at h
  refine Out.bind h fun x ρ1 v G1 H1 s1 fm1 r1 q1 => ?_
  split at q1
  · rename_i hr
    obtain ⟨z, rfl⟩ := hm' x hr
    cases r1
    refine ⟨rfl, ρ1, G1, fm1, Out.bind q1 fun ds ρ2 vs G2 H2 s2 fm2 r2 q2 => ?_⟩
    obtain ⟨d, e1, g⟩ := q2.giveO fm2
    rw [hK]
    exact ⟨G2, _, ds, d, fm2.sub, .str z, r2, e1, g⟩
  · exact q1.elim
theorem t_mthL {m : Mi} {name : Str} {id : String} {es : List Expr} {apos cpos : Pos} (hK : X.K = P.K) (hm' : ∀ x, recv m x = true → ∃ z, x = PyData.list z) (slot : Slot "list" name id) (hty : typeOf (.builtin id) = pure (.type "method_descriptor")) (hm : MtR X id (rM X.K (mthD m)))
    (ho : PE X o (T P co)) (ha : PA X (e :: es) (TAs P cs)) (h1 : attributeBase o name X.env (eval o X.env) = eval o X.env) (h2 : ((backTo cpos (starEach (e :: es) X.env)).all (fun x => !x.1) && (backToKw cpos (keywordEach [] X.env)).all (fun x => x.1.isSome) && decide ((e :: es).length + ([] : List Keyword).length + (if ([] : List Keyword).isEmpty then 0 else 1) < 30)) = true)
    (h3 : (apos.endLine == cpos.line) = true) (h4 : starEach (e :: es) X.env = (false, eval e X.env) :: starEach es X.env) (h5 : (backTo cpos (starEach es X.env)).any (·.1) = false) : PE X (.Call (.Attribute o name apos) (e :: es) [] cpos) (T P (.mth m co cs)) := by
  refine PEw (pe_bm PySem.F.plainAttrs_list slot hty hm ho ha h1 h2 h3 h4 h5) fun σ H Q ⟨ρ, G, fm, h⟩ => ⟨ρ, G, fm, ?_⟩
  simp only [ev] at h
  refine Out.bind h fun x ρ1 v G1 H1 s1 fm1 r1 q1 => ?_
  split at q1
  · rename_i hr
    obtain ⟨z, rfl⟩ := hm' x hr
    cases r1 with
    | @lst p xs _ p1 p2 =>
    refine ⟨.inl ⟨rfl, xs, by rw [hK]; exact (Same.ls fm1.sub p1).seq⟩, ρ1, G1, fm1, Out.bind q1 fun ds ρ2 vs G2 H2 s2 fm2 r2 q2 => ?_⟩
    obtain ⟨d, e1, g⟩ := q2.giveO fm2
    rw [hK]
    exact ⟨G2, _, ds, d, fm2.sub, .lst (Same.ls s2 p1) (p2.mono s2), r2, e1, g⟩
  · exact q1.elim
theorem errv_of {G : Hp} {c : Str} {f : Option (Str × D)} {cls : Value} {dx : Option Addr} {H : Hp} (h : ErrV ⟨P.K, P.mg, fun _ => False, H, none, fun _ _ => .bad, fun _ _ _ _ => False⟩ c f cls dx G) : ErrV P c f cls dx G := h
/-- a list that nobody holds comes to G -/
theorem fm_put {G H : Hp} {σ : L2.St} {ρ : Ro} {p : Addr} {xs : List V} (fm : P.Fm ρ G σ H) (hp : H p = some (.lst xs)) (gp : G p = none) (zp : ¬ P.Z p) (np : ∀ (i : Nat) (d : D), ρ[i]? = some (some (d, true)) → σ[i]? ≠ some (some (.ref p))) : P.Fm ρ (upd G p (.lst xs)) σ H := by
  have sn : Same G (upd G p (.lst xs)) := same_new gp
  refine ⟨fun b o e => ?_, fm.len, fun i d hi => ?_, fun i d hi => ?_, fm.dis, fun b hb => ?_, fm.at0⟩
  · by_cases hb : b = p
    · subst hb
      rw [upd_same] at e
      rw [← e]
      exact hp
    · rw [upd_ne hb] at e
      exact fm.sub _ _ e
  · obtain ⟨v, q1, q2⟩ := fm.un i d hi
    exact ⟨v, q1, q2.mono sn⟩
  · obtain ⟨a, o, q1, q3, q4, q5, q6⟩ := fm.ow i d hi
    have ne : a ≠ p := fun z => np i d hi (by rw [← z]; exact q1)
    exact ⟨a, o, q1, q3, by rw [upd_ne ne]; exact q4, q5, q6.mono sn⟩
  · obtain ⟨q1, q2, q3⟩ := fm.zg b hb
    have ne : b ≠ p := fun z => zp (by rw [← z]; exact hb)
    exact ⟨by rw [upd_ne ne]; exact q1, q2, q3⟩
/-- what was not there is none of the frame's -/
theorem fm_new {G H : Hp} {σ : L2.St} {ρ : Ro} {p : Addr} (fm : P.Fm ρ G σ H) (hp : H p = none) : ¬ P.Z p ∧ ∀ (i : Nat) (d : D), ρ[i]? = some (some (d, true)) → σ[i]? ≠ some (some (.ref p)) := by
  refine ⟨fun z => ?_, fun i d hi z => ?_⟩
  · obtain ⟨_, q2, q3⟩ := fm.zg p z
    rw [hp] at q2
    exact q3 q2.symm
  · obtain ⟨a, o, q1, q3, _⟩ := fm.ow i d hi
    rw [q1] at z
    cases z
    rw [hp] at q3
    cases q3
theorem np_set {σ : L2.St} {ρ : Ro} {p : Addr} {i : Nat} {d0 : D} {x : D} (h0 : ρ[i]? = some (some (d0, true))) (np : ∀ (i : Nat) (d : D), ρ[i]? = some (some (d, true)) → σ[i]? ≠ some (some (.ref p))) : ∀ (j : Nat) (d : D), (ρ.set i (some (x, true)))[j]? = some (some (d, true)) → σ[j]? ≠ some (some (.ref p)) := fun j d hj => by
  by_cases hij : i = j
  · subst hij
    exact np i _ h0
  · rw [List.getElem?_set_ne hij] at hj
    exact np j d hj
/-- the end of a call that was lent nothing -/
theorem end_call {G H : Hp} {σ : L2.St} {ρ : Ro} {r : Ev.CR} {Q : VK} (fm : P.Fm ρ G σ H) (h : Out P (fun G v d => Rp P.K G v d) G σ (callR r ρ) Q) : EndC P.K P.mg G H none r Q (WE P.W σ) := by
  cases r with
  | ok d d0 =>
    cases d0 with
    | none => exact fun v G' H' s1 s2 st rp _ => h v G' H' s1 (fm_call fm s1 s2 st) rp
    | some e => exact h.elim
  | ow ds d0 =>
    cases d0 with
    | none =>
      intro p xs G' H' s1 s2 st hp gp hp' rp _
      obtain ⟨zp, np⟩ := fm_new fm hp
      exact h (.ref p) (upd G' p (.lst xs)) H' (Same.trans s1 (same_new gp)) (fm_put (fm_call fm s1 s2 st) hp' gp zp np) (.lst (Ls.of upd_same) (rp.mono (same_new gp)))
    | some e => exact h.elim
  | er c f d0 =>
    cases d0 with
    | none => exact fun cls dx G' H' s1 s2 st er _ => h cls dx G' H' s1 (fm_call fm s1 s2 st) er
    | some e => exact h.elim
  | bad => exact h.elim
/-- .. that was lent slot i's list -/
theorem end_lent {G H : Hp} {σ : L2.St} {ρ : Ro} {r : Ev.CR} {Q : VK} {i : Nat} {d0 : D} {a : Addr} (fm : P.Fm ρ G σ H) (hi : ρ[i]? = some (some (d0, true))) (ha : σ[i]? = some (some (.ref a))) (h : Out P (fun G v d => Rp P.K G v d) G σ (cioR i r ρ) Q) :
    EndC P.K P.mg G H (some a) r Q (WE P.W σ) := by
  cases r with
  | ok d d1 =>
    cases d1 with
    | none => exact h.elim
    | some e =>
      intro v G' H' s1 s2 st rp ln
      cases e with
      | list es => exact let ⟨g, ys, q1, q2⟩ := ln; h v G' H' s1 (fm_lent fm hi ha s1 s2 st g q1 q2) rp
      | _ => exact ln.elim
  | ow ds d1 =>
    cases d1 with
    | none => exact h.elim
    | some e =>
      intro p xs G' H' s1 s2 st hp gp hp' rp ln
      obtain ⟨zp, np⟩ := fm_new fm hp
      cases e with
      | list es => exact let ⟨g, ys, q1, q2⟩ := ln; h (.ref p) (upd G' p (.lst xs)) H' (Same.trans s1 (same_new gp)) (fm_put (fm_lent fm hi ha s1 s2 st g q1 q2) hp' gp zp (np_set hi np)) (.lst (Ls.of upd_same) (rp.mono (same_new gp)))
      | _ => exact ln.elim
  | er c f d1 =>
    cases d1 with
    | none => exact h.elim
    | some e =>
      intro cls dx G' H' s1 s2 st er ln
      cases e with
      | list es => exact let ⟨g, ys, q1, q2⟩ := ln; h cls dx G' H' s1 (fm_lent fm hi ha s1 s2 st g q1 q2) er
      | _ => exact ln.elim
  | bad => exact h.elim
variable {k : Nat} {f : Addr} {fd : FuncData} {ps ks : List Str} {x : Str} {p : Pos} {es : List Expr}
/-- a call of a def, by what its end must be -/
def TCa (P : Pm) (x : Str) (perm : List Nat) (cs : List CE) : TE := fun σ H Q => ∃ ρ G, P.Fm ρ G σ H ∧ (match evA P.cal P.b0 cs ρ with
  | .bad => False
  | .er c f ρ' => ∀ cls dx G' H', Same G G' → P.Fm ρ' G' σ H' → ErrV P c f cls dx G' → P.W cls dx σ H'
  | .ok ds ρ1 => ∀ G1 H1, Same G G1 → P.Fm ρ1 G1 σ H1 → ∃ es, permD perm ds = some es ∧ EndC P.K P.mg G1 H1 none (P.cal x es) Q (WE P.W σ))
theorem tca_T {x : Str} {perm : List Nat} {σ : L2.St} {H : Hp} {Q : VK} (h : T P (.call x perm cs) σ H Q) : TCa P x perm cs σ H Q := by
  obtain ⟨ρ, G, fm, h⟩ := h
  refine ⟨ρ, G, fm, ?_⟩
  simp only [ev] at h
  cases hq : evA P.cal P.b0 cs ρ with
  | bad => rw [hq] at h; exact h
  | er c f ρ' => rw [hq] at h; exact h
  | ok ds ρ1 =>
    rw [hq] at h
    intro G1 H1 s1 fm1
    have h1 := Out.mono s1 h
    simp only [Rs.bind_ok] at h1
    cases hp : permD perm ds with
    | none => rw [hp] at h1; exact h1.elim
    | some es => rw [hp] at h1; exact ⟨es, rfl, end_call fm1 h1⟩
theorem perm_range {n : Nat} {ds : List D} (h : ds.length = n) : permD (List.range n) ds = some ds := by
  unfold permD
  subst h
  have key : ∀ (m : Nat) (l : List D), m ≤ l.length → (List.range m).mapM (fun i => l[i]?) = some (l.take m) := by
    intro m l
    induction m with
    | zero => intro _; simp
    | succ m ih =>
      intro hm
      rw [List.range_succ, List.mapM_append, ih (by omega)]
      have : l[m]? = some l[m] := List.getElem?_eq_getElem (by omega)
      simp only [List.mapM_cons, List.mapM_nil, this, Option.bind_eq_bind, Option.bind_some, Option.pure_def]
      rw [List.take_succ, this]
      rfl
  rw [key ds.length ds (Nat.le_refl _), List.take_length]
theorem t_call {n : Nat} (hK : X.K = P.K) (hM : X.mg = P.mg) (F : FnG X.prog X.w X.K X.mg X.base k f fd ps (spD P.K P.mg P.cal x false n)) (hr : Room k X.A) (hg : X.A.guards = some []) (tk : L2N.Takes X P.W) (gl : Gl X x) (hm : X.mg x = some (.ref f)) (hk : PySem.W.keepIn X.K (.ref f) = true) (hb : Binds X.K fd ps [])
    (ha : PA X (e :: es) (TAs P cs)) (hn : cs.length = n) (hev : ∀ ρ ds ρ', evA P.cal P.b0 cs ρ = .ok ds ρ' → ds.length = cs.length) (hdb : (x == ("__debug__" : Str)) = false) (he : starEach (e :: es) X.env = (false, eval e X.env) :: starEach es X.env) (hpl : (backTo pos (starEach es X.env)).any (·.1) = false) :
    PE X (.Call (.Name x p) (e :: es) [] pos) (TCa P x (List.range n) cs) := by
  refine PEw (pe_G F hr hg tk gl hm hk hb ha hdb he hpl) fun σ H Q ⟨ρ, G, fm, h⟩ => ⟨ρ, G, fm, ?_⟩
  cases hq : evA P.cal P.b0 cs ρ with
  | bad => rw [hq] at h; exact h.elim
  | er c f ρ' => rw [hq] at h; exact h
  | ok ds ρ1 =>
    rw [hq] at h
    have hl := hev _ _ _ hq
    intro vs G1 H1 s1 fm1 r1
    obtain ⟨es, hp, h1⟩ := h G1 H1 s1 fm1
    rw [perm_range (hl.trans hn)] at hp
    cases hp
    exact ⟨G1, ds, none, by rw [r1.length, hl, hn], fm1.sub, rfl, r1, h1⟩
theorem t_call0 (F : FnG X.prog X.w X.K X.mg X.base k f fd ps (spD P.K P.mg P.cal x false 0)) (hr : Room k X.A) (hg : X.A.guards = some []) (tk : L2N.Takes X P.W) (gl : Gl X x) (hm : X.mg x = some (.ref f)) (hk : PySem.W.keepIn X.K (.ref f) = true) (hb : Binds X.K fd ps [])
    (hdb : (x == ("__debug__" : Str)) = false) : PE X (.Call (.Name x p) [] [] pos) (TCa P x [] []) := by
  refine PEw (pe_G0 F hr hg tk gl hm hk hb hdb) fun σ H Q ⟨ρ, G, fm, h⟩ => ?_
  simp only [evA] at h
  obtain ⟨es, hp, h1⟩ := h G H (Same.refl G) fm
  cases hp
  exact ⟨G, [], none, rfl, fm.sub, rfl, .nil, h1⟩
theorem rp_perm {K : PySem.W.Frag} {G : Hp} : ∀ {perm : List Nat} {vs : List V} {ds es : List D}, RpAll K G vs ds → permD perm ds = some es → ∃ zs, perm.mapM (fun i => vs[i]?) = some zs ∧ RpAll K G zs es
  | [], vs, ds, es, r, h => by
    unfold permD at h
    simp only [List.mapM_nil, Option.pure_def, Option.some.injEq] at h ⊢
    subst h
    exact ⟨[], rfl, .nil⟩
  | i :: perm, vs, ds, es, r, h => by
    unfold permD at h
    rw [List.mapM_cons] at h ⊢
    cases hi : ds[i]? with
    | none => rw [hi] at h; cases h
    | some d =>
      rw [hi] at h
      cases hp : perm.mapM (fun i => ds[i]?) with
      | none => rw [hp] at h; cases h
      | some es' =>
        rw [hp] at h
        cases h
        obtain ⟨v, h1, h2⟩ := r.get hi
        obtain ⟨zs, h3, h4⟩ := rp_perm (perm := perm) r hp
        rw [h1, h3]
        exact ⟨v :: zs, rfl, .cons h2 h4⟩
theorem t_pk : ∀ {kws : List Keyword} {cs : List CE}, kws.length = cs.length → (∀ (i : Nat) (kw : Keyword) (c : CE), kws[i]? = some kw → cs[i]? = some c → PE X kw.value (T P c)) → PK X kws (TAs P cs)
  | [], [], _, _ => ⟨fun pos pins s σ H Q I ⟨ρ, G, fm, h⟩ => pk_nil.run pos pins s σ H Q I (h.ret fm .nil)⟩
  | ⟨nm, ex, kp⟩ :: kws, c :: cs, hl, h => ⟨fun pos pins s σ H Q I ⟨ρ, G, fm, hq⟩ => (pk_cons (h 0 _ c rfl rfl) (t_pk (by simpa using hl) fun i kw c h1 h2 => h (i + 1) kw c (by simpa using h1) (by simpa using h2))).run pos pins s σ H Q I ⟨ρ, G, fm, by
    simp only [evA] at hq
    refine Out.bind hq fun x ρ1 v G1 H1 s1 fm1 r1 h1 => ⟨ρ1, G1, fm1, ?_⟩
    refine Out.bind h1 fun xs ρ2 vs G2 H2 s2 fm2 r2 h2 => ?_
    exact h2.ret fm2 (.cons (r1.mono s2) r2)⟩⟩
  | [], _ :: _, hl, _ => by cases hl
  | _ :: _, [], hl, _ => by cases hl
theorem t_callK {n : Nat} {kws : List Keyword} {perm : List Nat} (F : FnG X.prog X.w X.K X.mg X.base k f fd ps (spD P.K P.mg P.cal x false n)) (hr : Room k X.A) (hg : X.A.guards = some []) (tk : L2N.Takes X P.W) (gl : Gl X x) (hm : X.mg x = some (.ref f)) (hk : PySem.W.keepIn X.K (.ref f) = true) (hb : KwB X.K fd ps ks perm)
    (ha : PK X kws (TAs P cs)) (hn : perm.length = n) (hc : cs.length = ks.length) (hev : ∀ ρ ds ρ', evA P.cal P.b0 cs ρ = .ok ds ρ' → ds.length = cs.length) (hdb : (x == ("__debug__" : Str)) = false) (hall : (backToKw pos (keywordEach kws X.env)).all (·.1.isSome) = true) (hks : (backToKw pos (keywordEach kws X.env)).filterMap (·.1) = ks)
    (hpl : ((backTo pos (starEach [] X.env)).any (·.1) || (backToKw pos (keywordEach kws X.env)).any (·.1.isNone)) = false) (hlen : kws.length = ks.length) : PE X (.Call (.Name x p) [] kws pos) (TCa P x perm cs) := by
  refine PEw (pe_GK F hr hg tk gl hm hk hb ha hdb hall hks hpl hlen) fun σ H Q ⟨ρ, G, fm, h⟩ => ⟨ρ, G, fm, ?_⟩
  cases hq : evA P.cal P.b0 cs ρ with
  | bad => rw [hq] at h; exact h.elim
  | er c f ρ' => rw [hq] at h; exact h
  | ok ds ρ1 =>
    rw [hq] at h
    have hl := hev _ _ _ hq
    intro vs G1 H1 s1 fm1 r1
    obtain ⟨es, hp, h1⟩ := h G1 H1 s1 fm1
    · obtain ⟨zs, q1, q2⟩ := rp_perm r1 hp
      refine ⟨by rw [r1.length, hl, hc], zs, q1, G1, es, none, ?_, fm1.sub, rfl, q2, h1⟩
      have e1 : ∀ {perm : List Nat} {zs : List V}, perm.mapM (fun i => vs[i]?) = some zs → zs.length = perm.length := by
        intro perm
        induction perm with
        | nil => intro zs h; simp only [List.mapM_nil, Option.pure_def, Option.some.injEq] at h; subst h; rfl
        | cons i perm ih =>
          intro zs h
          rw [List.mapM_cons] at h
          cases hi : vs[i]? with
          | none => rw [hi] at h; cases h
          | some v =>
            rw [hi] at h
            cases hp : perm.mapM (fun i => vs[i]?) with
            | none => rw [hp] at h; cases h
            | some zs' => rw [hp] at h; cases h; simp [ih hp]
      rw [e1 q1, hn]
/-- a call that is lent an owned list, by what its end must be -/
def TCi (P : Pm) (x : Str) (i : Nat) (cs : List CE) : TE := fun σ H Q => ∃ ρ G, P.Fm ρ G σ H ∧ (∃ d0, ρ[i]? = some (some (d0, true))) ∧ (match evA P.cal P.b0 cs ρ with
  | .bad => False
  | .er c f ρ' => ∀ cls dx G' H', Same G G' → P.Fm ρ' G' σ H' → ErrV P c f cls dx G' → P.W cls dx σ H'
  | .ok ds ρ1 => ∀ G1 H1, Same G G1 → P.Fm ρ1 G1 σ H1 → ∃ es, ρ1[i]? = some (some (.list es, true)) ∧ ∀ a, σ[i]? = some (some (.ref a)) → EndC P.K P.mg G1 H1 (some a) (P.cal x (.list es :: ds)) Q (WE P.W σ))
theorem tci_T {x : Str} {i : Nat} {σ : L2.St} {H : Hp} {Q : VK} (h : T P (.cio x i cs) σ H Q) : TCi P x i cs σ H Q := by
  obtain ⟨ρ, G, fm, h⟩ := h
  simp only [ev] at h
  cases hr0 : ρ[i]? with
  | none => rw [hr0] at h; exact h.elim
  | some o =>
  match o, hr0, h with
  | none, hr0, h => rw [hr0] at h; exact h.elim
  | some (d0, false), hr0, h => rw [hr0] at h; exact h.elim
  | some (d0, true), hr0, h =>
    rw [hr0] at h
    refine ⟨ρ, G, fm, ⟨d0, hr0⟩, ?_⟩
    cases hq : evA P.cal P.b0 cs ρ with
    | bad => rw [hq] at h; exact h.elim
    | er c f ρ' => rw [hq] at h; exact h
    | ok ds ρ1 =>
      rw [hq] at h
      intro G1 H1 s1 fm1
      have h1 := Out.mono s1 h
      simp only [Rs.bind_ok] at h1
      cases hr1 : ρ1[i]? with
      | none => rw [hr1] at h1; exact h1.elim
      | some o1 =>
      match o1, hr1, h1 with
      | none, hr1, h1 => rw [hr1] at h1; exact h1.elim
      | some (d1, false), hr1, h1 => rw [hr1] at h1; cases d1 <;> exact h1.elim
      | some (.list es, true), hr1, h1 => rw [hr1] at h1; exact ⟨es, rfl, fun a ha => end_lent fm1 hr1 ha h1⟩
      | some (.none, true), hr1, h1 => rw [hr1] at h1; exact h1.elim
      | some (.bool _, true), hr1, h1 => rw [hr1] at h1; exact h1.elim
      | some (.int _, true), hr1, h1 => rw [hr1] at h1; exact h1.elim
      | some (.str _, true), hr1, h1 => rw [hr1] at h1; exact h1.elim
      | some (.tuple _, true), hr1, h1 => rw [hr1] at h1; exact h1.elim
      | some (.dict _, true), hr1, h1 => rw [hr1] at h1; exact h1.elim
theorem t_cio {n i : Nat} {y : Str} {py : Pos} (F : FnG X.prog X.w X.K X.mg X.base k f fd ps (spD P.K P.mg P.cal x true n)) (hr : Room k X.A) (hg : X.A.guards = some []) (tk : L2N.Takes X P.W) (gl : Gl X x) (hm : X.mg x = some (.ref f)) (hk : PySem.W.keepIn X.K (.ref f) = true) (hb : Binds X.K fd ps [])
    (hN : X.N[i]? = some y) (hv : Vis X.env.scope y) (hd : (y == ("__debug__" : Str)) = false) (hcd : (y == ("__classdict__" : Str)) = false)
    (ha : PA X es (TAs P cs)) (hn : cs.length + 1 = n) (hev : ∀ ρ ds ρ', evA P.cal P.b0 cs ρ = .ok ds ρ' → ds.length = cs.length) (hdb : (x == ("__debug__" : Str)) = false)
    (he : starEach (.Name y py :: es) X.env = (false, eval (.Name y py) X.env) :: starEach es X.env) (hpl : (backTo pos (starEach es X.env)).any (·.1) = false) :
    PE X (.Call (.Name x p) (.Name y py :: es) [] pos) (TCi P x i cs) := by
  refine PEw (pe_G F hr hg tk gl hm hk hb (pa_cons (pe_var hN hv hd hcd) ha he) hdb he hpl) fun σ H Q ⟨ρ, G, fm, ⟨d0, hr0⟩, h⟩ => ?_
  obtain ⟨a, o0, q1, _⟩ := fm.ow i d0 hr0
  refine ⟨_, q1, ρ, G, fm, ?_⟩
  cases hq : evA P.cal P.b0 cs ρ with
  | bad => rw [hq] at h; exact h.elim
  | er c f ρ' => rw [hq] at h; exact h
  | ok ds ρ1 =>
    rw [hq] at h
    have hl := hev _ _ _ hq
    intro vs G1 H1 s1 fm1 r1
    obtain ⟨d1, hr1, h1⟩ := h G1 H1 s1 fm1
    obtain ⟨a', xs', p1, p3, p4, p5, p6⟩ := fm1.owL hr1
    rw [q1] at p1
    cases p1
    refine ⟨G1, .list d1 :: ds, some a, ?_, fm1.sub, rfl, ⟨vs, xs', d1, ds, rfl, rfl, p3, p4, p6, r1⟩, h1 a q1⟩
    rw [List.length_cons, r1.length, hl, hn]
end
end Ev


set_option Elab.async false
set_option linter.all false
set_option maxRecDepth 100000
set_option maxHeartbeats 2000000
namespace Ev
open PySem PySem.Spec PyProof.Rows L2

/-! ## what is walked -/
def Wlk (K : PySem.W.Frag) (J : It) (G : Hp) (ds : List D) : Prop := ∀ G1 H1, Same G G1 → Same G1 H1 →
  (∀ (i : Nat) (d : D), ds[i]? = some d → J.go i H1 ∧ ∀ x H2, J.yld i H1 x H2 → ∃ G2, Ext G1 H1 G2 H2 ∧ Rp K G2 x d) ∧ J.stop ds.length H1
def TIt (P : Pm) (kind : Nat) (cs : List CE) : TI := fun σ H R => ∃ ρ G, P.Fm ρ G σ H ∧ Out P (fun G J xs => Wlk P.K J G xs) G σ ((evA P.cal P.b0 cs ρ).bind fun ds ρ1 => ofO (itemsD kind ds) ρ1) R
theorem PIw {X : Cx} {tg e : Expr} {t t' : TI} (h : PI X tg e t) (k : ∀ σ H Q, t' σ H Q → t σ H Q) : PI X tg e t' := ⟨fun pins s σ H Q I q => h.run pins s σ H Q I (k _ _ _ q)⟩

section
variable {K : PySem.W.Frag} {G : Hp}
theorem wlk_list {a : Addr} {xs : List V} {ds : List D} (h : Ls K G a xs) (r : RpAll K G xs ds) (inj : ∀ {G1 H1 : Hp} {ys : List V}, Same G G1 → Same G1 H1 → SqL K H1 a ys → SqL K H1 a xs → ys = xs) : Wlk K (Itl K a) G ds := by
  intro G1 H1 s1 s2
  have hs : SqL K H1 a xs := (Same.ls s2 (Same.ls s1 h)).seq
  refine ⟨fun i d hd => ?_, ⟨xs, hs, by rw [r.length]; exact Nat.le_refl _⟩⟩
  obtain ⟨v, hv, rv⟩ := r.get hd
  refine ⟨⟨xs, v, hs, hv⟩, fun x H2 hy => ?_⟩
  obtain ⟨rfl, hy⟩ := hy
  have := hy xs hs
  rw [hv] at this
  cases this
  exact ⟨G1, Ext.refl s2, rv.mono s1⟩
theorem wlk_tup {a : Addr} {xs : List V} {ds : List D} (h : SqT K G a xs) (r : RpAll K G xs ds) : Wlk K (Itt K a) G ds := by
  intro G1 H1 s1 s2
  have hs : SqT K H1 a xs := Same.seqT s2 (Same.seqT s1 h)
  refine ⟨fun i d hd => ?_, ⟨xs, hs, by rw [r.length]; exact Nat.le_refl _⟩⟩
  obtain ⟨v, hv, rv⟩ := r.get hd
  refine ⟨⟨xs, v, hs, hv⟩, fun x H2 hy => ?_⟩
  obtain ⟨rfl, hy⟩ := hy
  have := hy xs hs
  rw [hv] at this
  cases this
  exact ⟨G1, Ext.refl s2, rv.mono s1⟩
theorem wlk_str {z : Str} : Wlk K (Its z) G (z.cps.toList.map oneS) := by
  intro G1 H1 s1 s2
  refine ⟨fun i d hd => ?_, ?_⟩
  · rw [List.getElem?_map] at hd
    cases hc : z.cps.toList[i]? with
    | none => rw [hc] at hd; cases hd
    | some c =>
      rw [hc] at hd
      cases hd
      have hc' : z.cps[i]? = some c := by simpa using hc
      refine ⟨(Array.getElem?_eq_some_iff.mp hc').1, fun x H2 hy => ?_⟩
      obtain ⟨rfl, c', h1, rfl⟩ := hy
      rw [hc'] at h1
      cases h1
      exact ⟨G1, Ext.refl s2, .str _⟩
  · show z.cps.size ≤ _
    simp
theorem wlk_rng {lo hi : Int} : Wlk K (Itr lo (hi - lo).toNat) G (rngL lo hi) := by
  intro G1 H1 s1 s2
  unfold rngL
  refine ⟨fun i d hd => ?_, by show (hi - lo).toNat ≤ _; simp⟩
  rw [List.getElem?_map] at hd
  cases hc : (List.range (hi - lo).toNat)[i]? with
  | none => rw [hc] at hd; cases hd
  | some c =>
    rw [hc] at hd
    cases hd
    obtain ⟨h1, h2⟩ := List.getElem?_eq_some_iff.mp hc
    rw [List.getElem_range] at h2
    subst h2
    rw [List.length_range] at h1
    refine ⟨h1, fun x H2 hy => ?_⟩
    obtain ⟨rfl, rfl⟩ := hy
    exact ⟨G1, Ext.refl s2, .int _⟩
theorem enumL_get : ∀ {ds : List D} {k i : Nat} {d : D}, (enumL ds k)[i]? = some d → ∃ e, ds[i]? = some e ∧ d = .tuple [.int ((k + i : Nat) : Int), e]
  | [], k, i, d, h => by simp [enumL] at h
  | x :: xs, k, 0, d, h => by
    simp only [enumL, List.getElem?_cons_zero, Option.some.injEq] at h
    exact ⟨x, rfl, by rw [← h]; rfl⟩
  | x :: xs, k, i + 1, d, h => by
    simp only [enumL, List.getElem?_cons_succ] at h
    obtain ⟨e, h1, h2⟩ := enumL_get h
    exact ⟨e, by simpa using h1, by rw [h2, show k + 1 + i = k + (i + 1) by omega]⟩
theorem enumL_length : ∀ (ds : List D) (k : Nat), (enumL ds k).length = ds.length
  | [], _ => rfl
  | x :: xs, k => by simp [enumL, enumL_length xs (k + 1)]
theorem zipL_get : ∀ {ds es : List D} {i : Nat} {d : D}, (zipL ds es)[i]? = some d → ∃ a b, ds[i]? = some a ∧ es[i]? = some b ∧ d = .tuple [a, b]
  | [], es, i, d, h => by simp [zipL] at h
  | x :: xs, [], i, d, h => by simp [zipL] at h
  | x :: xs, y :: ys, 0, d, h => by
    simp only [zipL, List.getElem?_cons_zero, Option.some.injEq] at h
    exact ⟨x, y, rfl, rfl, h.symm⟩
  | x :: xs, y :: ys, i + 1, d, h => by
    simp only [zipL, List.getElem?_cons_succ] at h
    obtain ⟨a, b, h1, h2, h3⟩ := zipL_get h
    exact ⟨a, b, by simpa using h1, by simpa using h2, h3⟩
theorem zipL_length : ∀ (ds es : List D), (zipL ds es).length = min ds.length es.length
  | [], es => by simp [zipL]
  | x :: xs, [] => by simp [zipL]
  | x :: xs, y :: ys => by
    simp only [zipL, List.length_cons, zipL_length xs ys]
    omega
theorem evA_len {cal : Cal} {b0 : Bool} : ∀ {cs : List CE} {ρ ρ' : Ro} {ds : List D}, evA cal b0 cs ρ = .ok ds ρ' → ds.length = cs.length
  | [], ρ, ρ', ds, h => by
    simp only [evA, Rs.ok.injEq] at h
    rw [← h.1]
    rfl
  | c :: cs, ρ, ρ', ds, h => by
    simp only [evA] at h
    cases hq : ev cal b0 c ρ with
    | bad => rw [hq] at h; cases h
    | er _ _ _ => rw [hq] at h; cases h
    | ok d ρ1 =>
      rw [hq] at h
      simp only [Rs.bind_ok] at h
      cases hr : evA cal b0 cs ρ1 with
      | bad => rw [hr] at h; cases h
      | er _ _ _ => rw [hr] at h; cases h
      | ok ds' ρ2 =>
        rw [hr] at h
        simp only [Rs.bind_ok, Rs.ok.injEq] at h
        rw [← h.1, List.length_cons, List.length_cons, evA_len hr]
theorem wlk_enum {a : Addr} {xs : List V} {ds : List D} (h : Ls K G a xs) (r : RpAll K G xs ds) : Wlk K (Ite K a) G (enumL ds 0) := by
  intro G1 H1 s1 s2
  have hs : SqL K H1 a xs := (Same.ls s2 (Same.ls s1 h)).seq
  refine ⟨fun i d hd => ?_, ⟨xs, hs, by rw [enumL_length, r.length]; exact Nat.le_refl _⟩⟩
  obtain ⟨e, he, rfl⟩ := enumL_get hd
  obtain ⟨v, hv, rv⟩ := r.get he
  refine ⟨⟨xs, v, hs, hv⟩, fun x H2 hy => ?_⟩
  obtain ⟨p, y, rfl, hp, rfl, hy⟩ := hy
  have := hy xs hs
  rw [hv] at this
  cases this
  refine ⟨_, Ext.new s2 hp, .tup (SqT.of upd_same) ?_⟩
  rw [Nat.zero_add]
  exact .cons (.int _) (.cons ((rv.mono s1).mono (same_new (Same.none s2 hp))) .nil)
theorem wlk_zip {a b : Addr} {xs ys : List V} {ds es : List D} (h : Ls K G a xs) (r : RpAll K G xs ds) (h' : Ls K G b ys) (r' : RpAll K G ys es) : Wlk K (Itz K a b) G (zipL ds es) := by
  intro G1 H1 s1 s2
  have hs : SqL K H1 a xs := (Same.ls s2 (Same.ls s1 h)).seq
  have hs' : SqL K H1 b ys := (Same.ls s2 (Same.ls s1 h')).seq
  refine ⟨fun i d hd => ?_, ⟨xs, ys, hs, hs', by rw [zipL_length, r.length, r'.length]; omega⟩⟩
  obtain ⟨d1, d2, he, he', rfl⟩ := zipL_get hd
  obtain ⟨v, hv, rv⟩ := r.get he
  obtain ⟨v', hv', rv'⟩ := r'.get he'
  refine ⟨⟨xs, ys, v, v', hs, hs', hv, hv'⟩, fun x H2 hy => ?_⟩
  obtain ⟨p, y, y', rfl, hp, rfl, hy, hy'⟩ := hy
  have e1 := hy xs hs
  have e2 := hy' ys hs'
  rw [hv] at e1
  rw [hv'] at e2
  cases e1
  cases e2
  have sn := same_new (o := HO.tup [v, v']) (Same.none s2 hp)
  exact ⟨_, Ext.new s2 hp, .tup (SqT.of upd_same) (.cons ((rv.mono s1).mono sn) (.cons ((rv'.mono s1).mono sn) .nil))⟩
end
section
variable {P : Pm} {X : Cx} {a b e tg : Expr} {ca cb ce : CE} {cs : List CE} {pos p : Pos}
theorem ti_list (hK : X.K = P.K) (ha : PE X a (T P ca)) : PI X tg a (TIt P 0 [ca]) := by
  refine PIw (pi_list ha) fun σ H R ⟨ρ, G, fm, h⟩ => ⟨ρ, G, fm, ?_⟩
  simp only [evA, Rs.assoc] at h
  refine Out.bind h fun x ρ1 v G1 H1 s1 fm1 r1 h1 => ?_
  simp only [Rs.bind_ok] at h1
  cases r1 with
  | @lst p xs ds q1 q2 =>
    rw [hK]
    refine ⟨p, rfl, ⟨xs, (Same.ls fm1.sub q1).seq⟩, h1.ret fm1 ?_⟩
    intro G2 H2 s2 s3
    have hs : SqL P.K H2 p xs := (Same.ls s3 (Same.ls s2 q1)).seq
    refine ⟨fun i d hd => ?_, ⟨xs, hs, by rw [q2.length]; exact Nat.le_refl _⟩⟩
    obtain ⟨v, hv, rv⟩ := q2.get hd
    refine ⟨⟨xs, v, hs, hv⟩, fun x H3 hy => ?_⟩
    obtain ⟨rfl, hy⟩ := hy
    have := hy xs hs
    rw [hv] at this
    cases this
    exact ⟨G2, Ext.refl s3, rv.mono s2⟩
  | _ => exact h1.elim
theorem ti_tup (hK : X.K = P.K) (ha : PE X a (T P ca)) : PI X tg a (TIt P 4 [ca]) := by
  refine PIw (pi_tup ha) fun σ H R ⟨ρ, G, fm, h⟩ => ⟨ρ, G, fm, ?_⟩
  simp only [evA, Rs.assoc] at h
  refine Out.bind h fun x ρ1 v G1 H1 s1 fm1 r1 h1 => ?_
  simp only [Rs.bind_ok] at h1
  cases r1 with
  | @tup p xs ds q1 q2 =>
    rw [hK]
    exact ⟨p, rfl, ⟨xs, Same.seqT fm1.sub q1⟩, h1.ret fm1 (wlk_tup q1 q2)⟩
  | _ => exact h1.elim
theorem ti_str (ha : PE X a (T P ca)) : PI X tg a (TIt P 5 [ca]) := by
  refine PIw (pi_str ha) fun σ H R ⟨ρ, G, fm, h⟩ => ⟨ρ, G, fm, ?_⟩
  simp only [evA, Rs.assoc] at h
  refine Out.bind h fun x ρ1 v G1 H1 s1 fm1 r1 h1 => ?_
  simp only [Rs.bind_ok] at h1
  cases r1 with
  | str z => exact ⟨z, rfl, h1.ret fm1 wlk_str⟩
  | _ => exact h1.elim
/-! ranges of any ints -/
theorem turn_long {P : Program} {w : World} {K : PySem.W.Frag} {tg : Expr} (it : Addr) (lo : Int) (n : Nat) : Turn P w K tg (Itr lo n) [it] it (fun i h => IsLongIter h it (lo + (i : Nat) * 1) ((n : Int) - (i : Nat)) 1) where
  mem := by simp
  obj := fun i h st b hb => by
    have e : b = it := by simpa using hb
    subst e
    exact ⟨_, st, fun v z => by
      have z' : Data.fields _ = Data.cell v := z
      cases z'⟩
  keep := fun i h h' st k => k it (by simp) _ st
  item := by
    intro X hP hw hK hc i pins s σ H E I hf st hg
    subst hP hw hK
    obtain ⟨f0, f1, f2, f3, f4, f5⟩ := hf it (by simp)
    have W := Walks.longrange (prog := X.prog) (w := X.w) (I.ok.hd hc) it lo 1 n
    refine W.item i s _ _ hg st fun v h' tk hv st' kk => ?_
    obtain ⟨t, rfl⟩ := hv
    have I1 : L2.Inv X pins σ H { s with heap := h', toks := tk } := I.turned (fun b o hb e => kk b o (by simpa using hb) e) f0 f1 f3 f4 f5
    refine ⟨_, rfl, go_of (s := { s with heap := h', toks := tk }) (n := "longrange_iterator") st' rfl rfl (by decide) ⟨.int (lo + i), H, I1, ⟨t, ?_⟩, ⟨rfl, rfl⟩, st', fun b hb => (hf b hb).1⟩⟩
    rw [Int.mul_one]
  done := by
    intro X hP hw hK hc i pins s σ H E I hf st hg
    subst hP hw hK
    obtain ⟨f0, f1, f2, f3, f4, f5⟩ := hf it (by simp)
    exact wpAny_pyNext_long_end (I.ok.hd hc) st (by have : n ≤ i := hg; omega) fun h' eb => ⟨rfl, I.turned (t' := s.toks) (fun b o hb e => eb b o hb e) f0 f1 f3 f4 f5⟩
  self := fun _ _ _ _ _ st h => wpAny_pyIter_longiter st h
theorem range_itL {X : Cx} {tg : Expr} {pins : List (Addr × Obj)} {σ : L2.St} {H : Hp} {s : Shared} {R : It → Hp → Prop} {E : Value → Shared → Prop} {lo hi : Int} {t u v : Tok} {tk : Nat} (I : L2.Inv X pins σ H s)
    (q : R (Itr lo (hi - lo).toNat) H) : wpAny (model X.prog X.w) X.A (pyIter (.ref s.heap.objs.size)) (PIE X pins σ tg R) E { s with heap := s.heap.push { cls := .type "range", data := .fields #[.int lo t, .int hi u, .int 1 v] }, toks := tk } := by
  have I1 : L2.Inv X pins σ H { s with heap := s.heap.push { cls := .type "range", data := .fields #[.int lo t, .int hi u, .int 1 v] }, toks := tk } := I.kept fun b o e => Heap.get?_push_of_some _ e
  have e1 : lo + ((0 : Nat) : Int) * 1 = lo := by simp
  have e2 : (((hi - lo).toNat : Nat) : Int) - ((0 : Nat) : Int) = Builtin.Range.rangeSize lo hi 1 := by rw [rangeSize_one]; split <;> omega
  cases hs : Builtin.Range.small lo hi 1 with
  | true =>
    refine wpAny_pyIter_range (IsRange.new ..) hs ?_
    refine ⟨(s.heap.push { cls := .type "range", data := .fields #[.int lo t, .int hi u, .int 1 v] }).objs.size, [(s.heap.push { cls := .type "range", data := .fields #[.int lo t, .int hi u, .int 1 v] }).objs.size], _, _, H, rfl,
      I1.kept (t' := tk) fun b o e => Heap.get?_push_of_some _ e, turn_range _ lo (hi - lo).toNat, ?_, fun b hb => ?_, q⟩
    · show IsRangeIter _ _ (lo + ((0 : Nat) : Int) * 1) ((((hi - lo).toNat : Nat) : Int) - ((0 : Nat) : Int)) 1
      rw [e1, e2]
      exact Heap.get?_push_size _ rfl
    · have e : b = (s.heap.push { cls := .type "range", data := .fields #[.int lo t, .int hi u, .int 1 v] }).objs.size := by simpa using hb
      subst e
      exact I1.fpOk (Nat.le_refl _) (I1.hok.fresh (Nat.le_refl _))
  | false =>
    refine wpAny_pyIter_longrange (IsRange.new ..) hs ?_
    refine ⟨(s.heap.push { cls := .type "range", data := .fields #[.int lo t, .int hi u, .int 1 v] }).objs.size, [(s.heap.push { cls := .type "range", data := .fields #[.int lo t, .int hi u, .int 1 v] }).objs.size], _, _, H, rfl,
      I1.kept (t' := tk) fun b o e => Heap.get?_push_of_some _ e, turn_long _ lo (hi - lo).toNat, ?_, fun b hb => ?_, q⟩
    · show IsLongIter _ _ (lo + ((0 : Nat) : Int) * 1) ((((hi - lo).toNat : Nat) : Int) - ((0 : Nat) : Int)) 1
      rw [e1, e2]
      exact Heap.get?_push_size _ rfl
    · have e : b = (s.heap.push { cls := .type "range", data := .fields #[.int lo t, .int hi u, .int 1 v] }).objs.size := by simpa using hb
      subst e
      exact I1.fpOk (Nat.le_refl _) (I1.hok.fresh (Nat.le_refl _))
def iRngL1 (ta : TA) : TI := fun σ H R => ta σ H fun vs H1 => ∃ j : Int, vs = [.int j] ∧ R (Itr 0 j.toNat) H1
def iRngL2 (ta : TA) : TI := fun σ H R => ta σ H fun vs H1 => ∃ i j : Int, vs = [.int i, .int j] ∧ R (Itr i (j - i).toNat) H1
theorem pi_rangeL1 {X : Cx} {tg a : Expr} {ta : TA} {p pos : Pos} (hg : Gl X "range") (hm : X.mg "range" = none) (ha : PA X [a] ta) (hs : starEach [a] X.env = [(false, eval a X.env)]) : PI X tg (.Call (.Name "range" p) [a] [] pos) (iRngL1 ta) := by
  refine ⟨fun pins s σ H R I h => ?_⟩
  refine Call_ (ld_blt I hg hm boot_range (PyProof.Rows.callWith_type1 (thn (ha.run pos pins s σ H _ I h) fun us s1 ⟨vs, H1, I1, r1, q1⟩ => ?_) hs rfl))
  obtain ⟨j, e, q⟩ := q1
  subst e
  cases r1 with
  | cons r rr =>
    cases rr
    obtain ⟨t, rfl⟩ := r
    exact call_range_1 (range_itL I1 (by simpa using q))
theorem pi_rangeL2 {X : Cx} {tg a b : Expr} {ta : TA} {p pos : Pos} (hg : Gl X "range") (hm : X.mg "range" = none) (ha : PA X [a, b] ta) (hs : starEach [a, b] X.env = [(false, eval a X.env), (false, eval b X.env)]) (hs2 : starEach [b] X.env = [(false, eval b X.env)]) :
    PI X tg (.Call (.Name "range" p) [a, b] [] pos) (iRngL2 ta) := by
  refine ⟨fun pins s σ H R I h => ?_⟩
  refine Call_ (ld_blt I hg hm boot_range (PyProof.Rows.callWith_type1 (thn (ha.run pos pins s σ H _ I h) fun us s1 ⟨vs, H1, I1, r1, q1⟩ => ?_) (by rw [hs, hs2]) (by rw [hs2]; rfl)))
  obtain ⟨i, j, e, q⟩ := q1
  subst e
  cases r1 with
  | cons r rr =>
    cases rr with
    | cons r' rr =>
      cases rr
      obtain ⟨t, rfl⟩ := r
      obtain ⟨t', rfl⟩ := r'
      exact call_range_2 (range_itL I1 q)
theorem ti_rng1 (gl : Gl X "range") (hm : X.mg "range" = none) (ha : PA X [a] (TAs P cs)) (hs : starEach [a] X.env = [(false, eval a X.env)]) (hc : cs.length = 1) (hev : ∀ ρ ds ρ', evA P.cal P.b0 cs ρ = .ok ds ρ' → ds.length = cs.length) : PI X tg (.Call (.Name "range" p) [a] [] pos) (TIt P 1 cs) := by
  refine PIw (pi_rangeL1 gl hm ha hs) fun σ H R ⟨ρ, G, fm, h⟩ => ⟨ρ, G, fm, ?_⟩
  cases hq : evA P.cal P.b0 cs ρ with
  | bad => rw [hq] at h; exact h.elim
  | er c f ρ' => rw [hq] at h; exact h
  | ok ds ρ1 =>
    have hl := hev _ _ _ hq
    rw [hq] at h
    intro vs G1 H1 s1 fm1 r1
    have h1 := Out.mono s1 h
    simp only [Rs.bind_ok] at h1
    match ds, r1, h1, hl with
    | [d], .cons r rr, h1, _ =>
      cases rr
      cases r with
      | int n =>
        have h2 : Out P (fun G J xs => Wlk P.K J G xs) G1 σ (ofO (some (rngL 0 n)) ρ1) R := h1
        refine ⟨n, rfl, Out.ret h2 fm1 ?_⟩
        have := @wlk_rng P.K G1 0 n
        rwa [Int.sub_zero] at this
      | _ => exact h1.elim
    | [], _, _, hl => rw [hc] at hl; cases hl
    | _ :: _ :: _, _, _, hl => rw [hc] at hl; simp at hl
theorem ti_rng2 (gl : Gl X "range") (hm : X.mg "range" = none) (ha : PA X [a, b] (TAs P cs)) (hs : starEach [a, b] X.env = [(false, eval a X.env), (false, eval b X.env)]) (hs2 : starEach [b] X.env = [(false, eval b X.env)]) (hc : cs.length = 2)
    (hev : ∀ ρ ds ρ', evA P.cal P.b0 cs ρ = .ok ds ρ' → ds.length = cs.length) : PI X tg (.Call (.Name "range" p) [a, b] [] pos) (TIt P 1 cs) := by
  refine PIw (pi_rangeL2 gl hm ha hs hs2) fun σ H R ⟨ρ, G, fm, h⟩ => ⟨ρ, G, fm, ?_⟩
  cases hq : evA P.cal P.b0 cs ρ with
  | bad => rw [hq] at h; exact h.elim
  | er c f ρ' => rw [hq] at h; exact h
  | ok ds ρ1 =>
    have hl := hev _ _ _ hq
    rw [hq] at h
    intro vs G1 H1 s1 fm1 r1
    have h1 := Out.mono s1 h
    simp only [Rs.bind_ok] at h1
    match ds, r1, h1, hl with
    | [d, d'], .cons r (.cons r' rr), h1, _ =>
      cases rr
      cases r with
      | int n =>
        cases r' with
        | int m =>
          have h2 : Out P (fun G J xs => Wlk P.K J G xs) G1 σ (ofO (some (rngL n m)) ρ1) R := h1
          exact ⟨n, m, rfl, Out.ret h2 fm1 wlk_rng⟩
        | _ => exact h1.elim
      | _ => cases r' <;> exact h1.elim
    | [], _, _, hl => rw [hc] at hl; cases hl
    | [_], _, _, hl => rw [hc] at hl; simp at hl
    | _ :: _ :: _ :: _, _, _, hl => rw [hc] at hl; simp at hl
theorem ti_enum {elts : List Expr} {kk : Nat} {tpos : Pos} (hK : X.K = P.K) (gl : Gl X "enumerate") (hm : X.mg "enumerate" = none) (ha : PE X a (T P ca)) (hs : starEach [a] X.env = [(false, eval a X.env)]) :
    PI X (.Tuple elts kk tpos) (.Call (.Name "enumerate" p) [a] [] pos) (TIt P 2 [ca]) := by
  refine PIw (pi_enum gl hm (ta_cons ha ta_nil hs) hs) fun σ H R ⟨ρ, G, fm, h⟩ => ⟨ρ, G, fm, ?_⟩
  simp only [evA, Rs.assoc] at h ⊢
  cases hq : ev P.cal P.b0 ca ρ with
  | bad => rw [hq] at h; exact h.elim
  | er c f ρ' => rw [hq] at h; exact h
  | ok d ρ1 =>
    rw [hq] at h
    intro vs G1 H1 s1 fm1 r1
    have h1 := Out.mono s1 h
    simp only [Rs.bind_ok] at h1
    cases r1 with
    | cons r rr =>
      cases rr
      cases r with
      | @lst q xs ds q1 q2 =>
        rw [hK]
        exact ⟨q, xs, rfl, (Same.ls fm1.sub q1).seq, Out.ret h1 fm1 (wlk_enum q1 q2)⟩
      | _ => exact h1.elim
theorem ti_zip {elts : List Expr} {kk : Nat} {tpos : Pos} (hK : X.K = P.K) (gl : Gl X "zip") (hm : X.mg "zip" = none) (ha : PE X a (T P ca)) (hb : PE X b (T P cb)) (hs : starEach [a, b] X.env = (false, eval a X.env) :: starEach [b] X.env) (hs2 : starEach [b] X.env = [(false, eval b X.env)])
    (hpl : (backTo pos (starEach [b] X.env)).any (·.1) = false) : PI X (.Tuple elts kk tpos) (.Call (.Name "zip" p) [a, b] [] pos) (TIt P 3 [ca, cb]) := by
  refine PIw (pi_zip gl hm (ta_cons ha (ta_cons hb ta_nil hs2) hs) hs hpl) fun σ H R ⟨ρ, G, fm, h⟩ => ⟨ρ, G, fm, ?_⟩
  cases hq : evA P.cal P.b0 [ca, cb] ρ with
  | bad => rw [hq] at h; exact h.elim
  | er c f ρ' => rw [hq] at h; exact h
  | ok ds ρ1 =>
    rw [hq] at h
    intro vs G1 H1 s1 fm1 r1
    have h1 := Out.mono s1 h
    simp only [Rs.bind_ok] at h1
    match ds, r1, h1 with
    | [d, d'], .cons r (.cons r' rr), h1 =>
      cases rr
      cases r with
      | @lst q xs ds q1 q2 =>
        cases r' with
        | @lst q' xs' ds' q1' q2' =>
          rw [hK]
          exact ⟨q, q', xs, xs', rfl, (Same.ls fm1.sub q1).seq, (Same.ls fm1.sub q1').seq, Out.ret h1 fm1 (wlk_zip q1 q2 q1' q2')⟩
        | _ => exact h1.elim
      | _ => cases r' <;> exact h1.elim
    | [], _, _ => have := evA_len hq; cases this
    | [_], _, _ => have := evA_len hq; cases this
    | _ :: _ :: _ :: _, _, _ => have := evA_len hq; cases this
end
end Ev


set_option Elab.async false
set_option linter.all false
set_option maxRecDepth 100000
set_option maxHeartbeats 2000000
namespace Ev
open PySem PySem.Spec PyProof.Rows L2

/-! ## targets -/
theorem wipe_set {σ : L2.St} {i : Nat} {x : Option V} : ∀ {vs : List Nat}, i ∈ vs → wipe (σ.set i x) vs = wipe σ vs
  | [], h => by cases h
  | v :: vs, h => by
    show (wipe (σ.set i x) vs).set v none = (wipe σ vs).set v none
    by_cases hv : i ∈ vs
    · rw [wipe_set hv]
    · have e : i = v := by
        rcases List.mem_cons.mp h with e | e
        · exact e
        · exact absurd e hv
      subst e
      have key : ∀ (us : List Nat), i ∉ us → wipe (σ.set i x) us = (wipe σ us).set i x := by
        intro us
        induction us with
        | nil => intro _; rfl
        | cons u us ih =>
          intro hu
          show (wipe (σ.set i x) us).set u none = ((wipe σ us).set u none).set i x
          rw [ih (fun z => hu (List.mem_cons_of_mem _ z)), List.set_comm]
          exact fun z => hu (by rw [z]; exact List.mem_cons_self)
      rw [key vs hv, List.set_set]
theorem wipe_get {σ : L2.St} {j : Nat} : ∀ {vs : List Nat}, j ∈ vs → (wipe σ vs)[j]? = if j < σ.length then some none else none
  | [], h => by cases h
  | v :: vs, h => by
    show ((wipe σ vs).set v none)[j]? = _
    have hl := wipe_length σ vs
    by_cases hv : v = j
    · subst hv
      by_cases hj : v < σ.length
      · rw [List.getElem?_set_self (by rw [hl]; exact hj), if_pos hj]
      · rw [List.getElem?_eq_none (by rw [List.length_set, hl]; omega), if_neg hj]
    · rw [List.getElem?_set_ne hv]
      rcases List.mem_cons.mp h with e | e
      · exact absurd e.symm hv
      · exact wipe_get e
theorem wipe_wipe {σ : L2.St} (vs : List Nat) : wipe (wipe σ vs) vs = wipe σ vs := by
  apply List.ext_getElem?
  intro j
  by_cases h : j ∈ vs
  · rw [wipe_get h, wipe_get h, wipe_length]
  · rw [wipe_out h]
theorem wipeR_length (ρ : Ro) : ∀ vs : List Nat, (wipeR ρ vs).length = ρ.length
  | [] => rfl
  | v :: vs => by show ((wipeR ρ vs).set v none).length = _; rw [List.length_set, wipeR_length ρ vs]
theorem wipeR_out {ρ : Ro} {j : Nat} : ∀ {vs : List Nat}, j ∉ vs → (wipeR ρ vs)[j]? = ρ[j]?
  | [], _ => rfl
  | v :: vs, h => by
    show ((wipeR ρ vs).set v none)[j]? = _
    rw [List.getElem?_set_ne (fun z => h (by rw [z]; exact List.mem_cons_self))]
    exact wipeR_out fun z => h (List.mem_cons_of_mem _ z)
theorem wipeR_in {ρ : Ro} {j : Nat} {x : D × Bool} : ∀ {vs : List Nat}, j ∈ vs → (wipeR ρ vs)[j]? ≠ some (some x)
  | [], h => by cases h
  | v :: vs, h => by
    show ((wipeR ρ vs).set v none)[j]? ≠ _
    by_cases hv : v = j
    · subst hv
      intro z
      by_cases hj : v < (wipeR ρ vs).length
      · rw [List.getElem?_set_self hj] at z; cases z
      · rw [List.getElem?_eq_none (by rw [List.length_set]; omega)] at z; cases z
    · rw [List.getElem?_set_ne hv]
      rcases List.mem_cons.mp h with e | e
      · exact absurd e.symm hv
      · exact wipeR_in e
def gNames : List Nat → TGs
  | [] => gNil
  | i :: is => gCons (gName i) (gNames is)
def NmOk (X : Cx) : List Expr → List Nat → Prop
  | [], [] => True
  | .Name x _ :: es, i :: is => (X.N[i]? = some x ∧ Loc X.env.scope x ∧ (X.fn x = true ∨ X.env.scope.names.lookup x = some .local)) ∧ NmOk X es is
  | _, _ => False
theorem pgs_D {X : Cx} (hN : X.N.Nodup) : ∀ {es : List Expr} {is : List Nat}, NmOk X es is → PGs X es (gNames is)
  | [], [], _ => pgs_nil
  | e :: es, i :: is, h => by
    cases e with
    | Name x p => exact pgs_cons (pg_name hN h.1.1 h.1.2.1 h.1.2.2) (pgs_D hN h.2) rfl
    | _ => exact h.elim
  | [], _ :: _, h => h.elim
  | e :: _, [], h => by cases e <;> exact h.elim
theorem nm_each {X : Cx} : ∀ {es : List Expr} {is : List Nat}, NmOk X es is → (assignEach es X.env).length = is.length ∧ (assignEach es X.env).findIdx? (·.1) = none
  | [], [], _ => ⟨rfl, rfl⟩
  | e :: es, i :: is, h => by
    cases e with
    | Name x p =>
      obtain ⟨h1, h2⟩ := nm_each h.2
      have e1 : assignEach (.Name x p :: es) X.env = (false, assign (.Name x p) X.env) :: assignEach es X.env := rfl
      rw [e1]
      refine ⟨by rw [List.length_cons, List.length_cons, h1], ?_⟩
      rw [List.findIdx?_cons]
      simp [h2]
    | _ => exact h.elim
  | [], _ :: _, h => h.elim
  | e :: _, [], h => by cases e <;> exact h.elim
def TTg (P : Pm) (tg : List Nat) (one : Bool) : TG := fun v σ H Q => ∃ ρ G d ρ', P.Fm ρ G σ H ∧ Rp P.K G v d ∧ setTg P.b0 tg one d ρ = some ρ' ∧
  ∀ σ', P.Fm ρ' G σ' H → (∀ vs : List Nat, (∀ i ∈ tg, i ∈ vs) → wipe σ' vs = wipe σ vs) → Q σ' H
theorem PGw {X : Cx} {e : Expr} {t t' : TG} (h : PG X e t) (k : ∀ v σ H Q, t' v σ H Q → t v σ H Q) : PG X e t' := ⟨fun pins s σ H v u Q I r q => h.run pins s σ H v u Q I r (k _ _ _ _ q)⟩
section
variable {P : Pm} {X : Cx}
theorem set0_io {i : Nat} {d : D} {ρ ρ' : Ro} (h : set0 P.b0 i d ρ = some ρ') : ρ' = ρ.set i (some (d, false)) ∧ (P.io ≠ none → i ≠ 0) := by
  unfold set0 at h
  split at h
  · cases h
  · rename_i hc
    cases h
    refine ⟨rfl, fun hio hi => hc ?_⟩
    subst hi
    unfold Pm.b0
    cases hq : P.io with
    | none => exact absurd hq hio
    | some a => rfl
theorem tg_one {i : Nat} {x : Str} {p : Pos} (hN : X.N.Nodup) (hi : X.N[i]? = some x) (hx : Loc X.env.scope x) (hf : X.fn x = true ∨ X.env.scope.names.lookup x = some .local) : PG X (.Name x p) (TTg P [i] true) := by
  refine PGw (pg_name hN hi hx hf) fun v σ H Q ⟨ρ, G, d, ρ', fm, r, e, k⟩ => ?_
  have e' : set0 P.b0 i d ρ = some ρ' := e
  obtain ⟨rfl, h0⟩ := set0_io e'
  exact k _ (fm.set r h0) fun vs hv => wipe_set (hv i (by simp))
theorem set_many {K : PySem.W.Frag} {Q : L2.St → Hp → Prop} {H G : Hp} : ∀ {is : List Nat} {vs : List V} {ds : List D} {ρ ρ' : Ro} {σ : L2.St}, P.Fm ρ G σ H → RpAll P.K G vs ds → setMany P.b0 is ds ρ = some ρ' →
    (∀ σ', P.Fm ρ' G σ' H → (∀ us : List Nat, (∀ i ∈ is, i ∈ us) → wipe σ' us = wipe σ us) → Q σ' H) → gNames is vs σ H Q
  | [], vs, ds, ρ, ρ', σ, fm, r, e, k => by
    cases ds with
    | nil =>
      cases r
      cases e
      exact ⟨rfl, k σ fm fun _ _ => rfl⟩
    | cons _ _ => cases e
  | i :: is, vs, ds, ρ, ρ', σ, fm, r, e, k => by
    cases ds with
    | nil => cases e
    | cons d ds =>
      cases r with
      | cons r1 r2 =>
        have e' : (set0 P.b0 i d ρ).bind (setMany P.b0 is ds) = some ρ' := e
        cases hs : set0 P.b0 i d ρ with
        | none => rw [hs] at e'; cases e'
        | some ρ1 =>
          rw [hs] at e'
          obtain ⟨rfl, h0⟩ := set0_io hs
          refine ⟨_, _, rfl, ?_⟩
          show gNames is _ (σ.set i _) H Q
          refine set_many (K := K) (fm.set r1 h0) r2 e' fun σ' fm' hw => k σ' fm' fun us hu => ?_
          rw [hw us fun j hj => hu j (List.mem_cons_of_mem _ hj), wipe_set (hu i List.mem_cons_self)]
theorem tg_many {is : List Nat} {es : List Expr} {kk : Nat} {p : Pos} (hK : X.K = P.K) (hc : X.calm = true) (hN : X.N.Nodup) (h : NmOk X es is) : PG X (.Tuple es kk p) (TTg P is false) := by
  obtain ⟨h1, h2⟩ := nm_each h
  refine PGw (pg_tup hc (pgs_D hN h) h1 h2) fun v σ H Q ⟨ρ, G, d, ρ', fm, r, e, k⟩ => ?_
  rw [hK]
  cases r with
  | @tup a xs ds q1 q2 =>
    have e' : setMany P.b0 is ds ρ = some ρ' := e
    have hl : ∀ {is : List Nat} {ds : List D} {ρ ρ' : Ro}, setMany P.b0 is ds ρ = some ρ' → ds.length = is.length := by
      intro is
      induction is with
      | nil => intro ds ρ ρ' h; cases ds with
        | nil => rfl
        | cons _ _ => cases h
      | cons i is ih =>
        intro ds ρ ρ' h
        cases ds with
        | nil => cases h
        | cons d ds =>
          have h' : (set0 P.b0 i d ρ).bind (setMany P.b0 is ds) = some ρ' := h
          cases hs : set0 P.b0 i d ρ with
          | none => rw [hs] at h'; cases h'
          | some ρ1 => rw [hs] at h'; rw [List.length_cons, List.length_cons, ih h']
    exact ⟨a, xs, rfl, Same.seqT fm.sub q1, by rw [q2.length, hl e'], set_many (K := P.K) fm q2 e' k⟩
  | non => cases e
  | bl _ => cases e
  | int _ => cases e
  | str _ => cases e
  | lst _ _ => cases e
  | dct _ _ => cases e
theorem set_len {b0 : Bool} : ∀ {is : List Nat} {ds : List D} {ρ ρ' : Ro}, setMany b0 is ds ρ = some ρ' → ds.length = is.length := by
  intro is
  induction is with
  | nil => intro ds ρ ρ' h; cases ds with
    | nil => rfl
    | cons _ _ => cases h
  | cons i is ih =>
    intro ds ρ ρ' h
    cases ds with
    | nil => cases h
    | cons d ds =>
      have h' : (set0 b0 i d ρ).bind (setMany b0 is ds) = some ρ' := h
      cases hs : set0 b0 i d ρ with
      | none => rw [hs] at h'; cases h'
      | some ρ1 => rw [hs] at h'; rw [List.length_cons, List.length_cons, ih h']
/-- a name, and a tuple of names -/
theorem tg_nest {i j : Nat} {js : List Nat} {x : Str} {es : List Expr} {kk k2 : Nat} {p p1 p2 : Pos} (hK : X.K = P.K) (hc : X.calm = true) (hN : X.N.Nodup) (hi : X.N[i]? = some x) (hx : Loc X.env.scope x) (hf : X.fn x = true ∨ X.env.scope.names.lookup x = some .local) (h : NmOk X es (j :: js)) :
    PG X (.Tuple [.Name x p1, .Tuple es k2 p2] kk p) (TTg P (i :: j :: js) true) := by
  obtain ⟨h1, h2⟩ := nm_each h
  refine PGw (pg_tup hc (pgs_cons (pg_name hN hi hx hf) (pgs_cons (pg_tup hc (pgs_D hN h) h1 h2) pgs_nil rfl) rfl)) fun v σ H Q ⟨ρ, G, d, ρ', fm, r, e, k⟩ => ?_
  rw [hK]
  have e' : setNest P.b0 i (j :: js) d ρ = some ρ' := e
  obtain ⟨x, ys, rfl⟩ : ∃ x ys, d = .tuple [x, .tuple ys] := by
    clear r e
    unfold setNest at e'
    split at e'
    · exact ⟨_, _, rfl⟩
    · cases e'
  have e' : (set0 P.b0 i x ρ).bind (setMany P.b0 (j :: js) ys) = some ρ' := e'
  · cases r with
    | @tup a xs ds q1 q2 =>
      cases q2 with
      | cons r1 r2 =>
        cases r2 with
        | cons r3 r4 =>
          cases r4
          cases r3 with
          | @tup a2 xs2 ds2 q3 q4 =>
            cases hs : set0 P.b0 i x ρ with
            | none => rw [hs] at e'; cases e'
            | some ρ1 =>
              rw [hs] at e'
              have e2 : setMany P.b0 (j :: js) ys ρ1 = some ρ' := e'
              obtain ⟨rfl, h0⟩ := set0_io hs
              refine ⟨a, _, rfl, Same.seqT fm.sub q1, rfl, _, _, rfl, ?_⟩
              have fm2 := fm.set r1 h0
              refine ⟨_, _, rfl, ?_⟩
              refine ⟨a2, xs2, rfl, Same.seqT fm2.sub q3, by rw [q4.length, set_len e2], set_many (K := P.K) fm2 q4 e2 fun σ' fm' hw => ⟨rfl, k σ' fm' fun us hu => ?_⟩⟩
              rw [hw us fun j hj => hu j (List.mem_cons_of_mem _ hj), wipe_set (hu i List.mem_cons_self)]
end
end Ev


set_option Elab.async false
set_option linter.all false
set_option maxRecDepth 100000
set_option maxHeartbeats 2000000
namespace Ev
open PySem PySem.Spec PyProof.Rows L2

/-! ## comprehensions -/
def SameB (P P' : Pm) : Prop := P'.K = P.K ∧ P'.mg = P.mg ∧ P'.io = P.io ∧ P'.cal = P.cal ∧ P'.W = fun _ _ _ _ => False
def Pm.blk (P : Pm) (D : Addr) (v : List V) : Pm := { P with Z := fun b => P.Z b ∨ b = D, H0 := fun b => if b = D then some (.lst v) else P.H0 b, W := fun _ _ _ _ => False }
theorem blk_same (P : Pm) (D : Addr) (v : List V) : SameB P (P.blk D v) := ⟨rfl, rfl, rfl, rfl, rfl⟩
def TB (P : Pm) (c : CE) : TE := fun σ H Q => ∃ P', SameB P P' ∧ T P' c σ H Q
def TBT (P : Pm) (c : Option CE) : TT := fun σ H Q => ∃ P', SameB P P' ∧ ∃ ρ G, P'.Fm ρ G σ H ∧ Out P' (fun _ b d => b = d) G σ (evC P'.cal P'.b0 c ρ) Q
def TBG (P : Pm) (tg : List Nat) (one : Bool) : TG := fun v σ H Q => ∃ P', SameB P P' ∧ TTg P' tg one v σ H Q
/-- what a new list gives that nobody else holds -/
def OutO (P : Pm) (G : Hp) (σ : L2.St) (r : Rs (List D)) (Q : VK) : Prop :=
  match r with
  | .ok ds ρ => ∀ p xs G' H', Same G G' → P.Fm ρ G' σ H' → H' p = some (.lst xs) → G' p = none → ¬ P.Z p → (∀ (i : Nat) (d : D), ρ[i]? = some (some (d, true)) → σ[i]? ≠ some (some (.ref p))) → RpAll P.K G' xs ds → Q (.ref p) H'
  | .er c f ρ => ∀ cls dx G' H', Same G G' → P.Fm ρ G' σ H' → ErrV P c f cls dx G' → P.W cls dx σ H'
  | .bad => False
def TOwn (P : Pm) (r : Ro → Rs (List D)) : TE := fun σ H Q => ∃ ρ G, P.Fm ρ G σ H ∧ OutO P G σ (r ρ) Q
section
variable {P : Pm} {G G' H H' : Hp} {σ : L2.St} {ρ : Ro}
/-- the new list is frozen -/
theorem own_frz {r : Rs (List D)} {Q : VK} (h : Out P (fun G v d => Rp P.K G v d) G σ (r.bind fun ds ρ1 => .ok (.list ds) ρ1) Q) : OutO P G σ r Q := by
  cases r with
  | bad => exact h.elim
  | er c f ρ => exact h
  | ok ds ρ1 =>
    intro p xs G1 H1 s1 fm hp gp zp np rp
    have sn : Same G1 (upd G1 p (.lst xs)) := same_new gp
    refine h (.ref p) (upd G1 p (.lst xs)) H1 (Same.trans s1 sn) ?_ (.lst (Ls.of upd_same) (rp.mono sn))
    refine ⟨fun b o e => ?_, fm.len, fun i d hi => ?_, fun i d hi => ?_, fm.dis, fun b hb => ?_, fm.at0⟩
    · by_cases hb : b = p
      · subst hb
        rw [upd_same] at e
        rw [← e]
        exact hp
      · rw [upd_ne hb] at e
        exact fm.sub _ _ e
    · obtain ⟨v, q1, q2⟩ := fm.un i d hi
      exact ⟨v, q1, q2.mono sn⟩
    · obtain ⟨a, o, q1, q3, q4, q5, q6⟩ := fm.ow i d hi
      have ne : a ≠ p := fun z => np i d hi (by rw [← z]; exact q1)
      exact ⟨a, o, q1, q3, by rw [upd_ne ne]; exact q4, q5, q6.mono sn⟩
    · obtain ⟨q1, q2, q3⟩ := fm.zg b hb
      have ne : b ≠ p := fun z => zp (by rw [← z]; exact hb)
      exact ⟨by rw [upd_ne ne]; exact q1, q2, q3⟩
theorem fm_wipe (fm : P.Fm ρ G σ H) {own : List Nat} (h0 : (P.b0 && own.contains 0) = false) : P.Fm (wipeR ρ own) G (wipe σ own) H where
  sub := fm.sub
  len := by rw [wipeR_length, wipe_length]; exact fm.len
  un := fun i d h => by
    have hi : i ∉ own := fun z => wipeR_in z h
    rw [wipeR_out hi] at h
    rw [wipe_out hi]
    exact fm.un i d h
  ow := fun i d h => by
    have hi : i ∉ own := fun z => wipeR_in z h
    rw [wipeR_out hi] at h
    rw [wipe_out hi]
    exact fm.ow i d h
  dis := fun i j d e a h h' q q' => by
    have hi : i ∉ own := fun z => wipeR_in z h
    have hj : j ∉ own := fun z => wipeR_in z h'
    rw [wipeR_out hi] at h
    rw [wipeR_out hj] at h'
    rw [wipe_out hi] at q
    rw [wipe_out hj] at q'
    exact fm.dis i j d e a h h' q q'
  zg := fm.zg
  at0 := fun a ha => by
    have hb : P.b0 = true := by unfold Pm.b0; rw [show P.io = some a from ha]; rfl
    rw [hb, Bool.true_and] at h0
    rw [wipe_out (fun z => by rw [List.contains_iff_mem.mpr z] at h0; cases h0)]
    exact fm.at0 a ha
theorem fm_blk {D : Addr} {v : List V} (fm : P.Fm ρ G σ H) (hD : H D = some (.lst v)) (gD : G D = none) (zD : ¬ P.Z D) (nD : ∀ (i : Nat) (d : Ev.D), ρ[i]? = some (some (d, true)) → σ[i]? ≠ some (some (.ref D))) : (P.blk D v).Fm ρ G σ H where
  sub := fm.sub
  len := fm.len
  un := fm.un
  ow := fun i d h => by
    obtain ⟨a, o, h1, h3, h4, h5, h6⟩ := fm.ow i d h
    exact ⟨a, o, h1, h3, h4, fun z => by
      rcases z with z | z
      · exact h5 z
      · exact nD i d h (by rw [← z]; exact h1), h6⟩
  dis := fm.dis
  zg := fun b hb => by
    rcases hb with hb | rfl
    · obtain ⟨q1, q2, q3⟩ := fm.zg b hb
      have ne : b ≠ D := fun z => zD (by rw [← z]; exact hb)
      exact ⟨q1, by show H b = if b = D then _ else P.H0 b; rw [if_neg ne]; exact q2, by show (if b = D then _ else P.H0 b) ≠ none; rw [if_neg ne]; exact q3⟩
    · refine ⟨gD, ?_, ?_⟩
      · show H b = if b = b then some (.lst v) else P.H0 b
        rw [if_pos rfl]
        exact hD
      · show (if b = b then some (HO.lst v) else P.H0 b) ≠ none
        rw [if_pos rfl]
        exact fun z => nomatch z
  at0 := fm.at0
theorem blk_at {D : Addr} {v : List V} (fm : (P.blk D v).Fm ρ G σ H) : H D = some (.lst v) ∧ G D = none := by
  obtain ⟨h1, h2, _⟩ := fm.zg D (.inr rfl)
  refine ⟨?_, h1⟩
  rw [h2]
  show (if D = D then some (HO.lst v) else P.H0 D) = _
  rw [if_pos rfl]
theorem blk_app {D : Addr} {v w : List V} (fm : (P.blk D v).Fm ρ G σ H) : (P.blk D w).Fm ρ G σ (upd H D (.lst w)) where
  sub := fun b o e => by
    have gD := (blk_at fm).2
    rw [upd_ne (fun z => by rw [z, gD] at e; cases e)]
    exact fm.sub _ _ e
  len := fm.len
  un := fm.un
  ow := fun i d h => by
    obtain ⟨a, o, h1, h3, h4, h5, h6⟩ := fm.ow i d h
    exact ⟨a, o, h1, by rw [upd_ne (fun z => h5 (.inr z))]; exact h3, h4, h5, h6⟩
  dis := fm.dis
  zg := fun b hb => by
    by_cases e : b = D
    · subst e
      refine ⟨(blk_at fm).2, ?_, ?_⟩
      · show upd H b (.lst w) b = if b = b then some (.lst w) else P.H0 b
        rw [if_pos rfl, upd_same]
      · show (if b = b then some (HO.lst w) else P.H0 b) ≠ none
        rw [if_pos rfl]
        exact fun z => nomatch z
    · obtain ⟨q1, q2, q3⟩ := fm.zg b hb
      have e1 : (P.blk D v).H0 b = P.H0 b := if_neg e
      have e2 : (P.blk D w).H0 b = P.H0 b := if_neg e
      rw [e1] at q2 q3
      exact ⟨q1, by rw [upd_ne e, q2]; exact e2.symm, by show (P.blk D w).H0 b ≠ none; rw [e2]; exact q3⟩
  at0 := fm.at0
theorem backR_length (ρ ρ' : Ro) : ∀ vs : List Nat, (backR ρ ρ' vs).length = ρ'.length
  | [] => rfl
  | v :: vs => by
    unfold backR
    split
    · rw [List.length_set, backR_length ρ ρ' vs]
    · exact backR_length ρ ρ' vs
theorem backR_out {ρ ρ' : Ro} {j : Nat} : ∀ {vs : List Nat}, j ∉ vs → (backR ρ ρ' vs)[j]? = ρ'[j]?
  | [], _ => rfl
  | v :: vs, h => by
    have ne : v ≠ j := fun z => h (by rw [z]; exact List.mem_cons_self)
    have ih := backR_out (ρ := ρ) (ρ' := ρ') (j := j) (vs := vs) fun z => h (List.mem_cons_of_mem _ z)
    unfold backR
    split
    · rw [List.getElem?_set_ne ne]
      exact ih
    · exact ih
theorem backR_in {ρ ρ' : Ro} {j : Nat} (hl : ρ.length = ρ'.length) : ∀ {vs : List Nat}, j ∈ vs → (backR ρ ρ' vs)[j]? = ρ[j]?
  | [], h => by cases h
  | v :: vs, h => by
    unfold backR
    by_cases hv : v = j
    · subst hv
      split
      · rename_i x hx
        have hlt := (List.getElem?_eq_some_iff.mp hx).1
        rw [List.getElem?_set_self (by rw [backR_length, ← hl]; exact hlt), hx]
      · rename_i hx
        rw [hx, List.getElem?_eq_none (by rw [backR_length, ← hl]; exact List.getElem?_eq_none_iff.mp hx)]
    · have ih : (backR ρ ρ' vs)[j]? = ρ[j]? := by
        rcases List.mem_cons.mp h with e | e
        · exact absurd e.symm hv
        · exact backR_in hl e
      split
      · rw [List.getElem?_set_ne hv]
        exact ih
      · exact ih
theorem free_un {ρ : Ro} {own : List Nat} (h : free ρ own = true) {i : Nat} (hi : i ∈ own) {d : Ev.D} : ρ[i]? ≠ some (some (d, true)) := by
  intro z
  unfold free at h
  have := List.all_eq_true.mp h i hi
  rw [z] at this
  cases this
/-- the frame is as before, but for what was lent -/
theorem fm_back {D : Addr} {v : List V} {ρ1 : Ro} {G1 H1 : Hp} {own : List Nat} (fm1 : P.Fm ρ1 G1 σ H1) (s : Same G1 G) (zD : ¬ P.Z D) (fm : (P.blk D v).Fm ρ G (wipe σ own) H) (hf : free ρ1 own = true) (hw : ∀ i ∈ own, ∀ x, ρ[i]? ≠ some (some x)) :
    P.Fm (backR ρ1 ρ own) G σ H ∧ ∀ (i : Nat) (d : Ev.D), (backR ρ1 ρ own)[i]? = some (some (d, true)) → σ[i]? ≠ some (some (.ref D)) := by
  have hl : ρ1.length = ρ.length := by rw [fm1.len, fm.len, wipe_length]
  have look : ∀ {i : Nat} {d : Ev.D}, (backR ρ1 ρ own)[i]? = some (some (d, true)) → i ∉ own ∧ ρ[i]? = some (some (d, true)) := fun {i d} h => by
    by_cases hi : i ∈ own
    · rw [backR_in hl hi] at h
      exact absurd h (free_un hf hi)
    · rw [backR_out hi] at h
      exact ⟨hi, h⟩
  refine ⟨⟨fm.sub, by rw [backR_length, ← hl]; exact fm1.len, fun i d h => ?_, fun i d h => ?_, fun i j d e a h h' q q' => ?_, fun b hb => ?_, fun a ha => fm1.at0 a ha⟩, fun i d h => ?_⟩
  · by_cases hi : i ∈ own
    · rw [backR_in hl hi] at h
      obtain ⟨w, q1, q2⟩ := fm1.un i d h
      exact ⟨w, q1, q2.mono s⟩
    · rw [backR_out hi] at h
      have := fm.un i d h
      rwa [wipe_out hi] at this
  · obtain ⟨hi, h⟩ := look h
    obtain ⟨a, o, q1, q3, q4, q5, q6⟩ := fm.ow i d h
    rw [wipe_out hi] at q1
    exact ⟨a, o, q1, q3, q4, fun z => q5 (.inl z), q6⟩
  · obtain ⟨hi, h⟩ := look h
    obtain ⟨hj, h'⟩ := look h'
    exact fm.dis i j d e a h h' (by rw [wipe_out hi]; exact q) (by rw [wipe_out hj]; exact q')
  · obtain ⟨q1, q2, q3⟩ := fm.zg b (.inl hb)
    have ne : b ≠ D := fun z => zD (by rw [← z]; exact hb)
    have e1 : (P.blk D v).H0 b = P.H0 b := if_neg ne
    rw [e1] at q2 q3
    exact ⟨q1, q2, q3⟩
  · obtain ⟨hi, h⟩ := look h
    obtain ⟨a, o, q1, q3, q4, q5, q6⟩ := fm.ow i d h
    rw [wipe_out hi] at q1
    rw [q1]
    exact fun z => q5 (.inr (by cases z; rfl))
end
def evComp (cal : Cal) (b0 : Bool) (kind : Nat) (its : List CE) (tg : List Nat) (one : Bool) (own : List Nat) (cnd : Option CE) (elt : CE) (ρ : Ro) : Rs (List D) := (evA cal b0 its ρ).bind fun ds ρ1 => match itemsD kind ds with
  | none => .bad
  | some xs => if (free ρ1 own && !(b0 && own.contains 0) && tg.all own.contains) = true then
      (compL (setTg b0 tg one) own (evC cal b0 cnd) (ev cal b0 elt) xs (wipeR ρ1 own) []).bind fun acc ρ2 => .ok acc (backR ρ1 ρ2 own)
    else .bad
theorem ev_comp {cal : Cal} {b0 : Bool} {kind : Nat} {its : List CE} {tg : List Nat} {one : Bool} {own : List Nat} {cnd : Option CE} {elt : CE} {ρ : Ro} :
    ev cal b0 (.comp kind its tg one own cnd elt) ρ = (evComp cal b0 kind its tg one own cnd elt ρ).bind fun acc ρ' => .ok (.list acc) ρ' := by
  unfold evComp
  simp only [ev, Rs.assoc]
  cases evA cal b0 its ρ with
  | bad => rfl
  | er _ _ _ => rfl
  | ok ds ρ1 =>
    simp only [Rs.bind_ok]
    cases itemsD kind ds with
    | none => rfl
    | some xs =>
      simp only
      split
      · simp only [Rs.assoc, Rs.bind_ok]
      · rfl
theorem comp_own {P : Pm} {kind : Nat} {its : List CE} {tg : List Nat} {one : Bool} {own : List Nat} {cnd : Option CE} {elt : CE} {σ : L2.St} {H : Hp} {Q : VK} (h : TOwn P (evComp P.cal P.b0 kind its tg one own cnd elt) σ H Q) :
    tLc (TIt P kind its) (TBG P tg one) (TBT P cnd) (TB P elt) own σ H Q := by
  obtain ⟨ρ, G, fm, h⟩ := h
  refine ⟨ρ, G, fm, ?_⟩
  unfold evComp at h
  cases hA : evA P.cal P.b0 its ρ with
  | bad => rw [hA] at h; exact h.elim
  | er c f ρ' => rw [hA] at h; exact h
  | ok ds ρ1 =>
  rw [hA] at h
  simp only [Rs.bind_ok] at h ⊢
  cases hI : itemsD kind ds with
  | none => rw [hI] at h; exact h.elim
  | some xs =>
  rw [hI] at h
  simp only at h
  split at h
  case isFalse => exact h.elim
  case isTrue hc =>
  rw [Bool.and_eq_true, Bool.and_eq_true] at hc
  obtain ⟨⟨hfree, h0⟩, htg⟩ := hc
  have h0' : (P.b0 && own.contains 0) = false := by
    cases hq : (P.b0 && own.contains 0) with
    | false => rfl
    | true => rw [hq] at h0; cases h0
  intro J G1 H1 s1 fm1 wk Dp hD
  generalize hr : compL (setTg P.b0 tg one) own (evC P.cal P.b0 cnd) (ev P.cal P.b0 elt) xs (wipeR ρ1 own) [] = r at h
  have zD : ¬ P.Z Dp := fun z => by
    obtain ⟨_, q2, q3⟩ := fm1.zg Dp z
    rw [hD] at q2
    exact q3 q2.symm
  have gD1 : G1 Dp = none := Same.none fm1.sub hD
  refine ⟨fun i m Hc => m = xs.length - i ∧ i ≤ xs.length ∧ ∃ ρi Gi vacc acc, Same G1 Gi ∧ RpAll P.K Gi vacc acc ∧ (P.blk Dp vacc).Fm ρi Gi (wipe σ own) Hc ∧ (∀ j ∈ own, ∀ x, ρi[j]? ≠ some (some x)) ∧
    compL (setTg P.b0 tg one) own (evC P.cal P.b0 cnd) (ev P.cal P.b0 elt) (xs.drop i) ρi acc = r, ⟨xs.length, by simp, Nat.zero_le _, wipeR ρ1 own, G1, [], [], Same.refl _, .nil, ?_, fun j hj x => wipeR_in hj, by simpa using hr⟩, ?_⟩
  · have f2 := (fm_wipe fm1 h0').ext (Ext.hid (o := .lst []) fm1.sub hD)
    refine fm_blk f2 upd_same gD1 zD fun i d hi => ?_
    obtain ⟨a, o, q1, q3, q4, q5, q6⟩ := (fm_wipe fm1 h0').ow i d hi
    rw [q1]
    intro z
    cases z
    rw [hD] at q3
    cases q3
  · rintro i m Hc ⟨rfl, hi, ρi, Gi, vacc, acc, sGi, rac, fmi, hwi, hcl⟩
    obtain ⟨wgo, wst⟩ := wk Gi Hc sGi fmi.sub
    by_cases hlt : i < xs.length
    · right
      have hx : xs[i]? = some xs[i] := List.getElem?_eq_getElem hlt
      obtain ⟨go, yl⟩ := wgo i _ hx
      rw [List.drop_eq_getElem_cons hlt] at hcl
      have rbad : r ≠ .bad := fun z => by rw [z] at h; exact h
      refine ⟨go, fun Hn => ∃ ρn Gn vn an, Same G1 Gn ∧ RpAll P.K Gn vn an ∧ (P.blk Dp vn).Fm ρn Gn (wipe σ own) Hn ∧ (∀ j ∈ own, ∀ x, ρn[j]? ≠ some (some x)) ∧
        compL (setTg P.b0 tg one) own (evC P.cal P.b0 cnd) (ev P.cal P.b0 elt) (xs.drop (i + 1)) ρn an = r, fun H' ⟨ρn, Gn, vn, an, q1, q2, q3, q4, q5⟩ => ⟨xs.length - (i + 1), by omega, rfl, hlt, ρn, Gn, vn, an, q1, q2, q3, q4, q5⟩, fun x H2 hy => ?_⟩
      obtain ⟨G2, ex, rx⟩ := yl x H2 hy
      unfold compL at hcl
      cases hs : setTg P.b0 tg one xs[i] ρi with
      | none => rw [hs] at hcl; exact absurd hcl.symm rbad
      | some ρ' =>
      rw [hs] at hcl
      simp only at hcl
      refine ⟨P.blk Dp vacc, blk_same _ _ _, ρi, G2, xs[i], ρ', fmi.ext ex, rx, hs, fun σ2 fm2 hw => ?_⟩
      have hwσ : wipe σ2 own = wipe σ own := by
        rw [hw own fun j hj => by simpa using List.all_eq_true.mp htg j hj, wipe_wipe]
      refine ⟨hwσ, P.blk Dp vacc, blk_same _ _ _, ρ', G2, fm2, ?_⟩
      cases hC : evC P.cal P.b0 cnd ρ' with
      | bad => rw [hC] at hcl; exact absurd hcl.symm rbad
      | er c f ρ3 => rw [hC] at hcl; exact absurd hcl.symm rbad
      | ok b ρ3 =>
      rw [hC] at hcl
      simp only [noEr, Rs.bind_ok] at hcl
      have hC' : evC (P.blk Dp vacc).cal (P.blk Dp vacc).b0 cnd ρ' = .ok b ρ3 := hC
      rw [hC']
      intro b' G3 H3 s3 fm3 eb
      have eb' : b' = b := eb
      subst eb'
      cases b' with
      | false =>
        rw [if_neg Bool.false_ne_true] at hcl ⊢
        refine ⟨wipeR ρ3 own, G3, vacc, acc, Same.trans sGi (Same.trans ex.g s3), (rac.mono ex.g).mono s3, ?_, fun j hj x => wipeR_in hj, hcl⟩
        have := fm_wipe fm3 (own := own) h0'
        rwa [hwσ] at this
      | true =>
        rw [if_pos rfl] at hcl ⊢
        refine ⟨P.blk Dp vacc, blk_same _ _ _, ρ3, G3, fm3, ?_⟩
        cases hE : ev P.cal P.b0 elt ρ3 with
        | bad => rw [hE] at hcl; exact absurd hcl.symm rbad
        | er c f ρ4 => rw [hE] at hcl; exact absurd hcl.symm rbad
        | ok d ρ4 =>
        rw [hE] at hcl
        simp only [noEr, Rs.bind_ok] at hcl
        have hE' : ev (P.blk Dp vacc).cal (P.blk Dp vacc).b0 elt ρ3 = .ok d ρ4 := hE
        rw [hE']
        intro y G4 H4 s4 fm4 ry
        split at hcl
        case isFalse => exact absurd hcl.symm rbad
        case isTrue hl =>
        refine ⟨vacc, (blk_at fm4).1, ?_, wipeR ρ4 own, G4, vacc ++ [y], acc ++ [d], Same.trans sGi (Same.trans ex.g (Same.trans s3 s4)), (((rac.mono ex.g).mono s3).mono s4).snoc ry, ?_, fun j hj x => wipeR_in hj, hcl⟩
        · rw [rac.length]
          exact Nat.lt_of_lt_of_le hl (lim_le (Nat.le_refl _))
        · have := fm_wipe (blk_app (w := vacc ++ [y]) fm4) (own := own) h0'
          rwa [hwσ] at this
    · left
      have e : i = xs.length := by omega
      subst e
      refine ⟨wst, ?_⟩
      rw [List.drop_length] at hcl
      simp only [compL] at hcl
      subst hcl
      simp only [Rs.bind_ok] at h
      obtain ⟨f1, f2⟩ := fm_back fm1 sGi zD fmi hfree hwi
      obtain ⟨b1, b2⟩ := blk_at fmi
      exact h Dp vacc Gi Hc (Same.trans s1 sGi) f1 b1 b2 zD f2 rac
/-! ## two for-clauses -/
def TBI (P : Pm) (kind : Nat) (cs : List CE) : TI := fun σ H R => ∃ P', SameB P P' ∧ TIt P' kind cs σ H R
def evCmp2 (cal : Cal) (b0 : Bool) (k1 : Nat) (its1 : List CE) (tg1 : List Nat) (one1 : Bool) (own : List Nat) (cnd1 : Option CE) (k2 : Nat) (its2 : List CE) (tg2 : List Nat) (one2 : Bool) (cnd2 : Option CE) (elt : CE) (ρ : Ro) : Rs (List D) := (evA cal b0 its1 ρ).bind fun ds ρ1 => match itemsD k1 ds with
  | none => .bad
  | some xs => if (free ρ1 own && !(b0 && own.contains 0) && tg1.all own.contains && tg2.all own.contains) = true then
      (compL2 (setTg b0 tg1 one1) own (evC cal b0 cnd1) (fun ρ => (evA cal b0 its2 ρ).bind fun ds ρ1 => ofO (itemsD k2 ds) ρ1) tg2 (compL (setTg b0 tg2 one2) tg2 (evC cal b0 cnd2) (ev cal b0 elt)) xs (wipeR ρ1 own) []).bind fun acc ρ2 => .ok acc (backR ρ1 ρ2 own)
    else .bad
theorem ev_cmp2 {cal : Cal} {b0 : Bool} {k1 : Nat} {its1 : List CE} {tg1 : List Nat} {one1 : Bool} {own : List Nat} {cnd1 : Option CE} {k2 : Nat} {its2 : List CE} {tg2 : List Nat} {one2 : Bool} {cnd2 : Option CE} {elt : CE} {ρ : Ro} :
    ev cal b0 (.cmp2 k1 its1 tg1 one1 own cnd1 k2 its2 tg2 one2 cnd2 elt) ρ = (evCmp2 cal b0 k1 its1 tg1 one1 own cnd1 k2 its2 tg2 one2 cnd2 elt ρ).bind fun acc ρ' => .ok (.list acc) ρ' := by
  unfold evCmp2
  simp only [ev, Rs.assoc]
  cases evA cal b0 its1 ρ with
  | bad => rfl
  | er _ _ _ => rfl
  | ok ds ρ1 =>
    simp only [Rs.bind_ok]
    cases itemsD k1 ds with
    | none => rfl
    | some xs =>
      simp only
      split
      · simp only [Rs.assoc, Rs.bind_ok]
      · rfl
theorem wipe_sub {σ : L2.St} {vs own : List Nat} (h : ∀ i ∈ vs, i ∈ own) : wipe (wipe σ vs) own = wipe σ own := by
  refine List.ext_getElem? fun i => ?_
  by_cases hi : i ∈ own
  · have key : ∀ τ : L2.St, τ.length = σ.length → (wipe τ own)[i]? = if i < σ.length then some none else none := fun τ hl => by
      split
      · rename_i hlt
        have h1 : i < (wipe τ own).length := by rw [wipe_length]; omega
        rw [List.getElem?_eq_getElem h1]
        cases hq : (wipe τ own)[i] with
        | none => rfl
        | some x => exact absurd hi (wipe_some (x := x) (by rw [List.getElem?_eq_getElem h1, hq])).2
      · exact List.getElem?_eq_none (by rw [wipe_length]; omega)
    rw [key _ (by rw [wipe_length]), key _ rfl]
  · rw [wipe_out hi, wipe_out hi, wipe_out fun z => hi (h i z)]
theorem comp2_own {P : Pm} {k1 : Nat} {its1 : List CE} {tg1 : List Nat} {one1 : Bool} {own : List Nat} {cnd1 : Option CE} {k2 : Nat} {its2 : List CE} {tg2 : List Nat} {one2 : Bool} {cnd2 : Option CE} {elt : CE} {σ : L2.St} {H : Hp} {Q : VK}
    (h : TOwn P (evCmp2 P.cal P.b0 k1 its1 tg1 one1 own cnd1 k2 its2 tg2 one2 cnd2 elt) σ H Q) :
    tLc2 (TIt P k1 its1) (TBG P tg1 one1) (TBT P cnd1) (TBI P k2 its2) (TBG P tg2 one2) (TBT P cnd2) (TB P elt) own tg2 σ H Q := by
  obtain ⟨ρ, G, fm, h⟩ := h
  refine ⟨ρ, G, fm, ?_⟩
  unfold evCmp2 at h
  cases hA : evA P.cal P.b0 its1 ρ with
  | bad => rw [hA] at h; exact h.elim
  | er c f ρ' => rw [hA] at h; exact h
  | ok ds ρ1 =>
  rw [hA] at h
  simp only [Rs.bind_ok] at h ⊢
  cases hI : itemsD k1 ds with
  | none => rw [hI] at h; exact h.elim
  | some xs =>
  rw [hI] at h
  simp only at h
  split at h
  case isFalse => exact h.elim
  case isTrue hc =>
  rw [Bool.and_eq_true, Bool.and_eq_true, Bool.and_eq_true] at hc
  obtain ⟨⟨⟨hfree, h0⟩, htg⟩, htg2⟩ := hc
  have h0' : (P.b0 && own.contains 0) = false := by
    cases hq : (P.b0 && own.contains 0) with
    | false => rfl
    | true => rw [hq] at h0; cases h0
  have in1 : ∀ j ∈ tg1, j ∈ own := fun j hj => by simpa using List.all_eq_true.mp htg j hj
  have in2 : ∀ j ∈ tg2, j ∈ own := fun j hj => by simpa using List.all_eq_true.mp htg2 j hj
  have h02 : (P.b0 && tg2.contains 0) = false := by
    cases hq : P.b0 with
    | false => rfl
    | true =>
      rw [hq] at h0'
      cases hz : tg2.contains 0 with
      | false => rfl
      | true =>
        have := in2 0 (by simpa using hz)
        rw [show own.contains 0 = true by simpa using this] at h0'
        cases h0'
  intro J G1 H1 s1 fm1 wk Dp hD
  generalize hL : compL (setTg P.b0 tg2 one2) tg2 (evC P.cal P.b0 cnd2) (ev P.cal P.b0 elt) = inner at h
  generalize hr : compL2 (setTg P.b0 tg1 one1) own (evC P.cal P.b0 cnd1) (fun ρ => (evA P.cal P.b0 its2 ρ).bind fun ds ρ1 => ofO (itemsD k2 ds) ρ1) tg2 inner xs (wipeR ρ1 own) [] = r at h
  have zD : ¬ P.Z Dp := fun z => by
    obtain ⟨_, q2, q3⟩ := fm1.zg Dp z
    rw [hD] at q2
    exact q3 q2.symm
  have gD1 : G1 Dp = none := Same.none fm1.sub hD
  refine ⟨fun i m Hc => m = xs.length - i ∧ i ≤ xs.length ∧ ∃ ρi Gi vacc acc, Same G1 Gi ∧ RpAll P.K Gi vacc acc ∧ (P.blk Dp vacc).Fm ρi Gi (wipe σ own) Hc ∧ (∀ j ∈ own, ∀ x, ρi[j]? ≠ some (some x)) ∧
    compL2 (setTg P.b0 tg1 one1) own (evC P.cal P.b0 cnd1) (fun ρ => (evA P.cal P.b0 its2 ρ).bind fun ds ρ1 => ofO (itemsD k2 ds) ρ1) tg2 inner (xs.drop i) ρi acc = r, ⟨xs.length, by simp, Nat.zero_le _, wipeR ρ1 own, G1, [], [], Same.refl _, .nil, ?_, fun j hj x => wipeR_in hj, by simpa using hr⟩, ?_⟩
  · have f2 := (fm_wipe fm1 h0').ext (Ext.hid (o := .lst []) fm1.sub hD)
    refine fm_blk f2 upd_same gD1 zD fun i d hi => ?_
    obtain ⟨a, o, q1, q3, q4, q5, q6⟩ := (fm_wipe fm1 h0').ow i d hi
    rw [q1]
    intro z
    cases z
    rw [hD] at q3
    cases q3
  · rintro i m Hc ⟨rfl, hi, ρi, Gi, vacc, acc, sGi, rac, fmi, hwi, hcl⟩
    obtain ⟨wgo, wst⟩ := wk Gi Hc sGi fmi.sub
    by_cases hlt : i < xs.length
    · right
      have hx : xs[i]? = some xs[i] := List.getElem?_eq_getElem hlt
      obtain ⟨go, yl⟩ := wgo i _ hx
      rw [List.drop_eq_getElem_cons hlt] at hcl
      have rbad : r ≠ .bad := fun z => by rw [z] at h; exact h
      refine ⟨go, fun Hn => ∃ ρn Gn vn an, Same G1 Gn ∧ RpAll P.K Gn vn an ∧ (P.blk Dp vn).Fm ρn Gn (wipe σ own) Hn ∧ (∀ j ∈ own, ∀ x, ρn[j]? ≠ some (some x)) ∧
        compL2 (setTg P.b0 tg1 one1) own (evC P.cal P.b0 cnd1) (fun ρ => (evA P.cal P.b0 its2 ρ).bind fun ds ρ1 => ofO (itemsD k2 ds) ρ1) tg2 inner (xs.drop (i + 1)) ρn an = r, fun H' ⟨ρn, Gn, vn, an, q1, q2, q3, q4, q5⟩ => ⟨xs.length - (i + 1), by omega, rfl, hlt, ρn, Gn, vn, an, q1, q2, q3, q4, q5⟩, fun x H2 hy => ?_⟩
      obtain ⟨G2, ex, rx⟩ := yl x H2 hy
      unfold compL2 at hcl
      cases hs : setTg P.b0 tg1 one1 xs[i] ρi with
      | none => rw [hs] at hcl; exact absurd hcl.symm rbad
      | some ρ' =>
      rw [hs] at hcl
      simp only at hcl
      refine ⟨P.blk Dp vacc, blk_same _ _ _, ρi, G2, xs[i], ρ', fmi.ext ex, rx, hs, fun σ2 fm2 hw => ?_⟩
      have hwσ : wipe σ2 own = wipe σ own := by
        rw [hw own in1, wipe_wipe]
      refine ⟨hwσ, P.blk Dp vacc, blk_same _ _ _, ρ', G2, fm2, ?_⟩
      cases hC : evC P.cal P.b0 cnd1 ρ' with
      | bad => rw [hC] at hcl; exact absurd hcl.symm rbad
      | er c f ρ3 => rw [hC] at hcl; exact absurd hcl.symm rbad
      | ok b ρ3 =>
      rw [hC] at hcl
      simp only [noEr, Rs.bind_ok] at hcl
      have hC' : evC (P.blk Dp vacc).cal (P.blk Dp vacc).b0 cnd1 ρ' = .ok b ρ3 := hC
      rw [hC']
      intro b' G3 H3 s3 fm3 eb
      have eb' : b' = b := eb
      subst eb'
      cases b' with
      | false =>
        rw [if_neg Bool.false_ne_true] at hcl ⊢
        refine ⟨wipeR ρ3 own, G3, vacc, acc, Same.trans sGi (Same.trans ex.g s3), (rac.mono ex.g).mono s3, ?_, fun j hj x => wipeR_in hj, hcl⟩
        have := fm_wipe fm3 (own := own) h0'
        rwa [hwσ] at this
      | true =>
        rw [if_pos rfl] at hcl ⊢
        refine ⟨P.blk Dp vacc, blk_same _ _ _, ρ3, G3, fm3, ?_⟩
        show Out (P.blk Dp vacc) _ G3 σ2 ((evA P.cal P.b0 its2 ρ3).bind fun ds ρ1 => ofO (itemsD k2 ds) ρ1) _
        cases hB : (evA P.cal P.b0 its2 ρ3).bind fun ds ρ1 => ofO (itemsD k2 ds) ρ1 with
        | bad => rw [hB] at hcl; exact absurd hcl.symm rbad
        | er c f ρ4 => rw [hB] at hcl; exact absurd hcl.symm rbad
        | ok ys ρ4 =>
        rw [hB] at hcl
        simp only [noEr, Rs.bind_ok] at hcl
        intro J1 G4 H4 s4 fm4 wk1
        generalize hr2 : inner ys (wipeR ρ4 tg2) acc = r2 at hcl
        have r2bad : ∃ a' ρ5, r2 = .ok a' ρ5 := by
          cases r2 with
          | bad => exact absurd hcl.symm rbad
          | er c f ρ5 => rw [← hcl] at h; exact (by
              have hE : ∀ {ys : List D} {ρ : Ro} {acc : List D} {c : Str} {f : Option (Str × D)} {ρ' : Ro}, compL (setTg P.b0 tg2 one2) tg2 (evC P.cal P.b0 cnd2) (ev P.cal P.b0 elt) ys ρ acc ≠ .er c f ρ' := by
                intro ys
                induction ys with
                | nil => intro ρ acc c f ρ' z; simp only [compL] at z; cases z
                | cons y ys ih =>
                  intro ρ acc c f ρ' z
                  unfold compL at z
                  split at z
                  · cases z
                  · rename_i ρa _
                    cases hcc : evC P.cal P.b0 cnd2 ρa with
                    | bad => rw [hcc] at z; cases z
                    | er _ _ _ => rw [hcc] at z; cases z
                    | ok bb ρb =>
                      rw [hcc] at z
                      simp only [noEr, Rs.bind_ok] at z
                      split at z
                      · cases hee : ev P.cal P.b0 elt ρb with
                        | bad => rw [hee] at z; cases z
                        | er _ _ _ => rw [hee] at z; cases z
                        | ok dd ρc =>
                          rw [hee] at z
                          simp only [noEr, Rs.bind_ok] at z
                          split at z
                          · exact ih z
                          · cases z
                      · exact ih z
              rw [← hL] at hr2
              exact absurd hr2 hE)
          | ok a' ρ5 => exact ⟨a', ρ5, rfl⟩
        obtain ⟨a', ρ5, rfl⟩ := r2bad
        simp only [Rs.bind_ok] at hcl
        refine ⟨fun j k Hj => k = ys.length - j ∧ j ≤ ys.length ∧ ∃ ρj Gj vj aj, Same G4 Gj ∧ RpAll P.K Gj vj aj ∧ (P.blk Dp vj).Fm ρj Gj (wipe σ2 tg2) Hj ∧ inner (ys.drop j) ρj aj = .ok a' ρ5, ⟨ys.length, by simp, Nat.zero_le _, wipeR ρ4 tg2, G4, vacc, acc, Same.refl _, ((rac.mono ex.g).mono s3).mono s4, fm_wipe fm4 h02, by simpa using hr2⟩, ?_⟩
        rintro j k Hj ⟨rfl, hj, ρj, Gj, vj, aj, sGj, raj, fmj, hij⟩
        obtain ⟨wgo1, wst1⟩ := wk1 Gj Hj sGj fmj.sub
        by_cases hlt1 : j < ys.length
        · right
          have hy1 : ys[j]? = some ys[j] := List.getElem?_eq_getElem hlt1
          obtain ⟨go1, yl1⟩ := wgo1 j _ hy1
          rw [List.drop_eq_getElem_cons hlt1, ← hL] at hij
          refine ⟨go1, fun Hn => ∃ ρn Gn vn an, Same G4 Gn ∧ RpAll P.K Gn vn an ∧ (P.blk Dp vn).Fm ρn Gn (wipe σ2 tg2) Hn ∧ inner (ys.drop (j + 1)) ρn an = .ok a' ρ5, fun H' ⟨ρn, Gn, vn, an, q1, q2, q3, q4⟩ => ⟨ys.length - (j + 1), by omega, rfl, hlt1, ρn, Gn, vn, an, q1, q2, q3, q4⟩, fun x1 H5 hyy => ?_⟩
          obtain ⟨G5, ex5, rx5⟩ := yl1 x1 H5 hyy
          unfold compL at hij
          cases hs1 : setTg P.b0 tg2 one2 ys[j] ρj with
          | none => rw [hs1] at hij; cases hij
          | some ρ6 =>
          rw [hs1] at hij
          simp only at hij
          refine ⟨P.blk Dp vj, blk_same _ _ _, ρj, G5, ys[j], ρ6, fmj.ext ex5, rx5, hs1, fun σ3 fm6 hw6 => ?_⟩
          have hwσ3 : wipe σ3 tg2 = wipe σ2 tg2 := by
            rw [hw6 tg2 (fun _ z => z), wipe_wipe]
          refine ⟨hwσ3, P.blk Dp vj, blk_same _ _ _, ρ6, G5, fm6, ?_⟩
          cases hC2 : evC P.cal P.b0 cnd2 ρ6 with
          | bad => rw [hC2] at hij; cases hij
          | er c f ρ7 => rw [hC2] at hij; cases hij
          | ok b2 ρ7 =>
          rw [hC2] at hij
          simp only [noEr, Rs.bind_ok] at hij
          have hC2' : evC (P.blk Dp vj).cal (P.blk Dp vj).b0 cnd2 ρ6 = .ok b2 ρ7 := hC2
          rw [hC2']
          intro b2' G7 H7 s7 fm7 eb2
          have eb2' : b2' = b2 := eb2
          subst eb2'
          cases b2' with
          | false =>
            rw [if_neg Bool.false_ne_true] at hij ⊢
            refine ⟨wipeR ρ7 tg2, G7, vj, aj, Same.trans sGj (Same.trans ex5.g s7), (raj.mono ex5.g).mono s7, ?_, by rw [← hL]; exact hij⟩
            have := fm_wipe fm7 (own := tg2) h02
            rwa [hwσ3] at this
          | true =>
            rw [if_pos rfl] at hij ⊢
            refine ⟨P.blk Dp vj, blk_same _ _ _, ρ7, G7, fm7, ?_⟩
            cases hE : ev P.cal P.b0 elt ρ7 with
            | bad => rw [hE] at hij; cases hij
            | er c f ρ8 => rw [hE] at hij; cases hij
            | ok d ρ8 =>
            rw [hE] at hij
            simp only [noEr, Rs.bind_ok] at hij
            have hE' : ev (P.blk Dp vj).cal (P.blk Dp vj).b0 elt ρ7 = .ok d ρ8 := hE
            rw [hE']
            intro y G8 H8 s8 fm8 ry
            split at hij
            case isFalse => cases hij
            case isTrue hl =>
            refine ⟨vj, (blk_at fm8).1, ?_, wipeR ρ8 tg2, G8, vj ++ [y], aj ++ [d], Same.trans sGj (Same.trans ex5.g (Same.trans s7 s8)), (((raj.mono ex5.g).mono s7).mono s8).snoc ry, ?_, by rw [← hL]; exact hij⟩
            · rw [raj.length]
              exact Nat.lt_of_lt_of_le hl (lim_le (Nat.le_refl _))
            · have := fm_wipe (blk_app (w := vj ++ [y]) fm8) (own := tg2) h02
              rwa [hwσ3] at this
        · left
          have e : j = ys.length := by omega
          subst e
          refine ⟨wst1, ?_⟩
          rw [List.drop_length, ← hL] at hij
          simp only [compL] at hij
          cases hij
          refine ⟨wipeR ρ5 own, Gj, vj, a', Same.trans sGi (Same.trans ex.g (Same.trans s3 (Same.trans s4 sGj))), raj, ?_, fun j hj x => wipeR_in hj, hcl⟩
          have := fm_wipe fmj (own := own) h0'
          rwa [wipe_sub in2, hwσ] at this
    · left
      have e : i = xs.length := by omega
      subst e
      refine ⟨wst, ?_⟩
      rw [List.drop_length] at hcl
      simp only [compL2] at hcl
      subst hcl
      simp only [Rs.bind_ok] at h
      obtain ⟨f1, f2⟩ := fm_back fm1 sGi zD fmi hfree hwi
      obtain ⟨b1, b2⟩ := blk_at fmi
      exact h Dp vacc Gi Hc (Same.trans s1 sGi) f1 b1 b2 zD f2 rac
/-! ## dict comprehensions -/
def Pm.blkO (P : Pm) (D : Addr) (o : HO) : Pm := { P with Z := fun b => P.Z b ∨ b = D, H0 := fun b => if b = D then some o else P.H0 b, W := fun _ _ _ _ => False }
theorem blkO_same (P : Pm) (D : Addr) (o : HO) : SameB P (P.blkO D o) := ⟨rfl, rfl, rfl, rfl, rfl⟩
section
variable {P : Pm} {G G' H H' : Hp} {σ : L2.St} {ρ : Ro}
theorem fm_blkO {D : Addr} {o : HO} (fm : P.Fm ρ G σ H) (hD : H D = some o) (gD : G D = none) (zD : ¬ P.Z D) (nD : ∀ (i : Nat) (d : Ev.D), ρ[i]? = some (some (d, true)) → σ[i]? ≠ some (some (.ref D))) : (P.blkO D o).Fm ρ G σ H where
  sub := fm.sub
  len := fm.len
  un := fm.un
  ow := fun i d h => by
    obtain ⟨a, u, h1, h3, h4, h5, h6⟩ := fm.ow i d h
    exact ⟨a, u, h1, h3, h4, fun z => by
      rcases z with z | z
      · exact h5 z
      · exact nD i d h (by rw [← z]; exact h1), h6⟩
  dis := fm.dis
  zg := fun b hb => by
    rcases hb with hb | rfl
    · obtain ⟨q1, q2, q3⟩ := fm.zg b hb
      have ne : b ≠ D := fun z => zD (by rw [← z]; exact hb)
      exact ⟨q1, by show H b = if b = D then _ else P.H0 b; rw [if_neg ne]; exact q2, by show (if b = D then _ else P.H0 b) ≠ none; rw [if_neg ne]; exact q3⟩
    · refine ⟨gD, ?_, ?_⟩
      · show H b = if b = b then some o else P.H0 b
        rw [if_pos rfl]
        exact hD
      · show (if b = b then some o else P.H0 b) ≠ none
        rw [if_pos rfl]
        exact fun z => nomatch z
  at0 := fm.at0
theorem blkO_at {D : Addr} {o : HO} (fm : (P.blkO D o).Fm ρ G σ H) : H D = some o ∧ G D = none := by
  obtain ⟨h1, h2, _⟩ := fm.zg D (.inr rfl)
  refine ⟨?_, h1⟩
  rw [h2]
  show (if D = D then some o else P.H0 D) = _
  rw [if_pos rfl]
theorem blkO_put {D : Addr} {o u : HO} (fm : (P.blkO D o).Fm ρ G σ H) : (P.blkO D u).Fm ρ G σ (upd H D u) where
  sub := fun b x e => by
    have gD := (blkO_at fm).2
    rw [upd_ne (fun z => by rw [z, gD] at e; cases e)]
    exact fm.sub _ _ e
  len := fm.len
  un := fm.un
  ow := fun i d h => by
    obtain ⟨a, x, h1, h3, h4, h5, h6⟩ := fm.ow i d h
    exact ⟨a, x, h1, by rw [upd_ne (fun z => h5 (.inr z))]; exact h3, h4, h5, h6⟩
  dis := fm.dis
  zg := fun b hb => by
    by_cases e : b = D
    · subst e
      refine ⟨(blkO_at fm).2, ?_, ?_⟩
      · show upd H b u b = if b = b then some u else P.H0 b
        rw [if_pos rfl, upd_same]
      · show (if b = b then some u else P.H0 b) ≠ none
        rw [if_pos rfl]
        exact fun z => nomatch z
    · obtain ⟨q1, q2, q3⟩ := fm.zg b hb
      have e1 : (P.blkO D o).H0 b = P.H0 b := if_neg e
      have e2 : (P.blkO D u).H0 b = P.H0 b := if_neg e
      rw [e1] at q2 q3
      exact ⟨q1, by rw [upd_ne e, q2]; exact e2.symm, by show (P.blkO D u).H0 b ≠ none; rw [e2]; exact q3⟩
  at0 := fm.at0
theorem fm_backO {D : Addr} {o : HO} {ρ1 : Ro} {G1 H1 : Hp} {own : List Nat} (fm1 : P.Fm ρ1 G1 σ H1) (s : Same G1 G) (zD : ¬ P.Z D) (fm : (P.blkO D o).Fm ρ G (wipe σ own) H) (hf : free ρ1 own = true) (hw : ∀ i ∈ own, ∀ x, ρ[i]? ≠ some (some x)) :
    P.Fm (backR ρ1 ρ own) G σ H ∧ ∀ (i : Nat) (d : Ev.D), (backR ρ1 ρ own)[i]? = some (some (d, true)) → σ[i]? ≠ some (some (.ref D)) := by
  have hl : ρ1.length = ρ.length := by rw [fm1.len, fm.len, wipe_length]
  have look : ∀ {i : Nat} {d : Ev.D}, (backR ρ1 ρ own)[i]? = some (some (d, true)) → i ∉ own ∧ ρ[i]? = some (some (d, true)) := fun {i d} h => by
    by_cases hi : i ∈ own
    · rw [backR_in hl hi] at h
      exact absurd h (free_un hf hi)
    · rw [backR_out hi] at h
      exact ⟨hi, h⟩
  refine ⟨⟨fm.sub, by rw [backR_length, ← hl]; exact fm1.len, fun i d h => ?_, fun i d h => ?_, fun i j d e a h h' q q' => ?_, fun b hb => ?_, fun a ha => fm1.at0 a ha⟩, fun i d h => ?_⟩
  · by_cases hi : i ∈ own
    · rw [backR_in hl hi] at h
      obtain ⟨w, q1, q2⟩ := fm1.un i d h
      exact ⟨w, q1, q2.mono s⟩
    · rw [backR_out hi] at h
      have := fm.un i d h
      rwa [wipe_out hi] at this
  · obtain ⟨hi, h⟩ := look h
    obtain ⟨a, x, q1, q3, q4, q5, q6⟩ := fm.ow i d h
    rw [wipe_out hi] at q1
    exact ⟨a, x, q1, q3, q4, fun z => q5 (.inl z), q6⟩
  · obtain ⟨hi, h⟩ := look h
    obtain ⟨hj, h'⟩ := look h'
    exact fm.dis i j d e a h h' (by rw [wipe_out hi]; exact q) (by rw [wipe_out hj]; exact q')
  · obtain ⟨q1, q2, q3⟩ := fm.zg b (.inl hb)
    have ne : b ≠ D := fun z => zD (by rw [← z]; exact hb)
    have e1 : (P.blkO D o).H0 b = P.H0 b := if_neg ne
    rw [e1] at q2 q3
    exact ⟨q1, q2, q3⟩
  · obtain ⟨hi, h⟩ := look h
    obtain ⟨a, x, q1, q3, q4, q5, q6⟩ := fm.ow i d h
    rw [wipe_out hi] at q1
    rw [q1]
    exact fun z => q5 (.inr (by cases z; rfl))
end
def dcpL (st : D → Ro → Option Ro) (own : List Nat) (cnd : Ro → Rs Bool) (kx vx : Ro → Rs D) : List D → Ro → List (D × D) → Rs (List (D × D))
  | [], ρ, acc => .ok acc ρ
  | x :: xs, ρ, acc => match st x ρ with
    | none => .bad
    | some ρ1 => (noEr (cnd ρ1)).bind fun b ρ2 =>
      if b = true then (noEr (kx ρ2)).bind fun k ρ3 => (noEr (vx ρ3)).bind fun d ρ4 => if isKey k = true ∧ acc.length < lim then dcpL st own cnd kx vx xs (wipeR ρ4 own) (dputD acc k d) else .bad
      else dcpL st own cnd kx vx xs (wipeR ρ2 own) acc
def evDcp (cal : Cal) (b0 : Bool) (kind : Nat) (its : List CE) (tg : List Nat) (one : Bool) (own : List Nat) (cnd : Option CE) (kx vx : CE) (ρ : Ro) : Rs (List (D × D)) := (evA cal b0 its ρ).bind fun ds ρ1 => match itemsD kind ds with
  | none => .bad
  | some xs => if (free ρ1 own && !(b0 && own.contains 0) && tg.all own.contains) = true then
      (dcpL (setTg b0 tg one) own (evC cal b0 cnd) (ev cal b0 kx) (ev cal b0 vx) xs (wipeR ρ1 own) []).bind fun acc ρ2 => .ok acc (backR ρ1 ρ2 own)
    else .bad
/-- a new dict that nobody else holds -/
def OutOD (P : Pm) (G : Hp) (σ : L2.St) (r : Rs (List (D × D))) (Q : VK) : Prop :=
  match r with
  | .ok ds ρ => ∀ p kvs G' H', Same G G' → P.Fm ρ G' σ H' → H' p = some (.dK kvs) → G' p = none → ¬ P.Z p → (∀ (i : Nat) (d : D), ρ[i]? = some (some (d, true)) → σ[i]? ≠ some (some (.ref p))) → RpKv P.K G' kvs ds → Q (.ref p) H'
  | .er c f ρ => ∀ cls dx G' H', Same G G' → P.Fm ρ G' σ H' → ErrV P c f cls dx G' → P.W cls dx σ H'
  | .bad => False
def TOwnD (P : Pm) (r : Ro → Rs (List (D × D))) : TE := fun σ H Q => ∃ ρ G, P.Fm ρ G σ H ∧ OutOD P G σ (r ρ) Q
theorem dcp_own {P : Pm} {kind : Nat} {its : List CE} {tg : List Nat} {one : Bool} {own : List Nat} {cnd : Option CE} {kx vx : CE} {σ : L2.St} {H : Hp} {Q : VK} (h : TOwnD P (evDcp P.cal P.b0 kind its tg one own cnd kx vx) σ H Q) :
    tDc (TIt P kind its) (TBG P tg one) (TBT P cnd) (TB P kx) (TB P vx) own σ H Q := by
  obtain ⟨ρ, G, fm, h⟩ := h
  refine ⟨ρ, G, fm, ?_⟩
  unfold evDcp at h
  cases hA : evA P.cal P.b0 its ρ with
  | bad => rw [hA] at h; exact h.elim
  | er c f ρ' => rw [hA] at h; exact h
  | ok ds ρ1 =>
  rw [hA] at h
  simp only [Rs.bind_ok] at h ⊢
  cases hI : itemsD kind ds with
  | none => rw [hI] at h; exact h.elim
  | some xs =>
  rw [hI] at h
  simp only at h
  split at h
  case isFalse => exact h.elim
  case isTrue hc =>
  rw [Bool.and_eq_true, Bool.and_eq_true] at hc
  obtain ⟨⟨hfree, h0⟩, htg⟩ := hc
  have h0' : (P.b0 && own.contains 0) = false := by
    cases hq : (P.b0 && own.contains 0) with
    | false => rfl
    | true => rw [hq] at h0; cases h0
  intro J G1 H1 s1 fm1 wk Dp hD
  generalize hr : dcpL (setTg P.b0 tg one) own (evC P.cal P.b0 cnd) (ev P.cal P.b0 kx) (ev P.cal P.b0 vx) xs (wipeR ρ1 own) [] = r at h
  have zD : ¬ P.Z Dp := fun z => by
    obtain ⟨_, q2, q3⟩ := fm1.zg Dp z
    rw [hD] at q2
    exact q3 q2.symm
  have gD1 : G1 Dp = none := Same.none fm1.sub hD
  refine ⟨fun i m Hc => m = xs.length - i ∧ i ≤ xs.length ∧ ∃ ρi Gi vacc acc, Same G1 Gi ∧ RpKv P.K Gi vacc acc ∧ (P.blkO Dp (.dK vacc)).Fm ρi Gi (wipe σ own) Hc ∧ (∀ j ∈ own, ∀ x, ρi[j]? ≠ some (some x)) ∧
    dcpL (setTg P.b0 tg one) own (evC P.cal P.b0 cnd) (ev P.cal P.b0 kx) (ev P.cal P.b0 vx) (xs.drop i) ρi acc = r, ⟨xs.length, by simp, Nat.zero_le _, wipeR ρ1 own, G1, [], [], Same.refl _, .nil, ?_, fun j hj x => wipeR_in hj, by simpa using hr⟩, ?_⟩
  · have f2 := (fm_wipe fm1 h0').ext (Ext.hid (o := .dK []) fm1.sub hD)
    refine fm_blkO f2 upd_same gD1 zD fun i d hi => ?_
    obtain ⟨a, o, q1, q3, q4, q5, q6⟩ := (fm_wipe fm1 h0').ow i d hi
    rw [q1]
    intro z
    cases z
    rw [hD] at q3
    cases q3
  · rintro i m Hc ⟨rfl, hi, ρi, Gi, vacc, acc, sGi, rac, fmi, hwi, hcl⟩
    obtain ⟨wgo, wst⟩ := wk Gi Hc sGi fmi.sub
    by_cases hlt : i < xs.length
    · right
      have hx : xs[i]? = some xs[i] := List.getElem?_eq_getElem hlt
      obtain ⟨go, yl⟩ := wgo i _ hx
      rw [List.drop_eq_getElem_cons hlt] at hcl
      have rbad : r ≠ .bad := fun z => by rw [z] at h; exact h
      refine ⟨go, fun Hn => ∃ ρn Gn vn an, Same G1 Gn ∧ RpKv P.K Gn vn an ∧ (P.blkO Dp (.dK vn)).Fm ρn Gn (wipe σ own) Hn ∧ (∀ j ∈ own, ∀ x, ρn[j]? ≠ some (some x)) ∧
        dcpL (setTg P.b0 tg one) own (evC P.cal P.b0 cnd) (ev P.cal P.b0 kx) (ev P.cal P.b0 vx) (xs.drop (i + 1)) ρn an = r, fun H' ⟨ρn, Gn, vn, an, q1, q2, q3, q4, q5⟩ => ⟨xs.length - (i + 1), by omega, rfl, hlt, ρn, Gn, vn, an, q1, q2, q3, q4, q5⟩, fun x H2 hy => ?_⟩
      obtain ⟨G2, ex, rx⟩ := yl x H2 hy
      unfold dcpL at hcl
      cases hs : setTg P.b0 tg one xs[i] ρi with
      | none => rw [hs] at hcl; exact absurd hcl.symm rbad
      | some ρ' =>
      rw [hs] at hcl
      simp only at hcl
      refine ⟨P.blkO Dp (.dK vacc), blkO_same _ _ _, ρi, G2, xs[i], ρ', fmi.ext ex, rx, hs, fun σ2 fm2 hw => ?_⟩
      have hwσ : wipe σ2 own = wipe σ own := by
        rw [hw own fun j hj => by simpa using List.all_eq_true.mp htg j hj, wipe_wipe]
      refine ⟨hwσ, P.blkO Dp (.dK vacc), blkO_same _ _ _, ρ', G2, fm2, ?_⟩
      cases hC : evC P.cal P.b0 cnd ρ' with
      | bad => rw [hC] at hcl; exact absurd hcl.symm rbad
      | er c f ρ3 => rw [hC] at hcl; exact absurd hcl.symm rbad
      | ok b ρ3 =>
      rw [hC] at hcl
      simp only [noEr, Rs.bind_ok] at hcl
      have hC' : evC (P.blkO Dp (.dK vacc)).cal (P.blkO Dp (.dK vacc)).b0 cnd ρ' = .ok b ρ3 := hC
      rw [hC']
      intro b' G3 H3 s3 fm3 eb
      have eb' : b' = b := eb
      subst eb'
      cases b' with
      | false =>
        rw [if_neg Bool.false_ne_true] at hcl ⊢
        refine ⟨wipeR ρ3 own, G3, vacc, acc, Same.trans sGi (Same.trans ex.g s3), (rac.mono ex.g).mono s3, ?_, fun j hj x => wipeR_in hj, hcl⟩
        have := fm_wipe fm3 (own := own) h0'
        rwa [hwσ] at this
      | true =>
        rw [if_pos rfl] at hcl ⊢
        refine ⟨P.blkO Dp (.dK vacc), blkO_same _ _ _, ρ3, G3, fm3, ?_⟩
        cases hE : ev P.cal P.b0 kx ρ3 with
        | bad => rw [hE] at hcl; exact absurd hcl.symm rbad
        | er c f ρ4 => rw [hE] at hcl; exact absurd hcl.symm rbad
        | ok kd ρ4 =>
        rw [hE] at hcl
        simp only [noEr, Rs.bind_ok] at hcl
        have hE' : ev (P.blkO Dp (.dK vacc)).cal (P.blkO Dp (.dK vacc)).b0 kx ρ3 = .ok kd ρ4 := hE
        rw [hE']
        intro y G4 H4 s4 fm4 ry
        refine ⟨P.blkO Dp (.dK vacc), blkO_same _ _ _, ρ4, G4, fm4, ?_⟩
        cases hV : ev P.cal P.b0 vx ρ4 with
        | bad => rw [hV] at hcl; exact absurd hcl.symm rbad
        | er c f ρ5 => rw [hV] at hcl; exact absurd hcl.symm rbad
        | ok d ρ5 =>
        rw [hV] at hcl
        simp only [noEr, Rs.bind_ok] at hcl
        have hV' : ev (P.blkO Dp (.dK vacc)).cal (P.blkO Dp (.dK vacc)).b0 vx ρ4 = .ok d ρ5 := hV
        rw [hV']
        intro z G5 H5 s5 fm5 rz
        split at hcl
        case isFalse => exact absurd hcl.symm rbad
        case isTrue hl =>
        obtain ⟨k, rfl⟩ := keyV ry hl.1
        refine ⟨vacc, k, rfl, (blkO_at fm5).1, ?_, wipeR ρ5 own, G5, putK vacc k z, dputD acc kd d, Same.trans sGi (Same.trans ex.g (Same.trans s3 (Same.trans s4 s5))), RpKv.put (ry.mono s5) rz ((((rac.mono ex.g).mono s3).mono s4).mono s5), ?_, fun j hj x => wipeR_in hj, hcl⟩
        · rw [rac.length]
          exact Nat.lt_of_lt_of_le hl.2 (lim_le (Nat.le_refl _))
        · have := fm_wipe (blkO_put (u := .dK (putK vacc k z)) fm5) (own := own) h0'
          rwa [hwσ] at this
    · left
      have e : i = xs.length := by omega
      subst e
      refine ⟨wst, ?_⟩
      rw [List.drop_length] at hcl
      simp only [dcpL] at hcl
      subst hcl
      simp only [Rs.bind_ok] at h
      obtain ⟨f1, f2⟩ := fm_backO fm1 sGi zD fmi hfree hwi
      obtain ⟨b1, b2⟩ := blkO_at fmi
      exact h Dp vacc Gi Hc (Same.trans s1 sGi) f1 b1 b2 zD f2 rac
end Ev


set_option Elab.async false
set_option linter.all false
set_option maxRecDepth 100000
set_option maxHeartbeats 2000000
namespace Ev
open PySem PySem.Spec PyProof.Rows L2
section
variable {P : Pm} {X : Cx} {a b c e tg it : Expr} {ca cb cc ce : CE} {cs its : List CE} {pos : Pos}
theorem t_comp {kind : Nat} {tgs : List Nat} {one : Bool} {ifs : List Expr} {scope : Scope} {own : List (Str × Nat)} {cnd : Option CE} (hc : X.calm = true) (hN : X.N.Nodup) (hi : PI X tg it (TIt P kind its)) (ok : BlkOk X.N X.env.scope scope own)
    (hg : ∀ (s : Shared) (H : Hp) (C : Addr) (cl : List (Str × Addr)) (fp : List Addr), PG (X.blk s H scope (compEnvC scope cl C X.env) fp) tg (TBG P tgs one))
    (ht : ∀ (s : Shared) (H : Hp) (C : Addr) (cl : List (Str × Addr)) (fp : List Addr), PTs (X.blk s H scope (compEnvC scope cl C X.env) fp) ifs (TBT P cnd))
    (he : ∀ (s : Shared) (H : Hp) (C : Addr) (cl : List (Str × Addr)) (fp : List Addr), PE (X.blk s H scope (compEnvC scope cl C X.env) fp) e (TB P ce)) (hs : ∀ x, foldedSetIterable it X.env x = pure x) :
    PE X (.ListComp e [⟨tg, it, ifs, 0⟩] scope pos) (T P (.comp kind its tgs one (own.map (·.2)) cnd ce)) := by
  refine PEw (pe_lc hc hN hi ok hg ht he hs) fun σ H Q ⟨ρ, G, fm, h⟩ => comp_own ⟨ρ, G, fm, own_frz ?_⟩
  rw [ev_comp] at h
  exact h
end

section
variable {P : Pm} {X : Cx} {e tg it tg2 it2 : Expr} {ce : CE} {its its2 : List CE} {pos : Pos}
theorem t_cmp2 {k1 k2 : Nat} {tgs tgs2 : List Nat} {one one2 : Bool} {ifs ifs2 : List Expr} {scope : Scope} {own : List (Str × Nat)} {cnd cnd2 : Option CE} (hc : X.calm = true) (hN : X.N.Nodup) (hi : PI X tg it (TIt P k1 its)) (ok : BlkOk X.N X.env.scope scope own) (hv : ∀ i ∈ tgs2, i ∈ own.map (·.2))
    (hg : ∀ (s : Shared) (H : Hp) (C : Addr) (cl : List (Str × Addr)) (fp : List Addr), PG (X.blk s H scope (compEnvC scope cl C X.env) fp) tg (TBG P tgs one))
    (ht : ∀ (s : Shared) (H : Hp) (C : Addr) (cl : List (Str × Addr)) (fp : List Addr), PTs (X.blk s H scope (compEnvC scope cl C X.env) fp) ifs (TBT P cnd))
    (hi2 : ∀ (s : Shared) (H : Hp) (C : Addr) (cl : List (Str × Addr)) (fp : List Addr), PI (X.blk s H scope (compEnvC scope cl C X.env) fp) tg2 it2 (TBI P k2 its2))
    (hg2 : ∀ (s : Shared) (H : Hp) (C : Addr) (cl : List (Str × Addr)) (fp : List Addr), PG (X.blk s H scope (compEnvC scope cl C X.env) fp) tg2 (TBG P tgs2 one2))
    (ht2 : ∀ (s : Shared) (H : Hp) (C : Addr) (cl : List (Str × Addr)) (fp : List Addr), PTs (X.blk s H scope (compEnvC scope cl C X.env) fp) ifs2 (TBT P cnd2))
    (he : ∀ (s : Shared) (H : Hp) (C : Addr) (cl : List (Str × Addr)) (fp : List Addr), PE (X.blk s H scope (compEnvC scope cl C X.env) fp) e (TB P ce)) (hs : ∀ x, foldedSetIterable it X.env x = pure x) (hs2 : ∀ env x, foldedSetIterable it2 env x = pure x) :
    PE X (.ListComp e [⟨tg, it, ifs, 0⟩, ⟨tg2, it2, ifs2, 0⟩] scope pos) (T P (.cmp2 k1 its tgs one (own.map (·.2)) cnd k2 its2 tgs2 one2 cnd2 ce)) := by
  refine PEw (pe_lc2 hc hN hi ok hv hg ht hi2 hg2 ht2 he hs hs2) fun σ H Q ⟨ρ, G, fm, h⟩ => comp2_own ⟨ρ, G, fm, own_frz ?_⟩
  rw [ev_cmp2] at h
  exact h
end

/-! ## statements -/
/-- what an except suite does -/
inductive SU where
  | asC (j : Nat) (d : D)
  | retC (d : D)
  | par (j k : Nat) (z : D) (x : Str)
structure Hd where
  cls : Str
  slot : Option Nat
  su : SU
/-- an error's class c, the class h of a clause -/
def exM (c h : Str) : Bool := decide (c = h) || decide (h = ("LitError" : Str))
inductive CS where
  | asg (i : Nat) (e : CE)
  | own (i : Nat) (e : CE)
  | par (is : List Nat) (es : List (Bool × CE))
  | aug (op : Operator) (i : Nat) (e : CE)
  | aus (op : Operator) (i : Nat) (ix e : CE)
  | unp (is : List Nat) (e : CE)
  | sub (i : Nat) (ix e : CE)
  | app (i : Nat) (e : CE)
  | dmk (i : Nat) (a : CE)
  | dcp (i : Nat) (kind : Nat) (its : List CE) (tg : List Nat) (one : Bool) (own : List Nat) (cnd : Option CE) (k v : CE)
  | exp (e : CE)
  | iff (c : CE) (a b : List CS)
  | fr (kind : Nat) (its : List CE) (tg : List Nat) (one : Bool) (body : List CS)
  | wh (c : CE) (body : List CS)
  | ret (e : CE)
  | retO (e : CE)
  | retV (i : Nat)
  | retN
  | brk
  | ctn
  | pas
  | nev
  | rai (c : Str)
  | rax (c f : Str) (e : CE)
  | tra (rs : List Str) (body : List CS) (hs : List Hd)
/-- what an error with a field of its own is made with -/
def ixD : D → Bool
  | .none => true
  | .int i => decide (i.natAbs.log2 < 1920)
  | _ => false
inductive SR where
  | nx (ρ : Ro)
  | rt (d : D) (ρ : Ro)
  | ro (ds : List D) (ρ : Ro)
  | bk (ρ : Ro)
  | ct (ρ : Ro)
  | er (c : Str) (f : Option (Str × D)) (ρ : Ro)
  | bad
def Rs.st {α : Type} (r : Rs α) (f : α → Ro → SR) : SR := match r with
  | .ok a ρ => f a ρ
  | .er c e ρ => .er c e ρ
  | .bad => .bad
def ofS (o : Option Ro) : SR := match o with
  | some ρ => .nx ρ
  | none => .bad
def SR.seq (r : SR) (f : Ro → SR) : SR := match r with
  | .nx ρ => f ρ
  | r => r
def forL (st : D → Ro → Option Ro) (body : Ro → SR) : List D → Ro → SR
  | [], ρ => .nx ρ
  | x :: xs, ρ => match st x ρ with
    | none => .bad
    | some ρ1 => match body ρ1 with
      | .nx ρ2 => forL st body xs ρ2
      | .ct ρ2 => forL st body xs ρ2
      | .bk ρ2 => .nx ρ2
      | r => r
def whL (tst : Ro → Rs Bool) (body : Ro → SR) : Nat → Ro → SR
  | 0, _ => .bad
  | n + 1, ρ => (tst ρ).st fun b ρ1 => if b = true then (match body ρ1 with
    | .nx ρ2 => whL tst body n ρ2
    | .ct ρ2 => whL tst body n ρ2
    | .bk ρ2 => .nx ρ2
    | r => r) else .nx ρ1
/-- a list that nobody else holds -/
def evOwn (cal : Cal) (b0 : Bool) : CE → Ro → Rs (List D)
  | .lst es, ρ => (evA cal b0 es ρ).bind fun ds ρ1 => if ds.length ≤ lim then .ok ds ρ1 else .bad
  | .comp kind its tg one own cnd elt, ρ => evComp cal b0 kind its tg one own cnd elt ρ
  | .bin .Mult a b, ρ => (ev cal b0 a ρ).bind fun x ρ1 => (ev cal b0 b ρ1).bind fun y ρ2 => match x, y with
    | .list xs, .int j => if 0 ≤ j ∧ j ≤ 100000 ∧ xs.length * j.toNat ≤ lim then .ok (List.replicate j.toNat xs).flatten ρ2 else .bad
    | _, _ => .bad
  | .bin .Add a b, ρ => (ev cal b0 a ρ).bind fun x ρ1 => (ev cal b0 b ρ1).bind fun y ρ2 => match x, y with
    | .list xs, .list ys => if xs.length + ys.length ≤ lim then .ok (xs ++ ys) ρ2 else .bad
    | _, _ => .bad
  | .blt .list [a], ρ => (ev cal b0 a ρ).bind fun d ρ1 => match d with
    | .list xs => .ok xs ρ1
    | .tuple xs => .ok xs ρ1
    | _ => .bad
  | .blt .sorted [a], ρ => (ev cal b0 a ρ).bind fun d ρ1 => match sortedD [d] with
    | some (.list xs) => .ok xs ρ1
    | _ => .bad
  | .ite c a b, ρ => (evT cal b0 c ρ).bind fun k ρ1 => if k = true then evOwn cal b0 a ρ1 else evOwn cal b0 b ρ1
  | .call f perm args, ρ => (evA cal b0 args ρ).bind fun ds ρ1 => match permD perm ds with
    | some es => callO (cal f es) ρ1
    | none => .bad
  | .cio f i args, ρ => match ρ[i]? with
    | some (some (_, true)) => (evA cal b0 args ρ).bind fun ds ρ1 => match ρ1[i]? with
      | some (some (.list es, true)) => cioO i (cal f (.list es :: ds)) ρ1
      | _ => .bad
    | _ => .bad
  | _, _ => .bad
/-- dict(a list of pairs) -/
def evDmk (cal : Cal) (b0 : Bool) (a : CE) (ρ : Ro) : Rs (List (D × D)) := (ev cal b0 a ρ).bind fun d ρ1 => match d with
  | .list xs => match pairsD xs with
    | some ps => .ok (ps.foldl (fun acc p => dputD acc p.1 p.2) []) ρ1
    | none => .bad
  | _ => .bad
def setOwnD (b0 : Bool) (i : Nat) (ds : List (D × D)) (ρ : Ro) : Option Ro := if (b0 && i == 0) = true then none else some (ρ.set i (some (.dict ds, true)))
def setOwn (b0 : Bool) (i : Nat) (ds : List D) (ρ : Ro) : Option Ro := if (b0 && i == 0) = true then none else some (ρ.set i (some (.list ds, true)))
def setPa (b0 : Bool) : List Nat → List (D × Bool) → Ro → Option Ro
  | [], [], ρ => some ρ
  | i :: is, dw :: ds, ρ => if (b0 && i == 0) = true then none else setPa b0 is ds (ρ.set i (some dw))
  | _, _, _ => none
def evPa (cal : Cal) (b0 : Bool) : List (Bool × CE) → Ro → Rs (List (D × Bool))
  | [], ρ => .ok [] ρ
  | (true, e) :: es, ρ => (evOwn cal b0 e ρ).bind fun ds ρ1 => (evPa cal b0 es ρ1).bind fun r ρ2 => .ok ((.list ds, true) :: r) ρ2
  | (false, e) :: es, ρ => (ev cal b0 e ρ).bind fun d ρ1 => (evPa cal b0 es ρ1).bind fun r ρ2 => .ok ((d, false) :: r) ρ2
def augD : Operator → D → D → Option D
  | .Add, .int i, .int j => some (.int (i + j))
  | .Sub, .int i, .int j => some (.int (i - j))
  | _, _, _ => none
/-- an except suite -/
def suR (b0 : Bool) (su : SU) (slot : Option Nat) (c : Str) (f : Option (Str × D)) (ρ : Ro) : SR := match slot, su with
  | none, .asC j d => ofS (set0 b0 j d ρ)
  | none, .retC d => .rt d ρ
  | some i, .par j k z x => if (i ≠ j ∧ i ≠ k ∧ j ≠ k ∧ i < ρ.length) ∧ f = none ∧ (b0 && (i == 0 || j == 0 || k == 0)) = false then .nx ((((ρ.set i none).set j (some (z, false))).set k (some (.bool (exM c x), false))).set i none) else .bad
  | _, _ => .bad
def evH (b0 : Bool) : List Hd → Str → Option (Str × D) → Ro → SR
  | [], c, f, ρ => .er c f ρ
  | h :: r, c, f, ρ => if exM c h.cls = true then suR b0 h.su h.slot c f ρ else evH b0 r c f ρ
section
variable (cal : Cal) (b0 : Bool)
mutual
def evS : CS → Ro → SR
  | .asg i e, ρ => (ev cal b0 e ρ).st fun d ρ1 => ofS (set0 b0 i d ρ1)
  | .own i e, ρ => (evOwn cal b0 e ρ).st fun ds ρ1 => ofS (setOwn b0 i ds ρ1)
  | .par is es, ρ => (evPa cal b0 es ρ).st fun ds ρ1 => ofS (setPa b0 is ds ρ1)
  | .aug op i e, ρ => match ρ[i]? with
    | some (some (.int x, false)) => (ev cal b0 e ρ).st fun y ρ1 => match augD op (.int x) y with
      | some d => ofS (set0 b0 i d ρ1)
      | none => .bad
    | _ => .bad
  | .aus op i ix e, ρ => match ρ[i]? with
    | some (some (_, true)) => (ev cal b0 ix ρ).st fun k ρ1 => match ρ1[i]?, k with
      | some (some (.list ds, true)), .int j => match ixN ds.length j with
        | some m => match ds[m]? with
          | some (.int x) => (ev cal b0 e ρ1).st fun y ρ2 => match ρ2[i]?, augD op (.int x) y with
            | some (some (.list es, true)), some d => if es.length = ds.length then .nx (ρ2.set i (some (.list (es.set m d), true))) else .bad
            | _, _ => .bad
          | _ => .bad
        | none => .bad
      | some (some (.dict ds, true)), k => if isKey k = true then (match dgetD ds k with
          | some (.int x) => (ev cal b0 e ρ1).st fun y ρ2 => match ρ2[i]?, augD op (.int x) y with
            | some (some (.dict es, true)), some d => if es.length < lim then .nx (ρ2.set i (some (.dict (dputD es k d), true))) else .bad
            | _, _ => .bad
          | _ => .bad) else .bad
      | _, _ => .bad
    | _ => .bad
  | .unp is e, ρ => (ev cal b0 e ρ).st fun d ρ1 => ofS (setTg b0 is false d ρ1)
  | .sub i ix e, ρ => match ρ[i]? with
    | some (some (_, true)) => (ev cal b0 e ρ).st fun d ρ1 => (ev cal b0 ix ρ1).st fun k ρ2 => match ρ2[i]?, k with
      | some (some (.list ds, true)), .int j => match ixN ds.length j with
        | some m => .nx (ρ2.set i (some (.list (ds.set m d), true)))
        | none => .bad
      | some (some (.dict ds, true)), k => if isKey k = true ∧ ds.length < lim then .nx (ρ2.set i (some (.dict (dputD ds k d), true))) else .bad
      | _, _ => .bad
    | _ => .bad
  | .app i e, ρ => match ρ[i]? with
    | some (some (.list _, true)) => (ev cal b0 e ρ).st fun d ρ1 => match ρ1[i]? with
      | some (some (.list ds, true)) => if ds.length < lim then .nx (ρ1.set i (some (.list (ds ++ [d]), true))) else .bad
      | _ => .bad
    | _ => .bad
  | .dmk i a, ρ => (evDmk cal b0 a ρ).st fun ps ρ1 => ofS (setOwnD b0 i ps ρ1)
  | .dcp i kind its tg one own cnd k v, ρ => (evDcp cal b0 kind its tg one own cnd k v ρ).st fun ps ρ1 => ofS (setOwnD b0 i ps ρ1)
  | .exp e, ρ => (ev cal b0 e ρ).st fun _ ρ1 => .nx ρ1
  | .iff c a b, ρ => (evT cal b0 c ρ).st fun k ρ1 => if k = true then evB a ρ1 else evB b ρ1
  | .fr kind its tg one body, ρ => ((evA cal b0 its ρ).bind fun ds ρ1 => ofO (itemsD kind ds) ρ1).st fun xs ρ1 => forL (setTg b0 tg one) (evB body) xs ρ1
  | .wh c body, ρ => whL (evT cal b0 c) (evB body) 100000 ρ
  | .ret e, ρ => (ev cal b0 e ρ).st fun d ρ1 => .rt d ρ1
  | .retO e, ρ => (evOwn cal b0 e ρ).st fun ds ρ1 => .ro ds ρ1
  | .retV i, ρ => match ρ[i]? with
    | some (some (.list ds, true)) => if (b0 && i == 0) = true then .bad else .ro ds (ρ.set i none)
    | some (some (.dict ds, true)) => if (b0 && i == 0) = true then .bad else .rt (.dict ds) (ρ.set i (some (.dict ds, false)))
    | some (some (d, false)) => .rt d ρ
    | _ => .bad
  | .retN, ρ => .rt .none ρ
  | .brk, ρ => .bk ρ
  | .ctn, ρ => .ct ρ
  | .pas, ρ => .nx ρ
  | .nev, _ => .bad
  | .rai c, ρ => .er c none ρ
  | .rax c f e, ρ => (ev cal b0 e ρ).st fun d ρ1 => if ixD d = true then .er c (some (f, d)) ρ1 else .bad
  | .tra rs body hs, ρ => match evB body ρ with
    | .er c f ρ1 => if rs.contains c = true then evH b0 hs c f ρ1 else .bad
    | r => r
def evB : List CS → Ro → SR
  | [], ρ => .nx ρ
  | s :: ss, ρ => (evS s ρ).seq (evB ss)
end
end
def OutS (P : Pm) (G : Hp) (r : SR) (E : Ends) : Prop := match r with
  | .nx ρ => ∀ σ G' H', Same G G' → P.Fm ρ G' σ H' → E.nx σ H'
  | .rt d ρ => ∀ σ v G' H', Same G G' → P.Fm ρ G' σ H' → Rp P.K G' v d → E.rt v H'
  | .ro ds ρ => ∀ σ p xs G' H', Same G G' → P.Fm ρ G' σ H' → H' p = some (.lst xs) → G' p = none → ¬ P.Z p → (∀ (i : Nat) (d : D), ρ[i]? = some (some (d, true)) → σ[i]? ≠ some (some (.ref p))) → RpAll P.K G' xs ds → E.rt (.ref p) H'
  | .bk ρ => ∀ σ G' H', Same G G' → P.Fm ρ G' σ H' → E.bk σ H'
  | .ct ρ => ∀ σ G' H', Same G G' → P.Fm ρ G' σ H' → E.ct σ H'
  | .er c f ρ => ∀ σ cls dx G' H', Same G G' → P.Fm ρ G' σ H' → ErrV P c f cls dx G' → P.W cls dx σ H'
  | .bad => False
def TSt (P : Pm) (s : CS) : TS := fun E σ H => ∃ ρ G, P.Fm ρ G σ H ∧ OutS P G (evS P.cal P.b0 s ρ) E
def TSs (P : Pm) (s : List CS) : TS := fun E σ H => ∃ ρ G, P.Fm ρ G σ H ∧ OutS P G (evB P.cal P.b0 s ρ) E
section
variable {P : Pm} {X : Cx} {G G1 H : Hp} {σ : L2.St} {ρ : Ro} {E : Ends} {α β : Type}
theorem OutS.mono {r : SR} (s : Same G G1) (h : OutS P G r E) : OutS P G1 r E := by
  cases r with
  | nx ρ => exact fun σ G' H' s' => h σ G' H' (Same.trans s s')
  | rt d ρ => exact fun σ v G' H' s' => h σ v G' H' (Same.trans s s')
  | ro ds ρ => exact fun σ p xs G' H' s' => h σ p xs G' H' (Same.trans s s')
  | bk ρ => exact fun σ G' H' s' => h σ G' H' (Same.trans s s')
  | ct ρ => exact fun σ G' H' s' => h σ G' H' (Same.trans s s')
  | er c f ρ => exact fun σ cls dx G' H' s' => h σ cls dx G' H' (Same.trans s s')
  | bad => exact h
theorem OutS.ex {R : Hp → β → α → Prop} {r : Rs α} {f : α → Ro → SR} {Q1 : β → Hp → Prop} (h : OutS P G (r.st f) E) (k : ∀ a ρ1 b G1 H1, Same G G1 → P.Fm ρ1 G1 σ H1 → R G1 b a → OutS P G1 (f a ρ1) E → Q1 b H1) : Out P R G σ r Q1 := by
  cases r with
  | ok a ρ => exact fun b G' H' s fm r => k a ρ b G' H' s fm r (OutS.mono s h)
  | er c f' ρ => exact fun cls dx G' H' s fm e => h σ cls dx G' H' s fm e
  | bad => exact h
theorem OutS.next (h : OutS P G (.nx ρ) E) (fm : P.Fm ρ G σ H) : E.nx σ H := h σ G H (Same.refl G) fm
theorem OutS.set {i : Nat} {d : D} {v : V} (h : OutS P G (ofS (set0 P.b0 i d ρ)) E) (fm : P.Fm ρ G σ H) (r : Rp P.K G v d) : E.nx (σ.set i (some v)) H := by
  cases hs : set0 P.b0 i d ρ with
  | none => rw [hs] at h; exact h.elim
  | some ρ' =>
    rw [hs] at h
    obtain ⟨rfl, h0⟩ := set0_io hs
    exact OutS.next h (fm.set r h0)
/-- an owned list comes to a slot -/
theorem fm_own {i : Nat} {p : Addr} {xs : List V} {ds : List D} (fm : P.Fm ρ G σ H) (hp : H p = some (.lst xs)) (gp : G p = none) (zp : ¬ P.Z p) (np : ∀ (i : Nat) (d : D), ρ[i]? = some (some (d, true)) → σ[i]? ≠ some (some (.ref p))) (rp : RpAll P.K G xs ds) (h0 : P.io ≠ none → i ≠ 0) :
    P.Fm (ρ.set i (some (.list ds, true))) G (σ.set i (some (.ref p))) H := by
  have old : ∀ {j : Nat} {d : D} {w : Bool}, i ≠ j → (ρ.set i (some (PyData.list ds, true)))[j]? = some (some (d, w)) → ρ[j]? = some (some (d, w)) := fun hij h => by
    rwa [List.getElem?_set_ne hij] at h
  refine ⟨fm.sub, by rw [List.length_set, List.length_set]; exact fm.len, fun j d hj => ?_, fun j d hj => ?_, fun j k d e a hj hk h1 h2 => ?_, fm.zg, fun a ha => ?_⟩
  · by_cases hij : i = j
    · subst hij
      have il : i < ρ.length := by have := (List.getElem?_eq_some_iff.mp hj).1; rwa [List.length_set] at this
      rw [List.getElem?_set_self il] at hj
      cases hj
    · rw [List.getElem?_set_ne hij]
      exact fm.un j d (old hij hj)
  · by_cases hij : i = j
    · subst hij
      have il : i < ρ.length := by have := (List.getElem?_eq_some_iff.mp hj).1; rwa [List.length_set] at this
      rw [List.getElem?_set_self il] at hj
      cases hj
      exact ⟨p, .lst xs, List.getElem?_set_self (by rw [← fm.len]; exact il), hp, gp, zp, rp⟩
    · rw [List.getElem?_set_ne hij]
      exact fm.ow j d (old hij hj)
  · by_cases hij : i = j
    · by_cases hik : i = k
      · rw [← hij, ← hik]
      · exfalso
        subst hij
        have il : i < ρ.length := by have := (List.getElem?_eq_some_iff.mp hj).1; rwa [List.length_set] at this
        rw [List.getElem?_set_self (by rw [← fm.len]; exact il)] at h1
        cases h1
        rw [List.getElem?_set_ne hik] at h2
        exact np k e (old hik hk) h2
    · by_cases hik : i = k
      · exfalso
        subst hik
        have il : i < ρ.length := by have := (List.getElem?_eq_some_iff.mp hk).1; rwa [List.length_set] at this
        rw [List.getElem?_set_self (by rw [← fm.len]; exact il)] at h2
        cases h2
        rw [List.getElem?_set_ne hij] at h1
        exact np j d (old hij hj) h1
      · rw [List.getElem?_set_ne hij] at h1
        rw [List.getElem?_set_ne hik] at h2
        exact fm.dis j k d e a (old hij hj) (old hik hk) h1 h2
  · rw [List.getElem?_set_ne (h0 (by rw [show P.io = some a from ha]; exact fun z => nomatch z))]
    exact fm.at0 a ha
/-- an owned list is stored into -/
theorem fm_upd {i : Nat} {d0 : D} {a : Addr} {ys : List V} {es : List D} (fm : P.Fm ρ G σ H) (hi : ρ[i]? = some (some (d0, true))) (ha : σ[i]? = some (some (.ref a))) (r : RpAll P.K G ys es) : P.Fm (ρ.set i (some (.list es, true))) G σ (upd H a (.lst ys)) := by
  obtain ⟨a', o0, p1, p3, p4, p5, p6⟩ := fm.ow i d0 hi
  rw [ha] at p1
  cases p1
  have il : i < ρ.length := (List.getElem?_eq_some_iff.mp hi).1
  have own : ∀ {j : Nat} {d : D}, (ρ.set i (some (PyData.list es, true)))[j]? = some (some (d, true)) → ∃ d', ρ[j]? = some (some (d', true)) := fun {j d} hj => by
    by_cases hij : i = j
    · subst hij
      exact ⟨_, hi⟩
    · rw [List.getElem?_set_ne hij] at hj
      exact ⟨_, hj⟩
  refine ⟨fun b u e => ?_, by rw [List.length_set]; exact fm.len, fun j d hj => ?_, fun j d hj => ?_, fun j k d e b hj hk h1 h2 => ?_, fun b hb => ?_, fm.at0⟩
  · rw [upd_ne (fun z => by rw [z, p4] at e; cases e)]
    exact fm.sub _ _ e
  · by_cases hij : i = j
    · subst hij
      rw [List.getElem?_set_self il] at hj
      cases hj
    · rw [List.getElem?_set_ne hij] at hj
      exact fm.un j d hj
  · by_cases hij : i = j
    · subst hij
      rw [List.getElem?_set_self il] at hj
      cases hj
      exact ⟨a, .lst ys, ha, upd_same, p4, p5, r⟩
    · rw [List.getElem?_set_ne hij] at hj
      obtain ⟨b, o, q1, q3, q4, q5, q6⟩ := fm.ow j d hj
      have ne : b ≠ a := fun z => hij (fm.dis i j _ _ a hi hj ha (by rw [← z]; exact q1))
      exact ⟨b, o, q1, by rw [upd_ne ne]; exact q3, q4, q5, q6⟩
  · obtain ⟨_, w1⟩ := own hj
    obtain ⟨_, w2⟩ := own hk
    exact fm.dis j k _ _ b w1 w2 h1 h2
  · obtain ⟨q1, q2, q3⟩ := fm.zg b hb
    have ne : b ≠ a := fun z => p5 (by rw [← z]; exact hb)
    exact ⟨q1, by rw [upd_ne ne]; exact q2, q3⟩
/-- an owned object comes to a slot -/
theorem fm_ownO {i : Nat} {p : Addr} {o : HO} {d1 : D} (fm : P.Fm ρ G σ H) (hp : H p = some o) (gp : G p = none) (zp : ¬ P.Z p) (np : ∀ (i : Nat) (d : D), ρ[i]? = some (some (d, true)) → σ[i]? ≠ some (some (.ref p))) (rp : OwH P.K G d1 o) (h0 : P.io ≠ none → i ≠ 0) :
    P.Fm (ρ.set i (some (d1, true))) G (σ.set i (some (.ref p))) H := by
  have old : ∀ {j : Nat} {d : D} {w : Bool}, i ≠ j → (ρ.set i (some (d1, true)))[j]? = some (some (d, w)) → ρ[j]? = some (some (d, w)) := fun hij h => by
    rwa [List.getElem?_set_ne hij] at h
  refine ⟨fm.sub, by rw [List.length_set, List.length_set]; exact fm.len, fun j d hj => ?_, fun j d hj => ?_, fun j k d e a hj hk h1 h2 => ?_, fm.zg, fun a ha => ?_⟩
  · by_cases hij : i = j
    · subst hij
      have il : i < ρ.length := by have := (List.getElem?_eq_some_iff.mp hj).1; rwa [List.length_set] at this
      rw [List.getElem?_set_self il] at hj
      cases hj
    · rw [List.getElem?_set_ne hij]
      exact fm.un j d (old hij hj)
  · by_cases hij : i = j
    · subst hij
      have il : i < ρ.length := by have := (List.getElem?_eq_some_iff.mp hj).1; rwa [List.length_set] at this
      rw [List.getElem?_set_self il] at hj
      cases hj
      exact ⟨p, o, List.getElem?_set_self (by rw [← fm.len]; exact il), hp, gp, zp, rp⟩
    · rw [List.getElem?_set_ne hij]
      exact fm.ow j d (old hij hj)
  · by_cases hij : i = j
    · by_cases hik : i = k
      · rw [← hij, ← hik]
      · exfalso
        subst hij
        have il : i < ρ.length := by have := (List.getElem?_eq_some_iff.mp hj).1; rwa [List.length_set] at this
        rw [List.getElem?_set_self (by rw [← fm.len]; exact il)] at h1
        cases h1
        rw [List.getElem?_set_ne hik] at h2
        exact np k e (old hik hk) h2
    · by_cases hik : i = k
      · exfalso
        subst hik
        have il : i < ρ.length := by have := (List.getElem?_eq_some_iff.mp hk).1; rwa [List.length_set] at this
        rw [List.getElem?_set_self (by rw [← fm.len]; exact il)] at h2
        cases h2
        rw [List.getElem?_set_ne hij] at h1
        exact np j d (old hij hj) h1
      · rw [List.getElem?_set_ne hij] at h1
        rw [List.getElem?_set_ne hik] at h2
        exact fm.dis j k d e a (old hij hj) (old hik hk) h1 h2
  · rw [List.getElem?_set_ne (h0 (by rw [show P.io = some a from ha]; exact fun z => nomatch z))]
    exact fm.at0 a ha
/-- an owned object is stored into -/
theorem fm_updO {i : Nat} {d0 d1 : D} {a : Addr} {u : HO} (fm : P.Fm ρ G σ H) (hi : ρ[i]? = some (some (d0, true))) (ha : σ[i]? = some (some (.ref a))) (r : OwH P.K G d1 u) : P.Fm (ρ.set i (some (d1, true))) G σ (upd H a u) := by
  obtain ⟨a', o0, p1, p3, p4, p5, p6⟩ := fm.ow i d0 hi
  rw [ha] at p1
  cases p1
  have il : i < ρ.length := (List.getElem?_eq_some_iff.mp hi).1
  have own : ∀ {j : Nat} {d : D}, (ρ.set i (some (d1, true)))[j]? = some (some (d, true)) → ∃ d', ρ[j]? = some (some (d', true)) := fun {j d} hj => by
    by_cases hij : i = j
    · subst hij
      exact ⟨_, hi⟩
    · rw [List.getElem?_set_ne hij] at hj
      exact ⟨_, hj⟩
  refine ⟨fun b w e => ?_, by rw [List.length_set]; exact fm.len, fun j d hj => ?_, fun j d hj => ?_, fun j k d e b hj hk h1 h2 => ?_, fun b hb => ?_, fm.at0⟩
  · rw [upd_ne (fun z => by rw [z, p4] at e; cases e)]
    exact fm.sub _ _ e
  · by_cases hij : i = j
    · subst hij
      rw [List.getElem?_set_self il] at hj
      cases hj
    · rw [List.getElem?_set_ne hij] at hj
      exact fm.un j d hj
  · by_cases hij : i = j
    · subst hij
      rw [List.getElem?_set_self il] at hj
      cases hj
      exact ⟨a, u, ha, upd_same, p4, p5, r⟩
    · rw [List.getElem?_set_ne hij] at hj
      obtain ⟨b, o, q1, q3, q4, q5, q6⟩ := fm.ow j d hj
      have ne : b ≠ a := fun z => hij (fm.dis i j _ _ a hi hj ha (by rw [← z]; exact q1))
      exact ⟨b, o, q1, by rw [upd_ne ne]; exact q3, q4, q5, q6⟩
  · obtain ⟨_, w1⟩ := own hj
    obtain ⟨_, w2⟩ := own hk
    exact fm.dis j k _ _ b w1 w2 h1 h2
  · obtain ⟨q1, q2, q3⟩ := fm.zg b hb
    have ne : b ≠ a := fun z => p5 (by rw [← z]; exact hb)
    exact ⟨q1, by rw [upd_ne ne]; exact q2, q3⟩
theorem OutOD.ex {r : Rs (List (D × D))} {f : List (D × D) → Ro → SR} {Q : VK} (h : OutS P G (r.st f) E) (k : ∀ ds ρ1 p kvs G1 H1, Same G G1 → P.Fm ρ1 G1 σ H1 → H1 p = some (.dK kvs) → G1 p = none → ¬ P.Z p → (∀ (i : Nat) (d : D), ρ1[i]? = some (some (d, true)) → σ[i]? ≠ some (some (.ref p))) → RpKv P.K G1 kvs ds →
    OutS P G1 (f ds ρ1) E → Q (.ref p) H1) : OutOD P G σ r Q := by
  cases r with
  | ok a ρ => exact fun p kvs G' H' s fm h1 h2 h3 h4 h5 => k a ρ p kvs G' H' s fm h1 h2 h3 h4 h5 (OutS.mono s h)
  | er c f' ρ => exact fun cls dx G' H' s fm e => h σ cls dx G' H' s fm e
  | bad => exact h
theorem OutS.setOwnD {i : Nat} {p : Addr} {kvs : List (Key × V)} {ds : List (D × D)} (h : OutS P G (ofS (setOwnD P.b0 i ds ρ)) E) (fm : P.Fm ρ G σ H) (hp : H p = some (.dK kvs)) (gp : G p = none) (zp : ¬ P.Z p) (np : ∀ (i : Nat) (d : D), ρ[i]? = some (some (d, true)) → σ[i]? ≠ some (some (.ref p))) (rp : RpKv P.K G kvs ds) : E.nx (σ.set i (some (.ref p))) H := by
  unfold Ev.setOwnD at h
  split at h
  · exact h.elim
  · rename_i hc
    refine OutS.next h (fm_ownO (d1 := .dict ds) fm hp gp zp np rp fun hio hi => hc ?_)
    subst hi
    unfold Pm.b0
    cases hq : P.io with
    | none => exact absurd hq hio
    | some a => rfl
theorem own_newD {kvs : List (Key × V)} {ds : List (D × D)} {Q : VK} (fm : P.Fm ρ G σ H) (rp : RpKv P.K G kvs ds) (h : ∀ p G' H', Same G G' → P.Fm ρ G' σ H' → H' p = some (.dK kvs) → G' p = none → ¬ P.Z p → (∀ (i : Nat) (d : D), ρ[i]? = some (some (d, true)) → σ[i]? ≠ some (some (.ref p))) → RpKv P.K G' kvs ds → Q (.ref p) H') :
    ∀ p, H p = none → Q (.ref p) (upd H p (.dK kvs)) := fun p hp => by
  refine h p G _ (Same.refl G) (fm.ext (Ext.hid fm.sub hp)) upd_same (Same.none fm.sub hp) (fun z => ?_) (fun i d hi z => ?_) rp
  · obtain ⟨_, q2, q3⟩ := fm.zg p z
    rw [hp] at q2
    exact q3 q2.symm
  · obtain ⟨a, o, q1, q3, _⟩ := fm.ow i d hi
    rw [q1] at z
    cases z
    rw [hp] at q3
    cases q3
theorem OutO.ex {r : Rs (List D)} {f : List D → Ro → SR} {Q : VK} (h : OutS P G (r.st f) E) (k : ∀ ds ρ1 p xs G1 H1, Same G G1 → P.Fm ρ1 G1 σ H1 → H1 p = some (.lst xs) → G1 p = none → ¬ P.Z p → (∀ (i : Nat) (d : D), ρ1[i]? = some (some (d, true)) → σ[i]? ≠ some (some (.ref p))) → RpAll P.K G1 xs ds →
    OutS P G1 (f ds ρ1) E → Q (.ref p) H1) : OutO P G σ r Q := by
  cases r with
  | ok a ρ => exact fun p xs G' H' s fm h1 h2 h3 h4 h5 => k a ρ p xs G' H' s fm h1 h2 h3 h4 h5 (OutS.mono s h)
  | er c f' ρ => exact fun cls dx G' H' s fm e => h σ cls dx G' H' s fm e
  | bad => exact h
theorem OutS.setOwn {i : Nat} {p : Addr} {xs : List V} {ds : List D} (h : OutS P G (ofS (setOwn P.b0 i ds ρ)) E) (fm : P.Fm ρ G σ H) (hp : H p = some (.lst xs)) (gp : G p = none) (zp : ¬ P.Z p) (np : ∀ (i : Nat) (d : D), ρ[i]? = some (some (d, true)) → σ[i]? ≠ some (some (.ref p))) (rp : RpAll P.K G xs ds) : E.nx (σ.set i (some (.ref p))) H := by
  unfold Ev.setOwn at h
  split at h
  · exact h.elim
  · rename_i hc
    refine OutS.next h (fm_own fm hp gp zp np rp fun hio hi => hc ?_)
    subst hi
    unfold Pm.b0
    cases hq : P.io with
    | none => exact absurd hq hio
    | some a => rfl
/-- a list that is just made is nobody else's -/
theorem own_new {xs : List V} {ds : List D} {Q : VK} (fm : P.Fm ρ G σ H) (rp : RpAll P.K G xs ds) (h : ∀ p G' H', Same G G' → P.Fm ρ G' σ H' → H' p = some (.lst xs) → G' p = none → ¬ P.Z p → (∀ (i : Nat) (d : D), ρ[i]? = some (some (d, true)) → σ[i]? ≠ some (some (.ref p))) → RpAll P.K G' xs ds → Q (.ref p) H') :
    ∀ p, H p = none → Q (.ref p) (upd H p (.lst xs)) := fun p hp => by
  refine h p G _ (Same.refl G) (fm.ext (Ext.hid fm.sub hp)) upd_same (Same.none fm.sub hp) (fun z => ?_) (fun i d hi z => ?_) rp
  · obtain ⟨_, q2, q3⟩ := fm.zg p z
    rw [hp] at q2
    exact q3 q2.symm
  · obtain ⟨a, o, q1, q3, _⟩ := fm.ow i d hi
    rw [q1] at z
    cases z
    rw [hp] at q3
    cases q3
end
end Ev


set_option Elab.async false
set_option linter.all false
set_option maxRecDepth 100000
set_option maxHeartbeats 2000000
namespace Ev
open PySem PySem.Spec PyProof.Rows L2
section
variable {P : Pm} {X : Cx} {a b c e tg it : Expr} {ca cb cc ce : CE} {cs its : List CE} {pos : Pos} {st : Stmt} {sts rest : List Stmt}
theorem s_nil : PSs X [] (TSs P []) := PSsw pss_nil fun D σ H ⟨ρ, G, fm, h⟩ => by
  simp only [evB] at h
  exact OutS.next h fm
theorem outS_seq {G H : Hp} {σ : L2.St} {D : Ends} {r : SR} {ss : List CS} (h : OutS P G (r.seq (evB P.cal P.b0 ss)) D) : OutS P G r { D with nx := TSs P ss D } := by
  cases r with
  | nx ρ => exact fun σ G' H' s fm => ⟨ρ, G', fm, OutS.mono s h⟩
  | rt d ρ => exact h
  | ro ds ρ => exact h
  | bk ρ => exact h
  | ct ρ => exact h
  | er c f ρ => exact h
  | bad => exact h
theorem s_cons {s : CS} {ss : List CS} (h1 : PS X st (TSt P s)) (h2 : PSs X rest (TSs P ss)) : PSs X (st :: rest) (TSs P (s :: ss)) := PSsw (pss_cons h1 h2) fun D σ H ⟨ρ, G, fm, h⟩ => by
  simp only [evB] at h
  exact ⟨ρ, G, fm, outS_seq (H := H) (σ := σ) h⟩
theorem s_asg {i : Nat} {x : Str} {pos' : Pos} (hN : X.N.Nodup) (hi : X.N[i]? = some x) (hx : Loc X.env.scope x) (he : PE X e (T P ce)) (hs : swapsWith e (some (.Name x pos')) pos.line X.env = pure false) (hf : X.fn x = true ∨ X.env.scope.names.lookup x = some .local) :
    PS X (.Assign [.Name x pos'] e pos) (TSt P (.asg i ce)) := PSw (ps_set hN hi hx he hs hf) fun D σ H ⟨ρ, G, fm, h⟩ => by
  simp only [evS] at h
  exact ⟨ρ, G, fm, OutS.ex h fun d ρ1 v G1 H1 s1 fm1 r1 h1 => OutS.set h1 fm1 r1⟩
theorem s_expr (he : PE X e (T P ce)) (hs : swapsWith e none pos.line X.env = pure false) : PS X (.Expr e pos) (TSt P (.exp ce)) := PSw (ps_expr he hs) fun D σ H ⟨ρ, G, fm, h⟩ => by
  simp only [evS] at h
  exact ⟨ρ, G, fm, OutS.ex h fun d ρ1 v G1 H1 s1 fm1 r1 h1 => OutS.next h1 fm1⟩
theorem s_doc {x : Str} {j : Nat} {pos' : Pos} : PS X (.Expr (.Constant (.str x) j pos) pos') (TSt P .pas) := PSw ps_doc fun D σ H ⟨ρ, G, fm, h⟩ => by
  simp only [evS] at h
  exact OutS.next h fm
theorem s_pas : PS X (.Pass pos) (TSt P .pas) := PSw ps_pass fun D σ H ⟨ρ, G, fm, h⟩ => by
  simp only [evS] at h
  exact OutS.next h fm
theorem s_brk : PS X (.Break pos) (TSt P .brk) := PSw ps_break fun D σ H ⟨ρ, G, fm, h⟩ => by
  simp only [evS] at h
  exact h σ G H (Same.refl G) fm
theorem s_ctn : PS X (.Continue pos) (TSt P .ctn) := PSw ps_continue fun D σ H ⟨ρ, G, fm, h⟩ => by
  simp only [evS] at h
  exact h σ G H (Same.refl G) fm
theorem s_nev : PS X st (TSt P .nev) := PSw ps_never fun D σ H ⟨ρ, G, fm, h⟩ => by
  simp only [evS] at h
  exact h
theorem s_ret (he : PE X e (T P ce)) : PS X (.Return (some e) pos) (TSt P (.ret ce)) := PSw (ps_ret he) fun D σ H ⟨ρ, G, fm, h⟩ => by
  simp only [evS] at h
  exact ⟨ρ, G, fm, OutS.ex h fun d ρ1 v G1 H1 s1 fm1 r1 h1 => h1 σ v G1 H1 (Same.refl G1) fm1 r1⟩
theorem s_retN : PS X (.Return none pos) (TSt P .retN) := PSw ps_retN fun D σ H ⟨ρ, G, fm, h⟩ => by
  simp only [evS] at h
  exact h σ .non G H (Same.refl G) fm .non
theorem s_if {sa sb : List Stmt} {ka kb : List CS} (hc : PT X c (TT' P cc)) (ha : PSs X sa (TSs P ka)) (hb : PSs X sb (TSs P kb)) : PS X (.If c sa sb pos) (TSt P (.iff cc ka kb)) := PSw (ps_if hc ha hb) fun D σ H ⟨ρ, G, fm, h⟩ => by
  simp only [evS] at h
  refine ⟨ρ, G, fm, OutS.ex h fun k ρ1 k' G1 H1 s1 fm1 e1 h1 => ?_⟩
  have e2 : k' = k := e1
  subst e2
  cases k' with
  | true => exact iteT ⟨ρ1, G1, fm1, h1⟩
  | false => exact iteF ⟨ρ1, G1, fm1, h1⟩
theorem s_retO (he : PE X e (TOwn P (evOwn P.cal P.b0 ce))) : PS X (.Return (some e) pos) (TSt P (.retO ce)) := PSw (ps_ret he) fun D σ H ⟨ρ, G, fm, h⟩ => by
  simp only [evS] at h
  exact ⟨ρ, G, fm, OutO.ex h fun ds ρ1 p xs G1 H1 s1 fm1 q1 q2 q3 q4 q5 h1 => h1 σ p xs G1 H1 (Same.refl G1) fm1 q1 q2 q3 q4 q5⟩
/-- a name's list is given away -/
theorem fm_out {ρ : Ro} {G H : Hp} {σ : L2.St} {i : Nat} (fm : P.Fm ρ G σ H) : P.Fm (ρ.set i none) G σ H := by
  have key : ∀ {j : Nat} {x : D × Bool}, (ρ.set i none)[j]? = some (some x) → ρ[j]? = some (some x) ∧ i ≠ j := fun {j x} hj => by
    by_cases hij : i = j
    · subst hij
      have il : i < ρ.length := by have := (List.getElem?_eq_some_iff.mp hj).1; rwa [List.length_set] at this
      rw [List.getElem?_set_self il] at hj
      cases hj
    · rw [List.getElem?_set_ne hij] at hj
      exact ⟨hj, hij⟩
  exact ⟨fm.sub, by rw [List.length_set]; exact fm.len, fun j d hj => fm.un j d (key hj).1, fun j d hj => fm.ow j d (key hj).1, fun j k d e a hj hk => fm.dis j k d e a (key hj).1 (key hk).1, fm.zg, fm.at0⟩
theorem s_retV {i : Nat} {x : Str} {px : Pos} (hN : X.N[i]? = some x) (hv : Vis X.env.scope x) (hd : (x == ("__debug__" : Str)) = false) (hcd : (x == ("__classdict__" : Str)) = false) : PS X (.Return (some (.Name x px)) pos) (TSt P (.retV i)) := PSw (ps_ret (pe_var hN hv hd hcd)) fun D σ H ⟨ρ, G, fm, h⟩ => by
  simp only [evS] at h
  cases hr : ρ[i]? with
  | none => rw [hr] at h; exact h.elim
  | some o =>
  match o, hr, h with
  | none, hr, h => rw [hr] at h; exact h.elim
  | some (d0, false), hr, h =>
    rw [hr] at h
    obtain ⟨v, q1, q2⟩ := fm.un i d0 hr
    refine ⟨v, q1, ?_⟩
    have h' : OutS P G (.rt d0 ρ) D := by cases d0 <;> exact h
    exact h' σ v G H (Same.refl G) fm q2
  | some (.dict ds, true), hr, h =>
    rw [hr] at h
    simp only at h
    split at h
    · exact h.elim
    · obtain ⟨G', a, sg, h1, h2, h3⟩ := fm.freeze hr
      exact ⟨_, h1, h σ _ G' H sg h3 h2⟩
  | some (.none, true), hr, h => rw [hr] at h; exact h.elim
  | some (.bool _, true), hr, h => rw [hr] at h; exact h.elim
  | some (.int _, true), hr, h => rw [hr] at h; exact h.elim
  | some (.str _, true), hr, h => rw [hr] at h; exact h.elim
  | some (.tuple _, true), hr, h => rw [hr] at h; exact h.elim
  | some (.list d0, true), hr, h =>
    rw [hr] at h
    obtain ⟨p, xs, q1, q3, q4, q5, q6⟩ := fm.owL hr
    simp only at h
    split at h
    · exact h.elim
    · refine ⟨_, q1, h σ p xs G H (Same.refl G) (fm_out fm) q3 q4 q5 (fun j d hj z => ?_) q6⟩
      by_cases hij : i = j
      · subst hij
        have il : i < ρ.length := (List.getElem?_eq_some_iff.mp hr).1
        rw [List.getElem?_set_self il] at hj
        cases hj
      · rw [List.getElem?_set_ne hij] at hj
        exact hij (fm.dis i j _ _ p hr hj q1 z)
theorem end_callO {G H : Hp} {σ : L2.St} {ρ : Ro} {r : Ev.CR} {Q : VK} (fm : P.Fm ρ G σ H) (h : OutO P G σ (callO r ρ) Q) : EndC P.K P.mg G H none r Q (WE P.W σ) := by
  cases r with
  | ok d d0 => cases d0 <;> exact h.elim
  | ow ds d0 =>
    cases d0 with
    | none =>
      intro p xs G' H' s1 s2 st hp gp hp' rp _
      obtain ⟨zp, np⟩ := fm_new fm hp
      exact h p xs G' H' s1 (fm_call fm s1 s2 st) hp' gp zp np rp
    | some e => exact h.elim
  | er c f d0 =>
    cases d0 with
    | none => exact fun cls dx G' H' s1 s2 st er _ => h cls dx G' H' s1 (fm_call fm s1 s2 st) er
    | some e => exact h.elim
  | bad => exact h.elim
theorem end_lentO {G H : Hp} {σ : L2.St} {ρ : Ro} {r : Ev.CR} {Q : VK} {i : Nat} {d0 : D} {a : Addr} (fm : P.Fm ρ G σ H) (hi : ρ[i]? = some (some (d0, true))) (ha : σ[i]? = some (some (.ref a))) (h : OutO P G σ (cioO i r ρ) Q) : EndC P.K P.mg G H (some a) r Q (WE P.W σ) := by
  cases r with
  | ok d d1 => cases d1 <;> exact h.elim
  | ow ds d1 =>
    cases d1 with
    | none => exact h.elim
    | some e =>
      intro p xs G' H' s1 s2 st hp gp hp' rp ln
      obtain ⟨zp, np⟩ := fm_new fm hp
      cases e with
      | list es => exact let ⟨g, ys, q1, q2⟩ := ln; h p xs G' H' s1 (fm_lent fm hi ha s1 s2 st g q1 q2) hp' gp zp (np_set hi np) rp
      | _ => exact ln.elim
  | er c f d1 =>
    cases d1 with
    | none => exact h.elim
    | some e =>
      intro cls dx G' H' s1 s2 st er ln
      cases e with
      | list es => exact let ⟨g, ys, q1, q2⟩ := ln; h cls dx G' H' s1 (fm_lent fm hi ha s1 s2 st g q1 q2) er
      | _ => exact ln.elim
  | bad => exact h.elim
theorem outO_mono {G G1 : Hp} {σ : L2.St} {r : Rs (List D)} {Q : VK} (s : Same G G1) (h : OutO P G σ r Q) : OutO P G1 σ r Q := by
  cases r with
  | ok ds ρ => exact fun p xs G' H' s' => h p xs G' H' (Same.trans s s')
  | er c f ρ => exact fun cls dx G' H' s' => h cls dx G' H' (Same.trans s s')
  | bad => exact h
theorem tca_O {x : Str} {perm : List Nat} {σ : L2.St} {H : Hp} {Q : VK} (h : TOwn P (evOwn P.cal P.b0 (.call x perm cs)) σ H Q) : TCa P x perm cs σ H Q := by
  obtain ⟨ρ, G, fm, h⟩ := h
  refine ⟨ρ, G, fm, ?_⟩
  simp only [evOwn] at h
  cases hq : evA P.cal P.b0 cs ρ with
  | bad => rw [hq] at h; exact h
  | er c f ρ' => rw [hq] at h; exact h
  | ok ds ρ1 =>
    rw [hq] at h
    intro G1 H1 s1 fm1
    have h1 := outO_mono s1 h
    simp only [Rs.bind_ok] at h1
    cases hp : permD perm ds with
    | none => rw [hp] at h1; exact h1.elim
    | some es => rw [hp] at h1; exact ⟨es, rfl, end_callO fm1 h1⟩
theorem tci_O {x : Str} {i : Nat} {σ : L2.St} {H : Hp} {Q : VK} (h : TOwn P (evOwn P.cal P.b0 (.cio x i cs)) σ H Q) : TCi P x i cs σ H Q := by
  obtain ⟨ρ, G, fm, h⟩ := h
  simp only [evOwn] at h
  cases hr0 : ρ[i]? with
  | none => rw [hr0] at h; exact h.elim
  | some o =>
  match o, hr0, h with
  | none, hr0, h => rw [hr0] at h; exact h.elim
  | some (d0, false), hr0, h => rw [hr0] at h; exact h.elim
  | some (d0, true), hr0, h =>
    rw [hr0] at h
    refine ⟨ρ, G, fm, ⟨d0, hr0⟩, ?_⟩
    cases hq : evA P.cal P.b0 cs ρ with
    | bad => rw [hq] at h; exact h.elim
    | er c f ρ' => rw [hq] at h; exact h
    | ok ds ρ1 =>
      rw [hq] at h
      intro G1 H1 s1 fm1
      have h1 := outO_mono s1 h
      simp only [Rs.bind_ok] at h1
      cases hr1 : ρ1[i]? with
      | none => rw [hr1] at h1; exact h1.elim
      | some o1 =>
      match o1, hr1, h1 with
      | none, hr1, h1 => rw [hr1] at h1; exact h1.elim
      | some (d1, false), hr1, h1 => rw [hr1] at h1; cases d1 <;> exact h1.elim
      | some (.list es, true), hr1, h1 => rw [hr1] at h1; exact ⟨es, rfl, fun a ha => end_lentO fm1 hr1 ha h1⟩
      | some (.none, true), hr1, h1 => rw [hr1] at h1; exact h1.elim
      | some (.bool _, true), hr1, h1 => rw [hr1] at h1; exact h1.elim
      | some (.int _, true), hr1, h1 => rw [hr1] at h1; exact h1.elim
      | some (.str _, true), hr1, h1 => rw [hr1] at h1; exact h1.elim
      | some (.tuple _, true), hr1, h1 => rw [hr1] at h1; exact h1.elim
      | some (.dict _, true), hr1, h1 => rw [hr1] at h1; exact h1.elim
/-- a list literal, or a copy, that nobody else holds -/
theorem own_lst {es : List Expr} (h : PA X es (TAs P cs)) : PE X (.List es pos) (TOwn P (evOwn P.cal P.b0 (.lst cs))) := by
  refine PEw (pe_lst h) fun σ H Q ⟨ρ, G, fm, h⟩ => ⟨ρ, G, fm, ?_⟩
  simp only [evOwn] at h
  cases hq : evA P.cal P.b0 cs ρ with
  | bad => rw [hq] at h; exact h.elim
  | er c f ρ1 => rw [hq] at h; exact h
  | ok ds ρ1 =>
    rw [hq] at h
    simp only [Rs.bind_ok] at h
    intro vs G1 H1 s1 fm1 r1
    split at h
    · rename_i hl
      exact ⟨by rw [r1.length]; exact lim_le hl, own_new fm1 r1 fun p G' H' s' fm' q1 q2 q3 q4 q5 => h p vs G' H' (Same.trans s1 s') fm' q1 q2 q3 q4 q5⟩
    · exact h.elim
theorem own_rep {op : Operator} (hK : X.K = P.K) (ho : op = .Mult) (ha : PE X a (T P ca)) (hb : PE X b (T P cb)) : PE X (.BinOp a op b pos) (TOwn P (evOwn P.cal P.b0 (.bin op ca cb))) := by
  subst ho
  refine PEw (pe_op op_repR ha hb) fun σ H Q ⟨ρ, G, fm, h⟩ => ⟨ρ, G, fm, ?_⟩
  simp only [evOwn] at h
  cases hq : ev P.cal P.b0 ca ρ with
  | bad => rw [hq] at h; exact h.elim
  | er c f ρ1 => rw [hq] at h; exact h
  | ok x ρ1 =>
    rw [hq] at h
    simp only [Rs.bind_ok] at h
    intro v G1 H1 s1 fm1 r1
    refine ⟨ρ1, G1, fm1, ?_⟩
    cases hq2 : ev P.cal P.b0 cb ρ1 with
    | bad => rw [hq2] at h; exact h.elim
    | er c f ρ2 => rw [hq2] at h; exact fun cls dx G' H' s fm e => h cls dx G' H' (Same.trans s1 s) fm e
    | ok y ρ2 =>
      rw [hq2] at h
      simp only [Rs.bind_ok] at h
      intro w G2 H2 s2 fm2 r2
      cases r1 with
      | @lst p xs ds p1 p2 =>
        cases r2 with
        | int j =>
          simp only at h
          split at h
          · rename_i hl
            have key : ∀ n : Nat, RpAll P.K G2 (List.replicate n xs).flatten (List.replicate n ds).flatten := by
              intro n
              induction n with
              | zero => exact .nil
              | succ n ih =>
                rw [List.replicate_succ, List.replicate_succ, List.flatten_cons, List.flatten_cons]
                exact (p2.mono s2).append ih
            exact ⟨p, j, xs, rfl, rfl, (by rw [hK]; exact Same.ls fm2.sub (Same.ls s2 p1)), hl.1, hl.2.1, by rw [p2.length]; exact hl.2.2, own_new fm2 (key _) fun p G' H' s' fm' q1 q2 q3 q4 q5 => h p _ G' H' (Same.trans s1 (Same.trans s2 s')) fm' q1 q2 q3 q4 q5⟩
          · exact h.elim
        | _ => exact h.elim
      | _ => exact h.elim
theorem own_cat {op : Operator} (hK : X.K = P.K) (ho : op = .Add) (ha : PE X a (T P ca)) (hb : PE X b (T P cb)) : PE X (.BinOp a op b pos) (TOwn P (evOwn P.cal P.b0 (.bin op ca cb))) := by
  subst ho
  refine PEw (pe_op op_catR ha hb) fun σ H Q ⟨ρ, G, fm, h⟩ => ⟨ρ, G, fm, ?_⟩
  simp only [evOwn] at h
  cases hq : ev P.cal P.b0 ca ρ with
  | bad => rw [hq] at h; exact h.elim
  | er c f ρ1 => rw [hq] at h; exact h
  | ok x ρ1 =>
    rw [hq] at h
    simp only [Rs.bind_ok] at h
    intro v G1 H1 s1 fm1 r1
    refine ⟨ρ1, G1, fm1, ?_⟩
    cases hq2 : ev P.cal P.b0 cb ρ1 with
    | bad => rw [hq2] at h; exact h.elim
    | er c f ρ2 => rw [hq2] at h; exact fun cls dx G' H' s fm e => h cls dx G' H' (Same.trans s1 s) fm e
    | ok y ρ2 =>
      rw [hq2] at h
      simp only [Rs.bind_ok] at h
      intro w G2 H2 s2 fm2 r2
      cases r1 with
      | @lst p xs ds p1 p2 =>
        cases r2 with
        | @lst p' ys es p3 p4 =>
          simp only at h
          split at h
          · rename_i hl
            exact ⟨p, p', xs, ys, rfl, rfl, (by rw [hK]; exact Same.ls fm2.sub (Same.ls s2 p1)), (by rw [hK]; exact Same.ls fm2.sub p3), by rw [p2.length, p4.length]; exact lim_le hl,
              own_new fm2 ((p2.mono s2).append p4) fun p G' H' s' fm' q1 q2 q3 q4 q5 => h p _ G' H' (Same.trans s1 (Same.trans s2 s')) fm' q1 q2 q3 q4 q5⟩
          · exact h.elim
        | _ => exact h.elim
      | _ => exact h.elim
theorem own_comp {kind : Nat} {tgs : List Nat} {one : Bool} {ifs : List Expr} {scope : Scope} {own : List (Str × Nat)} {cnd : Option CE} (hc : X.calm = true) (hN : X.N.Nodup) (hi : PI X tg it (TIt P kind its)) (ok : BlkOk X.N X.env.scope scope own)
    (hg : ∀ (s : Shared) (H : Hp) (C : Addr) (cl : List (Str × Addr)) (fp : List Addr), PG (X.blk s H scope (compEnvC scope cl C X.env) fp) tg (TBG P tgs one))
    (ht : ∀ (s : Shared) (H : Hp) (C : Addr) (cl : List (Str × Addr)) (fp : List Addr), PTs (X.blk s H scope (compEnvC scope cl C X.env) fp) ifs (TBT P cnd))
    (he : ∀ (s : Shared) (H : Hp) (C : Addr) (cl : List (Str × Addr)) (fp : List Addr), PE (X.blk s H scope (compEnvC scope cl C X.env) fp) e (TB P ce)) (hs : ∀ x, foldedSetIterable it X.env x = pure x) :
    PE X (.ListComp e [⟨tg, it, ifs, 0⟩] scope pos) (TOwn P (evOwn P.cal P.b0 (.comp kind its tgs one (own.map (·.2)) cnd ce))) :=
  PEw (pe_lc hc hN hi ok hg ht he hs) fun σ H Q ⟨ρ, G, fm, h⟩ => comp_own ⟨ρ, G, fm, by simpa only [evOwn] using h⟩
theorem own_ite {c : Expr} (hc : PT X c (TT' P cc)) (ha : PE X a (TOwn P (evOwn P.cal P.b0 ca))) (hb : PE X b (TOwn P (evOwn P.cal P.b0 cb))) : PE X (.IfExp c a b pos) (TOwn P (evOwn P.cal P.b0 (.ite cc ca cb))) := by
  refine PEw (pe_ifExp hc ha hb) fun σ H Q ⟨ρ, G, fm, h⟩ => ⟨ρ, G, fm, ?_⟩
  simp only [evOwn] at h
  cases hq : evT P.cal P.b0 cc ρ with
  | bad => rw [hq] at h; exact h.elim
  | er c f ρ1 => rw [hq] at h; exact h
  | ok k ρ1 =>
    rw [hq] at h
    simp only [Rs.bind_ok] at h
    intro b G1 H1 s1 fm1 e1
    have e2 : b = k := e1
    subst e2
    cases b with
    | true => exact iteT ⟨ρ1, G1, fm1, outO_mono s1 h⟩
    | false => exact iteF ⟨ρ1, G1, fm1, outO_mono s1 h⟩
/-- sorted(..) -/
theorem own_srt {p : Pos} (hK : X.K = P.K) (gl : Gl X "sorted") (hm : X.mg "sorted" = none) (hv : bootBuiltins "sorted" = some (.builtin "sorted")) (ha : PE X a (T P ca)) (h1 : starEach [a] X.env = (false, eval a X.env) :: starEach [] X.env) :
    PE X (.Call (.Name "sorted" p) [a] [] pos) (TOwn P (evOwn P.cal P.b0 (.blt .sorted [ca]))) := by
  refine PEw (pe_callB cr_sortedI gl hm hv (pa_cons ha pa_nil h1) (by decide) (by decide) h1 rfl) fun σ H Q ⟨ρ, G, fm, h⟩ => ⟨ρ, G, fm, ?_⟩
  simp only [evOwn] at h
  cases hq : ev P.cal P.b0 ca ρ with
  | bad => rw [hq] at h; exact h.elim
  | er c f ρ1 => rw [hq] at h; exact h
  | ok x ρ1 =>
    rw [hq] at h
    simp only [Rs.bind_ok] at h
    intro v G1 H1 s1 fm1 r1
    cases r1 with
    | @lst p xs ds p1 p2 =>
      simp only [sortedD] at h
      cases hz : intsOf ds with
      | none => rw [hz] at h; exact h.elim
      | some is =>
        rw [hz] at h
        simp only [Option.map_some] at h
        have := ints_of p2 hz
        subst this
        refine ⟨p, is, rfl, hK ▸ (Same.ls fm1.sub p1).seq, fun ns' q hp hs hn => ?_⟩
        obtain rfl := PySem.W.eq_sortI hp hs
        exact own_new fm1 (ints_rpA _) (fun p G' H' s' fm' q1 q2 q3 q4 q5 => h p _ G' H' (Same.trans s1 s') fm' q1 q2 q3 q4 q5) q hn
    | _ => exact h.elim
theorem s_own {i : Nat} {x : Str} {pos' : Pos} (hN : X.N.Nodup) (hi : X.N[i]? = some x) (hx : Loc X.env.scope x) (he : PE X e (TOwn P (evOwn P.cal P.b0 ce))) (hs : swapsWith e (some (.Name x pos')) pos.line X.env = pure false) (hf : X.fn x = true ∨ X.env.scope.names.lookup x = some .local) :
    PS X (.Assign [.Name x pos'] e pos) (TSt P (.own i ce)) := PSw (ps_set hN hi hx he hs hf) fun D σ H ⟨ρ, G, fm, h⟩ => by
  simp only [evS] at h
  exact ⟨ρ, G, fm, OutO.ex h fun ds ρ1 p xs G1 H1 s1 fm1 q1 q2 q3 q4 q5 h1 => OutS.setOwn h1 fm1 q1 q2 q3 q4 q5⟩
/-- name = a comprehension: its value goes straight to the name -/
theorem s_ownLc {i : Nat} {x : Str} {pos' : Pos} {kind : Nat} {tgs : List Nat} {one : Bool} {ifs : List Expr} {scope : Scope} {own : List (Str × Nat)} {cnd : Option CE} {spos : Pos} (hc : X.calm = true) (hN : X.N.Nodup) (hy : X.N[i]? = some x) (hyl : X.env.scope.names.lookup x = some .local)
    (hsw : swapsWith (.ListComp e [⟨tg, it, ifs, 0⟩] scope pos) (some (.Name x pos')) spos.line X.env = pure true) (hi : PI X tg it (TIt P kind its)) (ok : BlkOk X.N X.env.scope scope own)
    (hg : ∀ (s : Shared) (H : Hp) (C : Addr) (cl : List (Str × Addr)) (fp : List Addr), PG (X.blk s H scope (compEnvC scope cl C X.env) fp) tg (TBG P tgs one))
    (ht : ∀ (s : Shared) (H : Hp) (C : Addr) (cl : List (Str × Addr)) (fp : List Addr), PTs (X.blk s H scope (compEnvC scope cl C X.env) fp) ifs (TBT P cnd))
    (he : ∀ (s : Shared) (H : Hp) (C : Addr) (cl : List (Str × Addr)) (fp : List Addr), PE (X.blk s H scope (compEnvC scope cl C X.env) fp) e (TB P ce)) (hs : ∀ x, foldedSetIterable it X.env x = pure x) :
    PS X (.Assign [.Name x pos'] (.ListComp e [⟨tg, it, ifs, 0⟩] scope pos) spos) (TSt P (.own i (.comp kind its tgs one (own.map (·.2)) cnd ce))) :=
  PSw (ps_setLc hc hN hy hyl hsw hi ok hg ht he hs) fun D σ H ⟨ρ, G, fm, h⟩ => by
    simp only [evS, evOwn] at h
    exact comp_own ⟨ρ, G, fm, OutO.ex h fun ds ρ1 p xs G1 H1 s1 fm1 q1 q2 q3 q4 q5 h1 => OutS.setOwn h1 fm1 q1 q2 q3 q4 q5⟩
/-- a, b = e -/
theorem s_unp {is : List Nat} {es : List Expr} {kk : Nat} {p : Pos} (hK : X.K = P.K) (hc : X.calm = true) (hN : X.N.Nodup) (hn : NmOk X es is) (he : PE X e (T P ce)) (hs : swapsWithSole [.Tuple es kk p] e pos.line X.env = pure false) (hw : swappedStores [.Tuple es kk p] e X.env = pure none)
    (h1 : (assignEach [.Tuple es kk p] X.env).map (·.2) = [assign (.Tuple es kk p) X.env]) : PS X (.Assign [.Tuple es kk p] e pos) (TSt P (.unp is ce)) := PSw (ps_asg he (tg_many (P := P) hK hc hN hn) hs hw h1) fun D σ H ⟨ρ, G, fm, h⟩ => by
  simp only [evS] at h
  refine ⟨ρ, G, fm, OutS.ex h fun d ρ1 v G1 H1 s1 fm1 r1 h1 => ?_⟩
  cases hq : setTg P.b0 is false d ρ1 with
  | none => rw [hq] at h1; exact h1.elim
  | some ρ2 =>
    rw [hq] at h1
    exact ⟨ρ1, G1, d, ρ2, fm1, r1, hq, fun σ' fm' _ => h1 σ' G1 H1 (Same.refl G1) fm'⟩
end
end Ev


set_option Elab.async false
set_option linter.all false
set_option maxRecDepth 100000
set_option maxHeartbeats 2000000
namespace Ev
open PySem PySem.Spec PyProof.Rows L2
section
variable {X : Cx}
/-- a name += n -/
def ipD (op : Operator) : TIp := fun x y H Q => ∃ i j k, x = .int i ∧ y = .int j ∧ augD op (.int i) (.int j) = some (.int k) ∧ Q (.int k) H
theorem ip_D {op : Operator} : PIp X op (ipD op) := by
  intro pins s σ H x y v u Q I r1 r2 h
  obtain ⟨i, j, k, rfl, rfl, e, q⟩ := h
  cases op with
  | Add => cases e; exact ip_add pins s σ H _ _ _ _ Q I r1 r2 ⟨i, j, rfl, rfl, q⟩
  | Sub => cases e; exact ip_sub pins s σ H _ _ _ _ Q I r1 r2 ⟨i, j, rfl, rfl, q⟩
  | _ => cases e
theorem augD_int {op : Operator} {i : Int} {y d : D} (h : augD op (.int i) y = some d) : ∃ j k, y = .int j ∧ d = .int k := by
  cases op <;> cases y <;> first | (cases h; exact ⟨_, _, rfl, rfl⟩) | cases h
/-- xs[i], by values -/
def rGetL : V → V → Hp → VK → Prop := fun o i H Q => ∃ p xs k v, o = .ref p ∧ i = .int k ∧ H p = some (.lst xs) ∧ atI xs k = some v ∧ Q v H
theorem get_list : PGet X rGetL := by
  intro pins s σ H x y v u Q I rx ry h
  obtain ⟨p, xs, i, z, rfl, rfl, hq, he, q⟩ := h
  cases rx
  obtain ⟨t, rfl⟩ := ry
  obtain ⟨its, r, pl, hz⟩ := I.list (.inl (.inl hq))
  obtain ⟨j, h1, h2, h3, h4, h5⟩ := atI_get he
  obtain ⟨w, ew, rw'⟩ := r.get h2
  have hl := r.length
  have hn := line63
  have fin : EP X pins σ Q w s := ⟨z, H, I, rw', q⟩
  by_cases h0 : 0 ≤ i
  · have hj : i.toNat = j := by
      rw [seqIndex_of h0 h5] at h1
      exact Option.some.inj h1
    exact PySem.wpAny_getItem_list pl.isList h0 (by omega) (by rw [hj]; simpa using ew) fin
  · have hj : (i + (its.toArray.size : Int)).toNat = j := by
      rw [seqIndex_neg (by omega) h4] at h1
      rw [List.size_toArray, ← hl]
      exact Option.some.inj h1
    exact PySem.wpAny_getItem_list_neg pl.isList (by omega) (by rw [List.size_toArray] <;> omega) (by omega) (by rw [hj]; simpa using ew) fin
theorem PSet.or {t t' : TSet} (h : PSet X t) (h' : PSet X t') : PSet X (fun o i v H Q => t o i v H Q ∨ t' o i v H Q) := by
  intro pins s σ H o i v ov iv u Q I r1 r2 r3 q
  rcases q with q | q
  · exact h pins s σ H o i v ov iv u Q I r1 r2 r3 q
  · exact h' pins s σ H o i v ov iv u Q I r1 r2 r3 q
theorem PGet.or {t t' : V → V → Hp → VK → Prop} (h : PGet X t) (h' : PGet X t') : PGet X (fun o i H Q => t o i H Q ∨ t' o i H Q) := by
  intro pins s σ H o i ov iv Q I r1 r2 q
  rcases q with q | q
  · exact h pins s σ H o i ov iv Q I r1 r2 q
  · exact h' pins s σ H o i ov iv Q I r1 r2 q
theorem set_dict (hu : X.A.units + 100 < cLine) : PSet X (fun o i v H Q => ∃ a H', o = .ref a ∧ DPut H a i v H' ∧ Q H') := by
  rintro pins s σ H o i v ov iv u Q I r1 r2 r3 ⟨a, H', rfl, g, q⟩
  obtain rfl : ov = Value.ref a := r1
  exact d_setItem (by omega) I g r2 r3 fun s4 I4 => ⟨H', I4, q⟩
theorem get_dict (hu : X.A.units + 100 < cLine) : PGet X (fun o i H Q => ∃ a v, o = .ref a ∧ DGet H a i (some v) ∧ Q v H) := by
  rintro pins s σ H o i ov iv Q I r1 r2 ⟨a, w, rfl, g, q⟩
  obtain rfl : ov = Value.ref a := r1
  exact d_getItem (by omega) I g r2 fun w' s' I' rw' => ⟨w, H, I', rw', q⟩
end
section
variable {P : Pm} {X : Cx} {a b c e tg it : Expr} {ca cb cc ce ci : CE} {cs its : List CE} {pos : Pos} {st : Stmt} {sts rest : List Stmt}
theorem ow_at {ρ : Ro} {G H : Hp} {σ : L2.St} {i : Nat} {ds : List D} (fm : P.Fm ρ G σ H) (h : ρ[i]? = some (some (.list ds, true))) : ∃ p xs, σ[i]? = some (some (.ref p)) ∧ H p = some (.lst xs) ∧ RpAll P.K G xs ds := by
  obtain ⟨p, xs, q1, q3, _, _, q6⟩ := fm.owL h
  exact ⟨p, xs, q1, q3, q6⟩
theorem s_app {i : Nat} {x : Str} {px apos cpos : Pos} (hi : X.N[i]? = some x) (hv : Vis X.env.scope x) (hd : (x == ("__debug__" : Str)) = false) (hcd : (x == ("__classdict__" : Str)) = false) (he : PE X e (T P ce))
    (h1 : attributeBase (.Name x px) "append" X.env (eval (.Name x px) X.env) = eval (.Name x px) X.env) (h2 : ((backTo cpos (starEach [e] X.env)).all (fun x => !x.1) && (backToKw cpos (keywordEach [] X.env)).all (fun x => x.1.isSome) && decide ([e].length + ([] : List Keyword).length + (if ([] : List Keyword).isEmpty then 0 else 1) < 30)) = true)
    (h3 : (apos.endLine == cpos.line) = true) (h4 : starEach [e] X.env = (false, eval e X.env) :: starEach [] X.env) (h5 : (backTo cpos (starEach [] X.env)).any (·.1) = false)
    (hs : swapsWith (.Call (.Attribute (.Name x px) "append" apos) [e] [] cpos) none pos.line X.env = pure false) : PS X (.Expr (.Call (.Attribute (.Name x px) "append" apos) [e] [] cpos) pos) (TSt P (.app i ce)) := by
  refine PSw (ps_expr (pe_bm PySem.F.plainAttrs_list PySem.F.slot_list_append PySem.F.type_list_append mt_append (pe_var hi hv hd hcd) (pa_cons he pa_nil h4) h1 h2 h3 h4 h5) hs) fun D σ H ⟨ρ, G, fm, h⟩ => ?_
  simp only [evS] at h
  cases hr : ρ[i]? with
  | none => rw [hr] at h; exact h.elim
  | some o =>
  match o, hr, h with
  | none, hr, h => rw [hr] at h; exact h.elim
  | some (d0, false), hr, h => rw [hr] at h; cases d0 <;> exact h.elim
  | some (.none, true), hr, h => rw [hr] at h; exact h.elim
  | some (.bool _, true), hr, h => rw [hr] at h; exact h.elim
  | some (.int _, true), hr, h => rw [hr] at h; exact h.elim
  | some (.str _, true), hr, h => rw [hr] at h; exact h.elim
  | some (.tuple _, true), hr, h => rw [hr] at h; exact h.elim
  | some (.dict _, true), hr, h => rw [hr] at h; exact h.elim
  | some (.list ds0, true), hr, h =>
    rw [hr] at h
    simp only at h
    obtain ⟨p, xs, q1, q3, _⟩ := ow_at fm hr
    refine ⟨_, q1, .inl ⟨rfl, xs, .inl (.inl q3)⟩, ρ, G, fm, OutS.ex h fun d ρ1 v G1 H1 s1 fm1 r1 h1 => ?_⟩
    cases hr1 : ρ1[i]? with
    | none => rw [hr1] at h1; exact h1.elim
    | some o1 =>
    match o1, hr1, h1 with
    | none, hr1, h1 => rw [hr1] at h1; exact h1.elim
    | some (d1, false), hr1, h1 => rw [hr1] at h1; cases d1 <;> exact h1.elim
    | some (d1, true), hr1, h1 =>
      rw [hr1] at h1
      cases d1 <;> try exact h1.elim
      rename_i es
      obtain ⟨p1, ys, w1, w3, w4⟩ := ow_at fm1 hr1
      rw [q1] at w1
      cases w1
      simp only at h1
      split at h1
      case isFalse => exact h1.elim
      case isTrue hl =>
      exact ⟨p, ys, v, rfl, rfl, w3, by rw [w4.length]; exact Nat.lt_of_lt_of_le hl (lim_le (Nat.le_refl _)), OutS.next h1 (fm_upd fm1 hr1 q1 (w4.snoc r1))⟩
theorem s_sub {i : Nat} {x : Str} {px ps : Pos} (hu : X.A.units + 100 < cLine) (hi : X.N[i]? = some x) (hv : Vis X.env.scope x) (hd : (x == ("__debug__" : Str)) = false) (hcd : (x == ("__classdict__" : Str)) = false) (hb : PE X b (T P cb)) (he : PE X e (T P ce))
    (ha : ∀ v, assign (.Subscript (.Name x px) b ps) X.env v = (do
      let ov ← holding [v] (eval (.Name x px) X.env)
      let iv ← holding [v, ov] (eval b X.env)
      standAt ps
      holding [v, ov, iv] (setItem ov iv v)
      release [v, ov, iv] []))
    (hs : swapsWithSole [.Subscript (.Name x px) b ps] e pos.line X.env = pure false) (hw : swappedStores [.Subscript (.Name x px) b ps] e X.env = pure none)
    (h1 : (assignEach [.Subscript (.Name x px) b ps] X.env).map (·.2) = [assign (.Subscript (.Name x px) b ps) X.env]) : PS X (.Assign [.Subscript (.Name x px) b ps] e pos) (TSt P (.sub i cb ce)) := by
  refine PSw (ps_asg he (pg_sub (pe_var hi hv hd hcd) hb (PSet.or set_list (set_dict hu)) ha) hs hw h1) fun D σ H ⟨ρ, G, fm, h⟩ => ?_
  simp only [evS] at h
  cases hr : ρ[i]? with
  | none => rw [hr] at h; exact h.elim
  | some o =>
  match o, hr, h with
  | none, hr, h => rw [hr] at h; exact h.elim
  | some (d0, false), hr, h => rw [hr] at h; exact h.elim
  | some (d0, true), hr, h =>
    rw [hr] at h
    simp only at h
    obtain ⟨p, o0, q1, _⟩ := fm.ow i d0 hr
    refine ⟨ρ, G, fm, OutS.ex h fun d ρ1 v G1 H1 s1 fm1 r1 h1 => ⟨_, q1, ρ1, G1, fm1, OutS.ex h1 fun k ρ2 w G2 H2 s2 fm2 r2 h2 => ?_⟩⟩
    cases hr1 : ρ2[i]? with
    | none => rw [hr1] at h2; exact h2.elim
    | some o1 =>
    match o1, hr1, h2 with
    | none, hr1, h2 => rw [hr1] at h2; exact h2.elim
    | some (d1, false), hr1, h2 => rw [hr1] at h2; cases d1 <;> exact h2.elim
    | some (d1, true), hr1, h2 =>
      rw [hr1] at h2
      cases d1 with
      | list es =>
        obtain ⟨p1, ys, w1, w3, w4⟩ := ow_at fm2 hr1
        rw [q1] at w1
        cases w1
        cases r2 with
        | int j =>
          simp only at h2
          cases hx : ixN es.length j with
          | none => rw [hx] at h2; exact h2.elim
          | some m =>
            rw [hx] at h2
            exact .inl ⟨p, ys, j, m, rfl, rfl, w3, by rw [w4.length]; exact hx, OutS.next h2 (fm_upd fm2 hr1 q1 (w4.set m (r1.mono s2)))⟩
        | _ => exact h2.elim
      | dict es =>
        obtain ⟨p1, kvs, w1, w3, _, _, w4⟩ := fm2.owD hr1
        rw [q1] at w1
        cases w1
        simp only at h2
        split at h2
        · rename_i hk
          obtain ⟨kk, rfl⟩ := keyV r2 hk.1
          exact .inr ⟨p, _, rfl, DPut.k w3 (by rw [w4.length]; exact Nat.lt_of_lt_of_le hk.2 (lim_le (Nat.le_refl _))), OutS.next h2 (fm_updO fm2 hr1 q1 (show OwH P.K G2 (.dict _) (.dK _) from RpKv.put r2 (r1.mono s2) w4))⟩
        · exact h2.elim
      | _ => exact h2.elim
theorem s_aug {op : Operator} {i : Nat} {x : Str} {pos' : Pos} (hN : X.N.Nodup) (hi : X.N[i]? = some x) (hx : Loc X.env.scope x) (he : PE X e (T P ce)) (hf : X.fn x = true ∨ X.env.scope.names.lookup x = some .local) : PS X (.AugAssign (.Name x pos') op e pos) (TSt P (.aug op i ce)) := by
  refine PSw (ps_aug hN hi hx he ip_D hf) fun D σ H ⟨ρ, G, fm, h⟩ => ?_
  simp only [evS] at h
  cases hr : ρ[i]? with
  | none => rw [hr] at h; exact h.elim
  | some o =>
  match o, hr, h with
  | none, hr, h => rw [hr] at h; exact h.elim
  | some (d0, true), hr, h => rw [hr] at h; cases d0 <;> exact h.elim
  | some (d0, false), hr, h =>
    rw [hr] at h
    obtain ⟨v0, q1, q2⟩ := fm.un i d0 hr
    cases q2 with
    | int k =>
      simp only at h
      refine ⟨_, q1, ρ, G, fm, OutS.ex h fun y ρ1 v G1 H1 s1 fm1 r1 h1 => ?_⟩
      cases hg : augD op (.int k) y with
      | none => rw [hg] at h1; exact h1.elim
      | some d =>
        rw [hg] at h1
        obtain ⟨j, m, rfl, rfl⟩ := augD_int hg
        cases r1
        exact ⟨k, j, m, rfl, rfl, hg, OutS.set h1 fm1 (.int m)⟩
    | _ => exact h.elim
theorem s_aus {op : Operator} {i : Nat} {x : Str} {px ps : Pos} (hu : X.A.units + 100 < cLine) (hi : X.N[i]? = some x) (hv : Vis X.env.scope x) (hd : (x == ("__debug__" : Str)) = false) (hcd : (x == ("__classdict__" : Str)) = false) (hb : PE X b (T P cb)) (he : PE X e (T P ce))
    (ha : ∀ ov iv new, augStore b ov iv new = (do holding [new, ov, iv] (setItem ov iv new); release [new, ov, iv] []; pure .next)) : PS X (.AugAssign (.Subscript (.Name x px) b ps) op e pos) (TSt P (.aus op i cb ce)) := by
  refine PSw (ps_augS (pe_var hi hv hd hcd) hb (PGet.or get_list (get_dict hu)) he ip_D (PSet.or set_list (set_dict hu)) ha) fun D σ H ⟨ρ, G, fm, h⟩ => ?_
  simp only [evS] at h
  cases hr : ρ[i]? with
  | none => rw [hr] at h; exact h.elim
  | some o =>
  match o, hr, h with
  | none, hr, h => rw [hr] at h; exact h.elim
  | some (d0, false), hr, h => rw [hr] at h; exact h.elim
  | some (d0, true), hr, h =>
    rw [hr] at h
    simp only at h
    obtain ⟨p, o0, q1, _⟩ := fm.ow i d0 hr
    refine ⟨_, q1, ρ, G, fm, OutS.ex h fun k ρ1 v G1 H1 s1 fm1 r1 h1 => ?_⟩
    cases hr1 : ρ1[i]? with
    | none => rw [hr1] at h1; exact h1.elim
    | some o1 =>
    match o1, hr1, h1 with
    | none, hr1, h1 => rw [hr1] at h1; exact h1.elim
    | some (d1, false), hr1, h1 => rw [hr1] at h1; cases d1 <;> exact h1.elim
    | some (d1, true), hr1, h1 =>
      rw [hr1] at h1
      by_cases isd : ∃ es, d1 = .dict es
      · obtain ⟨es, rfl⟩ := isd
        obtain ⟨p1, kvs, w1, w3, _, _, w4⟩ := fm1.owD hr1
        rw [q1] at w1
        cases w1
        simp only at h1
        split at h1
        case isFalse => exact h1.elim
        case isTrue hk =>
        obtain ⟨kk, rfl⟩ := keyV r1 hk
        cases hm : dgetD es k with
        | none => rw [hm] at h1; exact h1.elim
        | some dm =>
          rw [hm] at h1
          obtain ⟨vm, e1, e2⟩ := w4.get r1 hm
          cases e2 with
          | int z =>
            simp only at h1
            refine .inr ⟨p, .int z, rfl, by rw [← e1]; exact DGet.k w3, ρ1, G1, fm1, OutS.ex h1 fun y ρ2 w G2 H2 s2 fm2 r2 h2 => ?_⟩
            cases hr2 : ρ2[i]? with
            | none => rw [hr2] at h2; exact h2.elim
            | some o2 =>
            match o2, hr2, h2 with
            | none, hr2, h2 => rw [hr2] at h2; exact h2.elim
            | some (d2, false), hr2, h2 => rw [hr2] at h2; cases d2 <;> exact h2.elim
            | some (d2, true), hr2, h2 =>
              rw [hr2] at h2
              cases d2 <;> try exact h2.elim
              rename_i es2
              obtain ⟨p2, kvs2, w1, w5, _, _, w6⟩ := fm2.owD hr2
              rw [q1] at w1
              cases w1
              cases hg : augD op (.int z) y with
              | none => rw [hg] at h2; exact h2.elim
              | some d =>
                rw [hg] at h2
                obtain ⟨j2, m2, rfl, rfl⟩ := augD_int hg
                cases r2
                simp only at h2
                split at h2
                case isFalse => exact h2.elim
                case isTrue hl =>
                exact ⟨z, j2, m2, rfl, rfl, hg, .inr ⟨p, _, rfl, DPut.k w5 (by rw [w6.length]; exact Nat.lt_of_lt_of_le hl (lim_le (Nat.le_refl _))), OutS.next h2 (fm_updO fm2 hr2 q1 (show OwH P.K G2 (.dict _) (.dK _) from RpKv.put (r1.mono s2) (.int m2) w6))⟩⟩
          | _ => exact h1.elim
      cases d1 <;> try exact h1.elim
      case dict es => exact absurd ⟨es, rfl⟩ isd
      rename_i es
      obtain ⟨p1, ys, w1, w3, w4⟩ := ow_at fm1 hr1
      rw [q1] at w1
      cases w1
      cases r1 with
      | int j =>
        simp only at h1
        cases hx : ixN es.length j with
        | none => rw [hx] at h1; exact h1.elim
        | some m =>
          rw [hx] at h1
          simp only at h1
          cases hm : es[m]? with
          | none => rw [hm] at h1; exact h1.elim
          | some dm =>
            rw [hm] at h1
            obtain ⟨vm, e1, e2⟩ := w4.get hm
            cases e2 with
            | int z =>
              simp only at h1
              refine .inl ⟨p, ys, j, .int z, rfl, rfl, w3, ?_, ρ1, G1, fm1, OutS.ex h1 fun y ρ2 w G2 H2 s2 fm2 r2 h2 => ?_⟩
              · unfold atI
                rw [w4.length, hx]
                exact e1
              · cases hr2 : ρ2[i]? with
                | none => rw [hr2] at h2; exact h2.elim
                | some o2 =>
                match o2, hr2, h2 with
                | none, hr2, h2 => rw [hr2] at h2; exact h2.elim
                | some (d2, false), hr2, h2 => rw [hr2] at h2; cases d2 <;> exact h2.elim
                | some (d2, true), hr2, h2 =>
                  rw [hr2] at h2
                  cases d2 <;> try exact h2.elim
                  rename_i es2
                  obtain ⟨p2, ys2, w1, w5, w6⟩ := ow_at fm2 hr2
                  rw [q1] at w1
                  cases w1
                  cases hg : augD op (.int z) y with
                  | none => rw [hg] at h2; exact h2.elim
                  | some d =>
                    rw [hg] at h2
                    obtain ⟨j2, m2, rfl, rfl⟩ := augD_int hg
                    cases r2
                    simp only at h2
                    split at h2
                    case isFalse => exact h2.elim
                    case isTrue hl =>
                    exact ⟨z, j2, m2, rfl, rfl, hg, .inl ⟨p, ys2, j, m, rfl, rfl, w5, by rw [w6.length, hl]; exact hx, OutS.next h2 (fm_upd fm2 hr2 q1 (w6.set m (.int m2)))⟩⟩
            | _ => exact h1.elim
      | _ => exact h1.elim
/-! dicts of one's own -/
theorem pairs_rp {K : PySem.W.Frag} {G H : Hp} (sg : Same G H) : ∀ {xs : List V} {ds : List D} {ps : List (D × D)}, RpAll K G xs ds → pairsD ds = some ps → ∃ (as : List Addr) (kvs : List (Key × V)), xs = as.map V.ref ∧ Paired (fun p kv => SqT K H p [kV kv.1, kv.2]) as kvs ∧ RpKv K G kvs ps
  | _, _, ps, .nil, h => by
    cases h
    exact ⟨[], [], rfl, .nil, .nil⟩
  | _, d :: ds, ps, .cons a b, h => by
    cases d with
    | tuple es =>
      match es, a, h with
      | [k, v], a, h =>
        have h' : (if isKey k = true then (pairsD ds).map ((k, v) :: ·) else none) = some ps := h
        split at h'
        · rename_i hk
          cases hp : pairsD ds with
          | none => rw [hp] at h'; cases h'
          | some ps' =>
            rw [hp] at h'
            cases h'
            obtain ⟨as, kvs, rfl, q1, q2⟩ := pairs_rp sg b hp
            cases a with
            | @tup t ts _ w1 w2 =>
              cases w2 with
              | cons rk w2 =>
                cases w2 with
                | cons rv w2 =>
                  cases w2
                  obtain ⟨kk, rfl⟩ := keyV rk hk
                  exact ⟨t :: as, (kk, _) :: kvs, rfl, .cons (Same.seqT sg w1) q1, .cons rk rv q2⟩
        · cases h'
      | [], a, h => cases h
      | [_], a, h => cases h
      | _ :: _ :: _ :: _, a, h => cases h
    | _ => cases h
theorem merge_rp {K : PySem.W.Frag} {G : Hp} : ∀ {more : List (Key × V)} {ps : List (D × D)} {kvs : List (Key × V)} {ds : List (D × D)}, RpKv K G more ps → RpKv K G kvs ds → RpKv K G (mergeK kvs more) (ps.foldl (fun acc p => dputD acc p.1 p.2) ds)
  | _, _, _, _, .nil, h => h
  | _, _, _, _, .cons a b c, h => by
    have q := merge_rp c (RpKv.put a b h)
    exact q
theorem own_dmk {p : Pos} (hK : X.K = P.K) (hc : X.calm = true) (gl : Gl X "dict") (hm : X.mg "dict" = none) (ha : PE X a (T P ca)) (h1 : starEach [a] X.env = (false, eval a X.env) :: starEach [] X.env) :
    PE X (.Call (.Name "dict" p) [a] [] pos) (TOwnD P (evDmk P.cal P.b0 ca)) := by
  refine PEw (pe_callTy (call_dictP hc) gl hm (by decide +kernel) (pa_cons ha pa_nil h1) (by decide) (by decide) h1 rfl) fun σ H Q ⟨ρ, G, fm, h⟩ => ⟨ρ, G, fm, ?_⟩
  unfold evDmk at h
  cases hq : ev P.cal P.b0 ca ρ with
  | bad => rw [hq] at h; exact h.elim
  | er c f ρ1 => rw [hq] at h; exact h
  | ok x ρ1 =>
    rw [hq] at h
    simp only [Rs.bind_ok] at h
    intro v G1 H1 s1 fm1 r1
    cases r1 with
    | @lst l xs ds p1 p2 =>
      simp only at h
      cases hz : pairsD ds with
      | none => rw [hz] at h; exact h.elim
      | some ps =>
        rw [hz] at h
        simp only at h
        obtain ⟨as, kvs, rfl, q1, q2⟩ := pairs_rp fm1.sub p2 hz
        refine ⟨l, as, kvs, rfl, hK ▸ (Same.ls fm1.sub p1).seq, hK ▸ q1, ?_⟩
        exact own_newD fm1 (merge_rp q2 .nil) (fun p G' H' s' fm' w1 w2 w3 w4 w5 => h p _ G' H' (Same.trans s1 s') fm' w1 w2 w3 w4 w5)
    | _ => exact h.elim
theorem s_dmk {i : Nat} {x : Str} {p pos' : Pos} (hK : X.K = P.K) (hc : X.calm = true) (hN : X.N.Nodup) (hi : X.N[i]? = some x) (hx : Loc X.env.scope x) (gl : Gl X "dict") (hm : X.mg "dict" = none) (ha : PE X a (T P ca)) (h1 : starEach [a] X.env = (false, eval a X.env) :: starEach [] X.env) {p2 : Pos}
    (hf : X.fn x = true ∨ X.env.scope.names.lookup x = some .local) : PS X (.Assign [.Name x pos'] (.Call (.Name "dict" p) [a] [] p2) pos) (TSt P (.dmk i ca)) := PSw (ps_set hN hi hx (own_dmk hK hc gl hm ha h1) rfl hf) fun D σ H ⟨ρ, G, fm, h⟩ => by
  simp only [evS] at h
  exact ⟨ρ, G, fm, OutOD.ex h fun ds ρ1 p xs G1 H1 s1 fm1 q1 q2 q3 q4 q5 h1 => OutS.setOwnD h1 fm1 q1 q2 q3 q4 q5⟩
theorem own_dcp {kx vx : Expr} {ck cv : CE} {kind : Nat} {tgs : List Nat} {one : Bool} {ifs : List Expr} {scope : Scope} {own : List (Str × Nat)} {cnd : Option CE} (hc : X.calm = true) (hN : X.N.Nodup) (hi : PI X tg it (TIt P kind its)) (ok : BlkOk X.N X.env.scope scope own)
    (hg : ∀ (s : Shared) (H : Hp) (C : Addr) (cl : List (Str × Addr)) (fp : List Addr), PG (X.blk s H scope (compEnvC scope cl C X.env) fp) tg (TBG P tgs one))
    (ht : ∀ (s : Shared) (H : Hp) (C : Addr) (cl : List (Str × Addr)) (fp : List Addr), PTs (X.blk s H scope (compEnvC scope cl C X.env) fp) ifs (TBT P cnd))
    (hk : ∀ (s : Shared) (H : Hp) (C : Addr) (cl : List (Str × Addr)) (fp : List Addr), PE (X.blk s H scope (compEnvC scope cl C X.env) fp) kx (TB P ck))
    (he : ∀ (s : Shared) (H : Hp) (C : Addr) (cl : List (Str × Addr)) (fp : List Addr), PE (X.blk s H scope (compEnvC scope cl C X.env) fp) vx (TB P cv)) (hs : ∀ x, foldedSetIterable it X.env x = pure x) :
    PE X (.DictComp kx vx [⟨tg, it, ifs, 0⟩] scope pos) (TOwnD P (evDcp P.cal P.b0 kind its tgs one (own.map (·.2)) cnd ck cv)) :=
  PEw (pe_dc hc hN hi ok hg ht hk he hs) fun σ H Q h => dcp_own h
/-- a comprehension's dict goes straight to a name -/
theorem ps_setDc {i : Nat} {y : Str} {py : Pos} {kx vx iter : Expr} {ifs : List Expr} {scope : Scope} {own : List (Str × Nat)} {dpos spos : Pos} {wi : TI} {g : TG} {tt : TT} {tk tv : TE} (hcalm : X.calm = true) (hnd : X.N.Nodup) (hy : X.N[i]? = some y) (hyl : X.env.scope.names.lookup y = some .local)
    (hsw : swapsWith (.DictComp kx vx [⟨tg, iter, ifs, 0⟩] scope dpos) (some (.Name y py)) spos.line X.env = pure true) (hi : PI X tg iter wi) (ok : BlkOk X.N X.env.scope scope own)
    (hg : ∀ (s : Shared) (H : Hp) (C : Addr) (cl : List (Str × Addr)) (fp : List Addr), PG (X.blk s H scope (compEnvC scope cl C X.env) fp) tg g) (ht : ∀ (s : Shared) (H : Hp) (C : Addr) (cl : List (Str × Addr)) (fp : List Addr), PTs (X.blk s H scope (compEnvC scope cl C X.env) fp) ifs tt)
    (hk : ∀ (s : Shared) (H : Hp) (C : Addr) (cl : List (Str × Addr)) (fp : List Addr), PE (X.blk s H scope (compEnvC scope cl C X.env) fp) kx tk)
    (he : ∀ (s : Shared) (H : Hp) (C : Addr) (cl : List (Str × Addr)) (fp : List Addr), PE (X.blk s H scope (compEnvC scope cl C X.env) fp) vx tv) (hfold : ∀ x, foldedSetIterable iter X.env x = pure x) :
    PS X (.Assign [.Name y py] (.DictComp kx vx [⟨tg, iter, ifs, 0⟩] scope dpos) spos) (tAsg (tDc wi g tt tk tv (own.map (·.2))) (gName i)) := by
  constructor
  intro pins s σ H D I q0
  rw [exec_Assign_Name_used y py _ spos hsw]
  refine wpAny_bind (wpAny_standAt (wpAny_bind ?_))
  show wpAny _ X.A (do let _ ← comprehension (.DictComp kx vx [⟨tg, iter, ifs, 0⟩] scope dpos) scope X.env (firstIterPos [⟨tg, iter, ifs, 0⟩] dpos) newDict false (eval iter X.env) (some (assign (.Name y py) X.env))) _ _ s
  have q1 : tDc wi g tt tk tv (own.map (·.2)) σ H (fun x H1 => gName i x σ H1 D.nx) := q0
  refine wpAny_bind (thn (dc_core (Qf := fun _ s' => SP X pins D .next s') hcalm hnd I hi ok hg ht hk he hfold q1 fun L C s' m H' I' q hn f => ?_) fun _ s' hq => wpAny_pure (wpAny_pure hq))
  show wpAny _ _ (assign (.Name y py) X.env (.ref L)) _ _ _
  refine wpAny_assign_Name (store_ok2 (v := V.ref L) I' hnd hy (.inl hyl) rfl (fun s2 I2 ⟨a, sb, ha⟩ => ?_) (.inr hyl))
  obtain ⟨g0, g1, g2, g3, g4, g5⟩ := f
  have ne : C ≠ a := by
    rcases ha with z | z
    · rw [z]; exact g1
    · exact fun e => g4 y a z e.symm
  exact ⟨m, hn.sameBut sb ne, fun h3 sb3 => ⟨_, H', I2.turned (t' := s2.toks) (fun b o hb e => (sb3.2 b hb).trans e) g0 g1 g3 g4 g5, q⟩⟩
theorem s_dcp {i : Nat} {x : Str} {pos' spos : Pos} {kx vx : Expr} {ck cv : CE} {kind : Nat} {tgs : List Nat} {one : Bool} {ifs : List Expr} {scope : Scope} {own : List (Str × Nat)} {cnd : Option CE} (hc : X.calm = true) (hN : X.N.Nodup) (hy : X.N[i]? = some x) (hyl : X.env.scope.names.lookup x = some .local)
    (hsw : swapsWith (.DictComp kx vx [⟨tg, it, ifs, 0⟩] scope pos) (some (.Name x pos')) spos.line X.env = pure true) (hi : PI X tg it (TIt P kind its)) (ok : BlkOk X.N X.env.scope scope own)
    (hg : ∀ (s : Shared) (H : Hp) (C : Addr) (cl : List (Str × Addr)) (fp : List Addr), PG (X.blk s H scope (compEnvC scope cl C X.env) fp) tg (TBG P tgs one))
    (ht : ∀ (s : Shared) (H : Hp) (C : Addr) (cl : List (Str × Addr)) (fp : List Addr), PTs (X.blk s H scope (compEnvC scope cl C X.env) fp) ifs (TBT P cnd))
    (hk : ∀ (s : Shared) (H : Hp) (C : Addr) (cl : List (Str × Addr)) (fp : List Addr), PE (X.blk s H scope (compEnvC scope cl C X.env) fp) kx (TB P ck))
    (he : ∀ (s : Shared) (H : Hp) (C : Addr) (cl : List (Str × Addr)) (fp : List Addr), PE (X.blk s H scope (compEnvC scope cl C X.env) fp) vx (TB P cv)) (hs : ∀ x, foldedSetIterable it X.env x = pure x) :
    PS X (.Assign [.Name x pos'] (.DictComp kx vx [⟨tg, it, ifs, 0⟩] scope pos) spos) (TSt P (.dcp i kind its tgs one (own.map (·.2)) cnd ck cv)) :=
  PSw (ps_setDc hc hN hy hyl hsw hi ok hg ht hk he hs) fun D σ H ⟨ρ, G, fm, h⟩ => by
    simp only [evS] at h
    exact dcp_own ⟨ρ, G, fm, OutOD.ex h fun ds ρ1 p xs G1 H1 s1 fm1 q1 q2 q3 q4 q5 h1 => OutS.setOwnD h1 fm1 q1 q2 q3 q4 q5⟩
theorem s_dcpN {i : Nat} {x : Str} {pos' spos : Pos} {kx vx : Expr} {ck cv : CE} {kind : Nat} {tgs : List Nat} {one : Bool} {ifs : List Expr} {scope : Scope} {own : List (Str × Nat)} {cnd : Option CE} (hN : X.N.Nodup) (hi : X.N[i]? = some x) (hx : Loc X.env.scope x)
    (he : PE X (.DictComp kx vx [⟨tg, it, ifs, 0⟩] scope pos) (TOwnD P (evDcp P.cal P.b0 kind its tgs one (own.map (·.2)) cnd ck cv))) (hs : swapsWith (.DictComp kx vx [⟨tg, it, ifs, 0⟩] scope pos) (some (.Name x pos')) spos.line X.env = pure false) (hf : X.fn x = true ∨ X.env.scope.names.lookup x = some .local) :
    PS X (.Assign [.Name x pos'] (.DictComp kx vx [⟨tg, it, ifs, 0⟩] scope pos) spos) (TSt P (.dcp i kind its tgs one (own.map (·.2)) cnd ck cv)) := PSw (ps_set hN hi hx he hs hf) fun D σ H ⟨ρ, G, fm, h⟩ => by
  simp only [evS] at h
  exact ⟨ρ, G, fm, OutOD.ex h fun ds ρ1 p xs G1 H1 s1 fm1 q1 q2 q3 q4 q5 h1 => OutS.setOwnD h1 fm1 q1 q2 q3 q4 q5⟩
theorem s_for {kind : Nat} {tgs : List Nat} {one : Bool} {body : List Stmt} {cb : List CS} (hp : PassesOwn (model X.prog X.w) X.A X.env X.xe) (hc : X.calm = true) (hi : PI X tg it (TIt P kind its)) (hg : PG X tg (TTg P tgs one)) (hb : PSs X body (TSs P cb)) (hs : ∀ x, foldedSetIterable it X.env x = pure x) :
    PS X (.For tg it body [] pos) (TSt P (.fr kind its tgs one cb)) := by
  refine PSw (ps_for hp hc hi hg hb hs) fun D σ0 H0 ⟨ρ, G, fm, h⟩ => ?_
  simp only [evS] at h
  refine ⟨ρ, G, fm, OutS.ex h fun xs ρ1 J G1 H1 s1 fm1 wk h1 => ?_⟩
  refine ⟨fun i m σ H => m = xs.length - i ∧ i ≤ xs.length ∧ ∃ ρi Gi, Same G1 Gi ∧ P.Fm ρi Gi σ H ∧ OutS P Gi (forL (setTg P.b0 tgs one) (evB P.cal P.b0 cb) (xs.drop i) ρi) D, ⟨xs.length, by simp, Nat.zero_le _, ρ1, G1, Same.refl _, fm1, by simpa using h1⟩, ?_⟩
  rintro i m σ H ⟨rfl, hle, ρi, Gi, si, fmi, hf⟩
  obtain ⟨wgo, wst⟩ := wk Gi H si fmi.sub
  by_cases hlt : i < xs.length
  · right
    have hx : xs[i]? = some xs[i] := List.getElem?_eq_getElem hlt
    obtain ⟨go, yl⟩ := wgo i _ hx
    rw [List.drop_eq_getElem_cons hlt] at hf
    refine ⟨go, fun σ' H' => ∃ ρn Gn, Same G1 Gn ∧ P.Fm ρn Gn σ' H' ∧ OutS P Gn (forL (setTg P.b0 tgs one) (evB P.cal P.b0 cb) (xs.drop (i + 1)) ρn) D, fun σ' H' ⟨ρn, Gn, q1, q2, q3⟩ => ⟨xs.length - (i + 1), by omega, rfl, hlt, ρn, Gn, q1, q2, q3⟩, fun x H2 hy => ?_⟩
    obtain ⟨G2, ex, rx⟩ := yl x H2 hy
    unfold forL at hf
    cases hst : setTg P.b0 tgs one xs[i] ρi with
    | none => rw [hst] at hf; exact hf.elim
    | some ρ' =>
      rw [hst] at hf
      simp only at hf
      refine ⟨ρi, G2, xs[i], ρ', fmi.ext ex, rx, hst, fun σ2 fm2 _ => ⟨ρ', G2, fm2, ?_⟩⟩
      have hf' := OutS.mono ex.g hf
      cases hB : evB P.cal P.b0 cb ρ' with
      | nx ρ2 => rw [hB] at hf'; exact fun σ3 G3 H3 s3 fm3 => ⟨ρ2, G3, Same.trans si (Same.trans ex.g s3), fm3, OutS.mono s3 hf'⟩
      | ct ρ2 => rw [hB] at hf'; exact fun σ3 G3 H3 s3 fm3 => ⟨ρ2, G3, Same.trans si (Same.trans ex.g s3), fm3, OutS.mono s3 hf'⟩
      | bk ρ2 => rw [hB] at hf'; exact hf'
      | rt d ρ2 => rw [hB] at hf'; exact hf'
      | ro ds ρ2 => rw [hB] at hf'; exact hf'
      | er c f ρ2 => rw [hB] at hf'; exact hf'
      | bad => rw [hB] at hf'; exact hf'
  · left
    have e : i = xs.length := by omega
    subst e
    refine ⟨wst, ?_⟩
    rw [List.drop_length] at hf
    exact OutS.next hf fmi
theorem s_wh {c : Expr} {cc : CE} {body : List Stmt} {cb : List CS} (hp : PassesOwn (model X.prog X.w) X.A X.env X.xe) (hc : PT X c (TT' P cc)) (hb : PSs X body (TSs P cb)) : PS X (.While c body [] pos) (TSt P (.wh cc cb)) := by
  refine PSw (ps_while hp hc hb) fun D σ0 H0 ⟨ρ, G, fm, h⟩ => ?_
  simp only [evS] at h
  refine ⟨fun m σ H => ∃ ρi Gi, P.Fm ρi Gi σ H ∧ OutS P Gi (whL (evT P.cal P.b0 cc) (evB P.cal P.b0 cb) m ρi) D, ⟨100000, ρ, G, fm, h⟩, ?_⟩
  rintro m σ H ⟨ρi, Gi, fmi, hf⟩
  cases m with
  | zero => exact hf.elim
  | succ m =>
    unfold whL at hf
    refine ⟨ρi, Gi, fmi, OutS.ex hf fun b ρ1 b' G1 H1 s1 fm1 rb h1 => ?_⟩
    have e : b' = b := rb
    subst e
    cases b' with
    | false => exact iteF (OutS.next h1 fm1)
    | true =>
      refine iteT ⟨fun σ' H' => ∃ ρn Gn, P.Fm ρn Gn σ' H' ∧ OutS P Gn (whL (evT P.cal P.b0 cc) (evB P.cal P.b0 cb) m ρn) D, fun σ' H' q => ⟨m, Nat.lt_succ_self m, q⟩, ρ1, G1, fm1, ?_⟩
      have h2 : OutS P G1 (match evB P.cal P.b0 cb ρ1 with
        | .nx ρ2 => whL (evT P.cal P.b0 cc) (evB P.cal P.b0 cb) m ρ2
        | .ct ρ2 => whL (evT P.cal P.b0 cc) (evB P.cal P.b0 cb) m ρ2
        | .bk ρ2 => .nx ρ2
        | r => r) D := h1
      cases hB : evB P.cal P.b0 cb ρ1 with
      | nx ρ2 => rw [hB] at h2; exact fun σ3 G3 H3 s3 fm3 => ⟨ρ2, G3, fm3, OutS.mono s3 h2⟩
      | ct ρ2 => rw [hB] at h2; exact fun σ3 G3 H3 s3 fm3 => ⟨ρ2, G3, fm3, OutS.mono s3 h2⟩
      | bk ρ2 => rw [hB] at h2; exact h2
      | rt d ρ2 => rw [hB] at h2; exact h2
      | ro ds ρ2 => rw [hB] at h2; exact h2
      | er c f ρ2 => rw [hB] at h2; exact h2
      | bad => rw [hB] at h2; exact h2
end
end Ev


set_option Elab.async false
set_option linter.all false
set_option maxRecDepth 100000
set_option maxHeartbeats 2000000
namespace Ev
open PySem PySem.Spec PyProof.Rows L2
def SameW (P P' : Pm) : Prop := P'.K = P.K ∧ P'.mg = P.mg ∧ P'.io = P.io ∧ P'.cal = P.cal ∧ P'.W = P.W
theorem SameW.refl (P : Pm) : SameW P P := ⟨rfl, rfl, rfl, rfl, rfl⟩
def Pm.hid (P : Pm) (p : Addr) (xs : List V) : Pm := { P with Z := fun b => P.Z b ∨ b = p, H0 := fun b => if b = p then some (.lst xs) else P.H0 b }
inductive PaV (K : PySem.W.Frag) (Z : Addr → Prop) (G H : Hp) : List Addr → List V → List (D × Bool) → Prop
  | nil : PaV K Z G H [] [] []
  | own {p : Addr} {us : List Addr} {xs : List V} {ds : List D} {vs : List V} {rs : List (D × Bool)} : H p = some (.lst xs) → G p = none → ¬ Z p → RpAll K G xs ds → p ∉ us → PaV K Z G H us vs rs → PaV K Z G H (p :: us) (.ref p :: vs) ((.list ds, true) :: rs)
  | val {v : V} {d : D} {us : List Addr} {vs : List V} {rs : List (D × Bool)} : Rp K G v d → PaV K Z G H us vs rs → PaV K Z G H us (v :: vs) ((d, false) :: rs)
def NP (ρ : Ro) (σ : L2.St) (us : List Addr) : Prop := ∀ p ∈ us, ∀ (i : Nat) (d : D), ρ[i]? = some (some (d, true)) → σ[i]? ≠ some (some (.ref p))
theorem PaV.nz {K : PySem.W.Frag} {Z : Addr → Prop} {G H : Hp} {us : List Addr} {vs : List V} {rs : List (D × Bool)} (h : PaV K Z G H us vs rs) : ∀ p ∈ us, ¬ Z p := by
  induction h with
  | nil => intro p hp; cases hp
  | own h1 h2 h3 h4 h5 _ ih =>
    intro p hp
    rcases List.mem_cons.mp hp with e | e
    · rw [e]; exact h3
    · exact ih p e
  | val _ _ ih => exact ih
theorem PaV.less {K : PySem.W.Frag} {Z Z' : Addr → Prop} {G H : Hp} {us : List Addr} {vs : List V} {rs : List (D × Bool)} (hz : ∀ b, Z' b → Z b) (h : PaV K Z G H us vs rs) : PaV K Z' G H us vs rs := by
  induction h with
  | nil => exact .nil
  | own h1 h2 h3 h4 h5 _ ih => exact .own h1 h2 (fun z => h3 (hz _ z)) h4 h5 ih
  | val r _ ih => exact .val r ih
section
variable {P : Pm} {X : Cx} {a b c e : Expr} {ca cb cc ce : CE} {es : List Expr} {cs : List (Bool × CE)} {pos : Pos}
theorem fm_unhid {p : Addr} {xs : List V} {ρ : Ro} {G H : Hp} {σ : L2.St} (zp : ¬ P.Z p) (fm : (P.hid p xs).Fm ρ G σ H) : P.Fm ρ G σ H where
  sub := fm.sub
  len := fm.len
  un := fm.un
  ow := fun i d h => by
    obtain ⟨a, o, h1, h3, h4, h5, h6⟩ := fm.ow i d h
    exact ⟨a, o, h1, h3, h4, fun z => h5 (.inl z), h6⟩
  dis := fm.dis
  zg := fun b hb => by
    obtain ⟨q1, q2, q3⟩ := fm.zg b (.inl hb)
    have ne : b ≠ p := fun z => zp (by rw [← z]; exact hb)
    have e1 : (P.hid p xs).H0 b = P.H0 b := if_neg ne
    rw [e1] at q2 q3
    exact ⟨q1, q2, q3⟩
  at0 := fm.at0
def OutPa (P : Pm) (G : Hp) (σ : L2.St) (r : Rs (List (D × Bool))) (Q : List V → Hp → Prop) : Prop :=
  match r with
  | .ok ds ρ => ∀ us vs G' H', Same G G' → P.Fm ρ G' σ H' → PaV P.K P.Z G' H' us vs ds → NP ρ σ us → Q vs H'
  | .er c f ρ => ∀ cls dx G' H', Same G G' → P.Fm ρ G' σ H' → ErrV P c f cls dx G' → P.W cls dx σ H'
  | .bad => False
def TPa (P : Pm) (es : List (Bool × CE)) : TA := fun σ H Q => ∃ ρ G, P.Fm ρ G σ H ∧ OutPa P G σ (evPa P.cal P.b0 es ρ) Q
theorem pa_nilP : PA X [] (TPa P []) := PAw pa_nil fun σ H Q ⟨ρ, G, fm, h⟩ => by
  simp only [evPa] at h
  exact h [] [] G H (Same.refl G) fm .nil (fun p hp => by cases hp)
theorem pa_valP (he : PE X e (T P ce)) (hs : PA X es (TPa P cs)) (hst : starEach (e :: es) X.env = (false, eval e X.env) :: starEach es X.env) : PA X (e :: es) (TPa P ((false, ce) :: cs)) := by
  refine PAw (pa_cons he hs hst) fun σ H Q ⟨ρ, G, fm, h⟩ => ⟨ρ, G, fm, ?_⟩
  simp only [evPa] at h
  cases hq : ev P.cal P.b0 ce ρ with
  | bad => rw [hq] at h; exact h.elim
  | er c f ρ1 => rw [hq] at h; exact h
  | ok x ρ1 =>
    rw [hq] at h
    simp only [Rs.bind_ok] at h
    intro v G1 H1 s1 fm1 r1
    refine ⟨ρ1, G1, fm1, ?_⟩
    cases hq2 : evPa P.cal P.b0 cs ρ1 with
    | bad => rw [hq2] at h; exact h.elim
    | er c f ρ2 => rw [hq2] at h; exact fun cls dx G' H' s fm e => h cls dx G' H' (Same.trans s1 s) fm e
    | ok ds ρ2 =>
      rw [hq2] at h
      simp only [Rs.bind_ok] at h
      intro us vs G2 H2 s2 fm2 pv np
      exact h us (v :: vs) G2 H2 (Same.trans s1 s2) fm2 (.val (r1.mono s2) pv) np
theorem pa_ownP (he : PE X e (TOwn P (evOwn P.cal P.b0 ce))) (hs : ∀ P', SameW P P' → PA X es (TPa P' cs)) (hst : starEach (e :: es) X.env = (false, eval e X.env) :: starEach es X.env) : PA X (e :: es) (TPa P ((true, ce) :: cs)) := by
  have hs' : PA X es (fun σ H Q => ∃ P', SameW P P' ∧ TPa P' cs σ H Q) := ⟨fun pos pins s σ H Q I ⟨P', sw, q⟩ => (hs P' sw).run pos pins s σ H Q I q⟩
  refine PAw (pa_cons he hs' hst) fun σ H Q ⟨ρ, G, fm, h⟩ => ⟨ρ, G, fm, ?_⟩
  simp only [evPa] at h
  cases hq : evOwn P.cal P.b0 ce ρ with
  | bad => rw [hq] at h; exact h.elim
  | er c f ρ1 => rw [hq] at h; exact h
  | ok x ρ1 =>
    rw [hq] at h
    simp only [Rs.bind_ok] at h
    intro p xs G1 H1 s1 fm1 hp gp zp np rp
    have fm1' : (P.hid p xs).Fm ρ1 G1 σ H1 := fm_blk fm1 hp gp zp np
    refine ⟨P.hid p xs, ⟨rfl, rfl, rfl, rfl, rfl⟩, ρ1, G1, fm1', ?_⟩
    show OutPa (P.hid p xs) G1 σ (evPa P.cal P.b0 cs ρ1) _
    cases hq2 : evPa P.cal P.b0 cs ρ1 with
    | bad => rw [hq2] at h; exact h.elim
    | er c f ρ2 => rw [hq2] at h; exact fun cls dx G' H' s fm e => h cls dx G' H' (Same.trans s1 s) (fm_unhid zp fm) e
    | ok ds ρ2 =>
      rw [hq2] at h
      simp only [Rs.bind_ok] at h
      intro us vs G2 H2 s2 fm2 pv np2
      obtain ⟨b1, b2⟩ := blk_at (P := P) (D := p) (v := xs) fm2
      refine h (p :: us) (.ref p :: vs) G2 H2 (Same.trans s1 s2) (fm_unhid zp fm2) (.own b1 b2 zp (rp.mono s2) (fun z => pv.nz p z (.inr rfl)) (pv.less fun b hb => .inl hb)) ?_
      intro p' hp' i d hi
      rcases List.mem_cons.mp hp' with e | e
      · subst e
        obtain ⟨a, o, w1, _, _, w5, _⟩ := fm2.ow i d hi
        rw [w1]
        intro z
        cases z
        exact w5 (.inr rfl)
      · exact np2 p' e i d hi
def setV : List Nat → List V → L2.St → L2.St
  | i :: is, v :: vs, σ => setV is vs (σ.set i (some v))
  | _, _, σ => σ
theorem fm_setPa {G H : Hp} : ∀ {is : List Nat} {us : List Addr} {vs : List V} {ds : List (D × Bool)} {ρ ρ' : Ro} {σ : L2.St}, P.Fm ρ G σ H → PaV P.K P.Z G H us vs ds → NP ρ σ us → setPa P.b0 is ds ρ = some ρ' → P.Fm ρ' G (setV is vs σ) H ∧ vs.length = is.length
  | [], us, vs, ds, ρ, ρ', σ, fm, pv, np, e => by
    cases ds with
    | nil => cases pv; cases e; exact ⟨fm, rfl⟩
    | cons _ _ => cases e
  | i :: is, us, vs, ds, ρ, ρ', σ, fm, pv, np, e => by
    cases pv with
    | nil => cases e
    | @own p us xs ds1 vs rs q1 q2 q3 q4 q5 pv =>
      unfold setPa at e
      split at e
      · cases e
      · rename_i hc
        have h0 : P.io ≠ none → i ≠ 0 := fun hio hi => hc (by
          subst hi
          unfold Pm.b0
          cases hq : P.io with
          | none => exact absurd hq hio
          | some a => rfl)
        have np' : NP (ρ.set i (some (.list ds1, true))) (σ.set i (some (.ref p))) us := fun p' hp' j d hj => by
          by_cases hij : i = j
          · subst hij
            have il : i < ρ.length := by have := (List.getElem?_eq_some_iff.mp hj).1; rwa [List.length_set] at this
            rw [List.getElem?_set_self (by rw [← fm.len]; exact il)]
            intro z
            cases z
            exact q5 hp'
          · rw [List.getElem?_set_ne hij] at hj ⊢
            exact np p' (List.mem_cons_of_mem _ hp') j d hj
        obtain ⟨f1, f2⟩ := fm_setPa (fm_own fm q1 q2 q3 (np p List.mem_cons_self) q4 h0) pv np' e
        exact ⟨f1, by rw [List.length_cons, List.length_cons, f2]⟩
    | @val v d _ vs rs r pv =>
      unfold setPa at e
      split at e
      · cases e
      · rename_i hc
        have h0 : P.io ≠ none → i ≠ 0 := fun hio hi => hc (by
          subst hi
          unfold Pm.b0
          cases hq : P.io with
          | none => exact absurd hq hio
          | some a => rfl)
        have np' : NP (ρ.set i (some (d, false))) (σ.set i (some v)) us := fun p' hp' j d' hj => by
          by_cases hij : i = j
          · subst hij
            have il : i < ρ.length := by have := (List.getElem?_eq_some_iff.mp hj).1; rwa [List.length_set] at this
            rw [List.getElem?_set_self il] at hj
            cases hj
          · rw [List.getElem?_set_ne hij] at hj ⊢
            exact np p' hp' j d' hj
        obtain ⟨f1, f2⟩ := fm_setPa (fm.set r h0) pv np' e
        exact ⟨f1, by rw [List.length_cons, List.length_cons, f2]⟩
theorem outPa {G : Hp} {σ : L2.St} {ρ : Ro} {E : Ends} {is : List Nat} {Q : List V → Hp → Prop} (h : OutS P G ((evPa P.cal P.b0 cs ρ).st fun ds ρ1 => ofS (setPa P.b0 is ds ρ1)) E) (k : ∀ vs H', vs.length = is.length → E.nx (setV is vs σ) H' → Q vs H') : OutPa P G σ (evPa P.cal P.b0 cs ρ) Q := by
  cases hq : evPa P.cal P.b0 cs ρ with
  | bad => rw [hq] at h; exact h
  | er c f ρ1 => rw [hq] at h; exact fun cls dx G' H' s fm e => h σ cls dx G' H' s fm e
  | ok ds ρ1 =>
    rw [hq] at h
    intro us vs G' H' s fm pv np
    have h' : OutS P G (ofS (setPa P.b0 is ds ρ1)) E := h
    cases hs : setPa P.b0 is ds ρ1 with
    | none => rw [hs] at h'; exact h'.elim
    | some ρ2 =>
      rw [hs] at h'
      obtain ⟨f1, f2⟩ := fm_setPa fm pv np hs
      exact k vs H' f2 (h' _ G' H' s f1)
theorem s_par2 {i j : Nat} {x y : Str} {px py pt : Pos} {kt : Nat} {k2 pt2} (hc : X.calm = true) (hN : X.N.Nodup) (hi : X.N[i]? = some x) (hj : X.N[j]? = some y) (hij : i ≠ j)
    (hx : X.env.scope.names.lookup x = some .local) (hy : X.env.scope.names.lookup y = some .local) (ha : PA X [a, b] (TPa P cs))
    (hw : swappedStores [.Tuple [.Name x px, .Name y py] kt pt] (.Tuple [a, b] k2 pt2) X.env = pure (some [x, y]))
    (hs : swapsWithSole [.Tuple [.Name x px, .Name y py] kt pt] (.Tuple [a, b] k2 pt2) pos.line X.env = pure false) :
    PS X (.Assign [.Tuple [.Name x px, .Name y py] kt pt] (.Tuple [a, b] k2 pt2) pos) (TSt P (.par [i, j] cs)) := PSw (ps_par hc hN hi hj hij hx hy ha hw hs) fun D σ H ⟨ρ, G, fm, h⟩ => by
  simp only [evS] at h
  refine ⟨ρ, G, fm, outPa h fun vs H' hl hn => ?_⟩
  match vs, hl, hn with
  | [v, w], _, hn => exact ⟨v, w, rfl, hn⟩
theorem s_par3 {i j l : Nat} {x y z : Str} {px py pz pt : Pos} {kt : Nat} {k2 pt2} (hc : X.calm = true) (hN : X.N.Nodup) (hi : X.N[i]? = some x) (hj : X.N[j]? = some y) (hl : X.N[l]? = some z) (hij : i ≠ j) (hil : i ≠ l) (hjl : j ≠ l)
    (hx : X.env.scope.names.lookup x = some .local) (hy : X.env.scope.names.lookup y = some .local) (hz : X.env.scope.names.lookup z = some .local) (ha : PA X [a, b, c] (TPa P cs))
    (hw : swappedStores [.Tuple [.Name x px, .Name y py, .Name z pz] kt pt] (.Tuple [a, b, c] k2 pt2) X.env = pure (some [x, y, z]))
    (hs : swapsWithSole [.Tuple [.Name x px, .Name y py, .Name z pz] kt pt] (.Tuple [a, b, c] k2 pt2) pos.line X.env = pure false) :
    PS X (.Assign [.Tuple [.Name x px, .Name y py, .Name z pz] kt pt] (.Tuple [a, b, c] k2 pt2) pos) (TSt P (.par [i, j, l] cs)) := PSw (L2.ps_par3 hc hN hi hj hl hij hil hjl hx hy hz ha hw hs) fun D σ H ⟨ρ, G, fm, h⟩ => by
  simp only [evS] at h
  refine ⟨ρ, G, fm, outPa h fun vs H' hl hn => ?_⟩
  match vs, hl, hn with
  | [u, v, w], _, hn => exact ⟨u, v, w, rfl, hn⟩
theorem outPaT {G : Hp} {σ : L2.St} {ρ : Ro} {E : Ends} {is : List Nat} {Q : List V → Hp → Prop} (h : OutS P G ((evPa P.cal P.b0 cs ρ).st fun ds ρ1 => ofS (setPa P.b0 is ds ρ1)) E) (k : ∀ vs H', vs.length = is.length → (∀ p, H' p = none → E.nx (setV is vs σ) (upd H' p (.tup vs))) → Q vs H') : OutPa P G σ (evPa P.cal P.b0 cs ρ) Q := by
  cases hq : evPa P.cal P.b0 cs ρ with
  | bad => rw [hq] at h; exact h
  | er c f ρ1 => rw [hq] at h; exact fun cls dx G' H' s fm e => h σ cls dx G' H' s fm e
  | ok ds ρ1 =>
    rw [hq] at h
    intro us vs G' H' s fm pv np
    have h' : OutS P G (ofS (setPa P.b0 is ds ρ1)) E := h
    cases hs : setPa P.b0 is ds ρ1 with
    | none => rw [hs] at h'; exact h'.elim
    | some ρ2 =>
      rw [hs] at h'
      obtain ⟨f1, f2⟩ := fm_setPa fm pv np hs
      exact k vs H' f2 fun p hp => h' _ G' _ s (f1.ext (Ext.hid (o := .tup vs) f1.sub hp))
theorem names_setV {Q : L2.St → Hp → Prop} {H : Hp} : ∀ {is : List Nat} {vs : List V} {σ : L2.St}, vs.length = is.length → Q (setV is vs σ) H → gNames is vs σ H Q
  | [], [], σ, _, q => ⟨rfl, q⟩
  | i :: is, v :: vs, σ, hl, q => ⟨_, _, rfl, names_setV (is := is) (vs := vs) (σ := σ.set i (some v)) (by simpa using hl) q⟩
  | [], _ :: _, _, hl, _ => by cases hl
  | _ :: _, [], _, hl, _ => by cases hl
/-- names get a tuple's items, of which some are lists that nobody else holds -/
theorem s_upo {is : List Nat} {ts vs : List Expr} {kk k2 : Nat} {p p2 : Pos} (hc : X.calm = true) (hN : X.N.Nodup) (hn : NmOk X ts is) (hz : is.length ≤ 100) (ha : PA X vs (TPa P cs)) (hs : swapsWithSole [.Tuple ts kk p] (.Tuple vs k2 p2) pos.line X.env = pure false)
    (hw : swappedStores [.Tuple ts kk p] (.Tuple vs k2 p2) X.env = pure none) (h1 : (assignEach [.Tuple ts kk p] X.env).map (·.2) = [assign (.Tuple ts kk p) X.env]) : PS X (.Assign [.Tuple ts kk p] (.Tuple vs k2 p2) pos) (TSt P (.par is cs)) := by
  obtain ⟨l1, l2⟩ := nm_each hn
  refine PSw (ps_asg (pe_tup ha) (pg_tup hc (pgs_D hN hn) l1 l2) hs hw h1) fun D σ H ⟨ρ, G, fm, h⟩ => ?_
  simp only [evS] at h
  refine ⟨ρ, G, fm, outPaT h fun xs H' hl hq => ⟨?_, fun q hn' => ⟨q, xs, rfl, .inl (.inl upd_same), hl, names_setV hl (hq q hn')⟩⟩⟩
  rw [hl, sizeLine_eq]
  omega
end
end Ev


set_option Elab.async false
set_option linter.all false
set_option maxRecDepth 100000
set_option maxHeartbeats 2000000
namespace Ev
open PySem PySem.Spec PyProof.Rows L2
/-! ## enumerate(tuple) -/
set_option maxHeartbeats 1000000 in
theorem meets_enum1 {v : Value} {o : Obj} {H : Heap → Prop} (B : Begins v o H) :
    Meets (Builtin.«enumerate.__new__» ⟨[.type "enumerate", v], []⟩) (fun _ R s => H s.heap ∧
      R (.ok (.ret (.ref (s.heap.push o).objs.size))) { s with heap := (s.heap.push o).push { cls := .type "enumerate", data := .fields #[.none, .bool false, .ref s.heap.objs.size, rawInt 0, .none, .none] } }) :=
  .of_wp fun prog w A R s h => by
    obtain ⟨hp, g, d, tk, os⟩ := s; obtain ⟨h1, h⟩ := h
    have hsub := sub_enumerate
    have q1 : ∀ {A' : Around} {E : Value → Shared → Prop} {Q : Value → Shared → Prop}, Q (.ref hp.objs.size) ⟨hp.push o, g, d, tk, os⟩ → wpAny (model prog w) A' (pyIter v) Q E ⟨hp, g, d, tk, os⟩ :=
      fun q => B.iter prog w _ _ ⟨hp, g, d, tk, os⟩ _ h1 q
    wp_walk using q1
    refine wpAny_stack_any fun st => wpAny_pure ?_
    split
    · rename_i c _ _ _ _ _
      cases (c == Value.type "enumerate")
      · wp_walk using q1
        exact ⟨_, rfl, h⟩
      · wp_walk using q1
        exact ⟨_, rfl, h⟩
    · wp_walk using q1
      exact ⟨_, rfl, h⟩
section
variable {prog : Program} {w : World} {A : Around} {E : Value → Shared → Prop} {s : Shared}
theorem call_enum1 {v : Value} {o : Obj} {H : Heap → Prop} {Q : Value → Shared → Prop} (B : Begins v o H) (h1 : H s.heap)
    (h : ∀ h', IsEnum h' (s.heap.objs.size + 1) s.heap.objs.size 0 .none → h'.get? s.heap.objs.size = some o → h'.objs.size = s.heap.objs.size + 2 →
      (∀ b o, s.heap.get? b = some o → h'.get? b = some o) → Q (.ref (s.heap.objs.size + 1)) { s with heap := h' }) :
    wpAny (model prog w) A (call (.type "enumerate") [v]) Q E s := by
  refine callType_new F.called_enumerate (by decide) (F.typeCall_enumerate_1 _) (F.newCall_enumerate_1 _) (fun obj => F.args_object_init_2 obj _) F.entry_enumerate_new
    (meets_enum1 B) ⟨h1, ?_⟩
  have hz : (s.heap.push o).objs.size = s.heap.objs.size + 1 := Heap.size_push ..
  show _ ∧ _
  rw [hz]
  have he : IsEnum ((s.heap.push o).push { cls := .type "enumerate", data := .fields #[.none, .bool false, .ref s.heap.objs.size, rawInt 0, .none, .none] }) (s.heap.objs.size + 1) s.heap.objs.size 0 .none := by
    have := Heap.get?_push_size (s.heap.push o) (o := { cls := .type "enumerate", data := .fields #[.none, .bool false, .ref s.heap.objs.size, rawInt 0, .none, .none] }) rfl
    rw [hz] at this; exact this
  refine ⟨⟨_, he, rfl⟩, h _ he (Heap.get?_push_of_some _ (Heap.get?_push_size _ B.free)) (by rw [Heap.size_push, hz]) fun b o x => Heap.get?_push_of_some _ (Heap.get?_push_of_some _ x)⟩
theorem draws_tup (hh : A.handled = none) {it a : Addr} (items : Array Value) (hne : a ≠ it) : Draws prog w A it [it, a] items.size (fun i x => items[i]? = some x) (fun i h => h.IsTupleIter it a i ∧ h.IsTuple a items) where
  live := fun i h ⟨⟨o, ho, _⟩, _⟩ => ⟨o, ho⟩
  frame := fun i h h' ⟨h1, h2⟩ k => ⟨h1.at fun o q => k it (by simp) o q, h2.at fun o q => k a (by simp) o q⟩
  item := fun i s Q E hi ⟨h1, h2⟩ hQ => RZ.nextOf_tuple_item h1 h2 (x := items[i]) (Array.getElem?_eq_getElem hi) fun h' q1 q2 => hQ _ h' s.toks (Array.getElem?_eq_getElem hi) ⟨q1, h2.at fun o q => (q2.2 a hne).trans q⟩ q2
  done := fun s Q E ⟨h1, h2⟩ hE => RZ.nextOf_tuple_end hh h1 h2 (by simp) hE
end
/-- the tuple at a as it stands at each turn, each item in a new pair -/
def Ien (K : PySem.W.Frag) (a : Addr) : It :=
  ⟨fun i H => ∃ (xs : List V) (x : V), SqT K H a xs ∧ xs[i]? = some x, fun i H v H' => ∃ T x, v = .ref T ∧ H T = none ∧ H' = upd H T (.tup [.int (i : Nat), x]) ∧ ∀ xs, SqT K H a xs → xs[i]? = some x, fun i H => ∃ xs : List V, SqT K H a xs ∧ xs.length ≤ i⟩
theorem turn_en {P : Program} {w : World} {K : PySem.W.Frag} {elts : List Expr} {kk : Nat} {tpos : Pos} (a e it : Addr) :
    Turn P w K (.Tuple elts kk tpos) (Ien K a) [e, it] e (fun i h => (∃ old, IsEnum h e it ((i : Nat) : Int) old) ∧ h.IsTupleIter it a i ∧ e ≠ it ∧ i ≤ sizeLine) where
  mem := by simp
  obj := fun i h st b hb => by
    obtain ⟨⟨old, he⟩, ⟨o, ho, hc, hd⟩, _⟩ := st
    have e' : b = e ∨ b = it := by simpa using hb
    rcases e' with z | z
    · rw [z]; exact ⟨_, he, fun v q => nomatch q⟩
    · rw [z]; exact ⟨o, ho, fun v q => by rw [hd] at q; cases q⟩
  keep := fun i h h' st k => let ⟨⟨old, he⟩, hi, hne⟩ := st; ⟨⟨old, k e (by simp) _ he⟩, hi.at fun o q => k it (by simp) o q, hne⟩
  item := by
    intro X hP hw hK hc i pins s σ H E I hf st hg
    subst hP hw hK
    obtain ⟨⟨old, he⟩, hit, hne, hsz0⟩ := st
    obtain ⟨xs, x, hq, hx⟩ := hg
    obtain ⟨its, rv, p, hz⟩ := I.tuple hq
    have hel : e < s.heap.objs.size := Heap.lt_size he
    have hil : it < s.heap.objs.size := by obtain ⟨_, q, _⟩ := hit; exact Heap.lt_size q
    have hae : a ≠ e := fun z => by
      obtain ⟨o, ho, hc', _⟩ := p
      subst z
      rw [show s.heap.get? a = _ from he] at ho
      cases ho
      injection hc' with z
      exact absurd z (by decide)
    have hai : a ≠ it := fun z => by
      obtain ⟨o, ho, hc', _⟩ := p
      obtain ⟨o2, ho2, hc2, _⟩ := hit
      subst z
      rw [ho2] at ho
      cases ho
      rw [hc2] at hc'
      injection hc' with z
      exact absurd z (by decide)
    have hlen := rv.length
    have hi : i < its.toArray.size := by
      have := (List.getElem?_eq_some_iff.mp hx).1
      simp
      omega
    have hef : e ∉ [it, a] := fun z => by
      rcases List.mem_cons.mp z with z | z
      · exact hne z
      · exact hae (List.mem_singleton.mp z).symm
    refine wpAny_pyNext_enum_itemD (draws_tup (A := X.A.in1) (show X.A.in1.handled = none from I.ok.hd hc) its.toArray hai) he ⟨hit, p⟩ hi hne hef fun u h' tk hu ho hst' hT hsz hk => ?_
    obtain ⟨u', hu', ru⟩ := rv.get hx
    have eu : u = u' := by
      have hu2 : its[i]? = some u := by simpa using hu
      rw [hu'] at hu2
      exact (Option.some.inj hu2).symm
    subst eu
    refine ⟨_, rfl, wpAny_letOwnedTupleGo_enum (s := { s with heap := h', toks := tk + 1 }) ho fun h'' he' sb => ?_⟩
    have hT2 : h''.get? s.heap.objs.size = some { cls := .type "tuple", data := .seq #[.int i tk, u] } := (sb.2 _ (Nat.ne_of_gt hel)).trans hT
    have new : ObjOk X.prog X.w (upd H s.heap.objs.size (.tup [.int (i : Nat), x])) h'' s.heap.objs.size (.tup [.int (i : Nat), x]) :=
      ⟨by show 2 ≤ sizeLine; decide, [.int i tk, u], .cons ⟨_, rfl⟩ (.cons ru .nil), ⟨_, hT2, rfl, _, rfl⟩⟩
    have I1 : Inv X pins σ (upd H s.heap.objs.size (.tup [.int (i : Nat), x])) { s with heap := h'', toks := tk + 1 } :=
      I.turnedNew (t' := tk + 1) (ch := [e, it]) (fun b ob hb q => (sb.2 b (fun z => hb (by simp [z]))).trans (hk b ob (fun z => hb (by simp [z])) (fun z => hb (by simp [z])) q)) hf (Nat.le_refl _) new
    refine ⟨.ref s.heap.objs.size, _, I1, rfl, ⟨_, x, rfl, I.hok.fresh (Nat.le_refl _), rfl, fun ys hy => by rw [I.tuple_inj hy hq]; exact hx⟩, ⟨⟨u, ?_⟩, hst'.1.at fun o q => (sb.2 it (Ne.symm hne)).trans q, hne, ?_⟩, fun b hb => ?_⟩
    · have e1 : ((i + 1 : Nat) : Int) = (i : Int) + 1 := by omega
      rw [e1]; exact he'
    · have := (List.getElem?_eq_some_iff.mp hx).1
      omega
    · have hb' : b < s.heap.objs.size := by
        have e' : b = e ∨ b = it := by simpa using hb
        rcases e' with z | z
        · rw [z]; exact hel
        · rw [z]; exact hil
      rw [upd_ne (Nat.ne_of_lt hb')]
      exact (hf b hb).1
  done := by
    intro X hP hw hK hc i pins s σ H E I hf st hg
    subst hP hw hK
    obtain ⟨⟨old, he⟩, hit, hne, hsz0⟩ := st
    obtain ⟨xs, hq, hx⟩ := hg
    obtain ⟨its, rv, p, hz⟩ := I.tuple hq
    obtain ⟨f0, f1, f2, f3, f4, f5⟩ := hf it (by simp)
    have hl := rv.length
    have hT : s.TypeIs (.ref e) "enumerate" := ⟨_, he, rfl⟩
    unfold pyNext
    refine wpAny_bind (wpAny_attempt (wpAny_callSpecial?_slot (name := Str.ofString "__next__") hT F.slot_enumerate_next
      (wpAny_call_entry F.slot_enumerate_next hT F.entry_enumerate_next ?_ (F.args_enumerate_next_1 _))))
    show wpAny _ _ (field (.ref e) 2 >>= _) _ _ _
    refine wpAny_bind (wpAny_field he rfl (x := .ref it) rfl ?_)
    refine wpAny_bind (RZ.nextOf_tuple_end (I.ok.hd hc) hit p (by simp; omega) fun h' x he' hx' => ?_)
    obtain ⟨o, ho, hc'⟩ := hx'
    refine wpAny_bind (wpAny_isInstance (T := "StopIteration") (b := true) ⟨o, ho, hc'⟩ isSubtype_stop ?_)
    exact wpAny_pure ⟨rfl, I.turned (t' := s.toks) (fun b o hb q => he' b o hb q) f0 f1 f3 f4 f5⟩
  self := fun A i s Q E st h => let ⟨⟨_, he⟩, _⟩ := st; wpAny_pyIter_enum he h
def iEn (K : PySem.W.Frag) (ta : TA) : TI := fun σ H R => ta σ H fun vs H1 => ∃ a xs, vs = [.ref a] ∧ SqT K H1 a xs ∧ R (Ien K a) H1
theorem pi_en {X : Cx} {e : Expr} {ta : TA} {p pos tpos : Pos} {elts : List Expr} {kk : Nat} (hg : Gl X "enumerate") (hm : X.mg "enumerate" = none) (ha : PA X [e] ta) (hs : starEach [e] X.env = [(false, eval e X.env)]) :
    PI X (.Tuple elts kk tpos) (.Call (.Name "enumerate" p) [e] [] pos) (iEn X.K ta) := by
  refine ⟨fun pins s σ H R I h => ?_⟩
  refine Call_ (ld_blt I hg hm boot_enumerate (PyProof.Rows.callWith_type1 (thn (ha.run pos pins s σ H _ I h) fun us s1 ⟨vs, H1, I1, r1, q1⟩ => ?_) hs rfl))
  obtain ⟨a, xs, ex, hq, q⟩ := q1
  subst ex
  cases r1 with
  | cons r rr =>
    cases rr
    cases r
    obtain ⟨its, rv, p', hz⟩ := I1.tuple hq
    refine call_enum1 (begins_tuple a its.toArray) p' fun h' he hit hsz hk => wpAny_pyIter_enum he ?_
    have I2 : Inv X pins σ H1 { s1 with heap := h' } := I1.kept (t' := s1.toks) hk
    refine ⟨s1.heap.objs.size + 1, [s1.heap.objs.size + 1, s1.heap.objs.size], _, _, H1, rfl, I2, turn_en a (s1.heap.objs.size + 1) s1.heap.objs.size, ⟨⟨.none, he⟩, ⟨_, hit, rfl, rfl⟩, Nat.succ_ne_self _, Nat.zero_le _⟩, fun b hb => ?_, q⟩
    have e' : b = s1.heap.objs.size + 1 ∨ b = s1.heap.objs.size := by simpa using hb
    have hle : s1.heap.objs.size ≤ b := by
      rcases e' with z | z
      · rw [z]; exact Nat.le_add_right _ _
      · rw [z]; exact Nat.le_refl _
    exact I1.fpOk hle (I1.hok.fresh hle)
end Ev


set_option Elab.async false
set_option linter.all false
set_option maxRecDepth 100000
set_option maxHeartbeats 2000000
namespace Ev
open PySem PySem.Spec PyProof.Rows L2
theorem wlk_en {K : PySem.W.Frag} {G : Hp} {a : Addr} {xs : List V} {ds : List D} (h : SqT K G a xs) (r : RpAll K G xs ds) : Wlk K (Ien K a) G (enumL ds 0) := by
  intro G1 H1 s1 s2
  have hs : SqT K H1 a xs := Same.seqT s2 (Same.seqT s1 h)
  refine ⟨fun i d hd => ?_, ⟨xs, hs, by rw [enumL_length, r.length]; exact Nat.le_refl _⟩⟩
  obtain ⟨e, he, rfl⟩ := enumL_get hd
  obtain ⟨v, hv, rv⟩ := r.get he
  refine ⟨⟨xs, v, hs, hv⟩, fun x H2 hy => ?_⟩
  obtain ⟨p, y, rfl, hp, rfl, hy⟩ := hy
  have := hy xs hs
  rw [hv] at this
  cases this
  refine ⟨_, Ext.new s2 hp, .tup (SqT.of upd_same) ?_⟩
  rw [Nat.zero_add]
  exact .cons (.int _) (.cons ((rv.mono s1).mono (same_new (Same.none s2 hp))) .nil)
section
variable {P : Pm} {X : Cx} {a b e tg : Expr} {ca cb ce : CE} {cs : List CE} {pos p : Pos}
theorem ti_en {elts : List Expr} {kk : Nat} {tpos : Pos} (hK : X.K = P.K) (gl : Gl X "enumerate") (hm : X.mg "enumerate" = none) (ha : PE X a (T P ca)) (hs : starEach [a] X.env = [(false, eval a X.env)]) :
    PI X (.Tuple elts kk tpos) (.Call (.Name "enumerate" p) [a] [] pos) (TIt P 6 [ca]) := by
  refine PIw (pi_en gl hm (ta_cons ha ta_nil hs) hs) fun σ H R ⟨ρ, G, fm, h⟩ => ⟨ρ, G, fm, ?_⟩
  simp only [evA, Rs.assoc] at h ⊢
  cases hq : ev P.cal P.b0 ca ρ with
  | bad => rw [hq] at h; exact h.elim
  | er c f ρ' => rw [hq] at h; exact h
  | ok d ρ1 =>
    rw [hq] at h
    intro vs G1 H1 s1 fm1 r1
    have h1 := Out.mono s1 h
    simp only [Rs.bind_ok] at h1
    cases r1 with
    | cons r rr =>
      cases rr
      cases r with
      | @tup q xs ds q1 q2 =>
        rw [hK]
        exact ⟨q, xs, rfl, Same.seqT fm1.sub q1, Out.ret h1 fm1 (wlk_en q1 q2)⟩
      | _ => exact h1.elim
theorem tit_kind {k k' : Nat} {cs : List CE} {σ : L2.St} {H : Hp} {R : It → Hp → Prop} {ρ : Ro} {G : Hp} (fm : P.Fm ρ G σ H) (e : ∀ ds ρ1, evA P.cal P.b0 cs ρ = .ok ds ρ1 → itemsD k ds = itemsD k' ds) (h : Out P (fun G J xs => Wlk P.K J G xs) G σ ((evA P.cal P.b0 cs ρ).bind fun ds ρ1 => ofO (itemsD k ds) ρ1) R) : TIt P k' cs σ H R := by
  refine ⟨ρ, G, fm, ?_⟩
  cases hq : evA P.cal P.b0 cs ρ with
  | bad => rw [hq] at h; exact h
  | er c f ρ' => rw [hq] at h; exact h
  | ok ds ρ1 =>
    rw [hq] at h
    simp only [Rs.bind_ok] at h ⊢
    rw [← e ds ρ1 hq]
    exact h
theorem evA_one {cal : Cal} {b0 : Bool} {c : CE} {ρ : Ro} {ds : List D} {ρ1 : Ro} (h : evA cal b0 [c] ρ = .ok ds ρ1) : ∃ d, ev cal b0 c ρ = .ok d ρ1 ∧ ds = [d] := by
  simp only [evA] at h
  cases hq : ev cal b0 c ρ with
  | bad => rw [hq] at h; cases h
  | er _ _ _ => rw [hq] at h; cases h
  | ok d ρ2 =>
    rw [hq] at h
    simp only [Rs.bind_ok, Rs.ok.injEq] at h
    exact ⟨d, by rw [h.2], h.1.symm⟩
/-- over a list, a tuple or a text -/
theorem ti_any (hK : X.K = P.K) (ha : PE X a (T P ca)) : PI X tg a (TIt P 9 [ca]) := ⟨fun pins s σ H R I ⟨ρ, G, fm, h⟩ => by
  cases hq : ev P.cal P.b0 ca ρ with
  | bad => simp only [evA, hq] at h; exact h.elim
  | er c f ρ' => exact (ti_list hK ha).run pins s σ H R I (tit_kind fm (fun ds ρ1 e => by obtain ⟨d, e1, _⟩ := evA_one e; rw [hq] at e1; cases e1) h)
  | ok d ρ1 =>
    have key : ∀ k, itemsD 9 [d] = itemsD k [d] → TIt P k [ca] σ H R := fun k hk => tit_kind fm (fun ds ρ2 e => by obtain ⟨d', e1, rfl⟩ := evA_one e; rw [hq] at e1; cases e1; exact hk) h
    cases d with
    | list xs => exact (ti_list hK ha).run pins s σ H R I (key 0 rfl)
    | tuple xs => exact (ti_tup hK ha).run pins s σ H R I (key 4 rfl)
    | str xs => exact (ti_str ha).run pins s σ H R I (key 5 rfl)
    | _ => simp only [evA, hq] at h; exact h.elim⟩
theorem ti_enA {elts : List Expr} {kk : Nat} {tpos : Pos} (hK : X.K = P.K) (gl : Gl X "enumerate") (hm : X.mg "enumerate" = none) (ha : PE X a (T P ca)) (hs : starEach [a] X.env = [(false, eval a X.env)]) :
    PI X (.Tuple elts kk tpos) (.Call (.Name "enumerate" p) [a] [] pos) (TIt P 10 [ca]) := ⟨fun pins s σ H R I ⟨ρ, G, fm, h⟩ => by
  cases hq : ev P.cal P.b0 ca ρ with
  | bad => simp only [evA, hq] at h; exact h.elim
  | er c f ρ' => exact (ti_enum hK gl hm ha hs).run pins s σ H R I (tit_kind fm (fun ds ρ1 e => by obtain ⟨d, e1, _⟩ := evA_one e; rw [hq] at e1; cases e1) h)
  | ok d ρ1 =>
    have key : ∀ k, itemsD 10 [d] = itemsD k [d] → TIt P k [ca] σ H R := fun k hk => tit_kind fm (fun ds ρ2 e => by obtain ⟨d', e1, rfl⟩ := evA_one e; rw [hq] at e1; cases e1; exact hk) h
    cases d with
    | list xs => exact (ti_enum hK gl hm ha hs).run pins s σ H R I (key 2 rfl)
    | tuple xs => exact (ti_en hK gl hm ha hs).run pins s σ H R I (key 6 rfl)
    | _ => simp only [evA, hq] at h; exact h.elim⟩
end
end Ev


set_option Elab.async false
set_option linter.all false
set_option maxRecDepth 100000
set_option maxHeartbeats 2000000
namespace Ev
open PySem PySem.Spec PyProof.Rows L2
section
variable {prog : Program} {w : World} {A : Around} {E : Value → Shared → Prop} {s : Shared} {l : Addr} {its : List Value} {ns : List Int} {Q : Value → Shared → Prop} {d : Value}
theorem min_dflt (hh : A.handled = none) (hl : s.heap.IsList l its.toArray) (hi : IntsAre its ns) (h0 : ns = [] → ∀ h' tk, (∀ b o, s.heap.get? b = some o → h'.get? b = some o) → Q d { s with heap := h', toks := tk })
    (h : 0 < ns.length → ∀ h' tk M t', (∀ b o, s.heap.get? b = some o → h'.get? b = some o) → M ∈ ns → (∀ a, a ∈ ns → M ≤ a) → Q (.int M t') { s with heap := h', toks := tk }) : wpAny (model prog w) A (call (.builtin "min") [.ref l] [(Str.ofString "default", d)]) Q E s := by
  obtain ⟨xs, e⟩ := hi.allInts.items
  have hn : numsOf (intItems xs).toList = ns := by rw [← e]; exact hi.numsOf
  rw [nums_intItems] at hn
  subst hn
  rw [e] at hl
  refine call_min_walkD (PySem.W.iter_listW (A := A.in1) hh hl fun s₂ e W st hfp hw hk => ?_)
  have hz : (intItems xs).size = xs.size := by simp [intItems]
  refine ⟨_, _, _, _, _, _, _, s.heap, (fun i j => decide (numAt xs i < numAt xs j)), rfl, W, st, hfp, hw, hk, fun hz0 s' m => ?_, fun hp => ⟨fun i j vi vj s3 Q3 E3 _ hi hj hq => CmpOf.ints_lt (numAt xs) (fun _ _ => intItems_at) i j vi vj s3 Q3 E3 hi hj hq, fun v s' hP m => ?_⟩⟩
  · obtain ⟨h', tk, rfl, hk'⟩ := PySem.W.moved_old e rfl m
    rw [hz] at hz0
    exact h0 (by simp [Array.size_eq_zero_iff.mp hz0]) h' tk hk'
  · obtain ⟨h', tk, rfl, hk'⟩ := PySem.W.moved_old e rfl m
    rw [hz] at hP hp
    obtain ⟨t, rfl⟩ := intItems_at hP
    obtain ⟨h1, h2⟩ := argBest_lt (numAt xs) (xs.size - 1)
    refine h (by simpa using hp) h' tk _ t hk' ?_ fun a ha => ?_
    · rw [numAt_eq]; exact PySem.getD_mem (by rw [List.length_map, Array.length_toList]; omega)
    · obtain ⟨j, hj, rfl⟩ := mem_getD ha
      rw [List.length_map, Array.length_toList] at hj
      rw [← numAt_eq]; exact h2 j (by omega)
end
section
variable {P : Pm} {X : Cx} {a b e tg : Expr} {ca cb ce : CE} {cs : List CE} {pos p : Pos}
def rMnd (K : PySem.W.Frag) : List V → List V → Hp → VK → Prop := fun xs zs H Q => ∃ G v w x y d, xs = [v] ∧ zs = [w] ∧ Same G H ∧ Rp K G v x ∧ Rp K G w y ∧ mndD x y = some d ∧ Giv K G H d Q
theorem cb_mnd (hc : X.calm = true) : CallRK X (.builtin "min") ["default"] (rMnd X.K) := by
  rintro pins s σ H xs zs us ws Q I r rz ⟨G, v, w, x, y, d, rfl, rfl, sg, h, hw, e, g⟩
  obtain ⟨u, rfl, ru⟩ := vals1 r
  obtain ⟨u', rfl, ru'⟩ := vals1 rz
  cases h with
  | @lst a vs ys h1 h2 =>
    simp only [mndD] at e
    cases hq : intsOf ys with
    | none => rw [hq] at e; cases e
    | some is =>
      rw [hq] at e
      have := ints_of h2 hq
      subst this
      cases ru
      obtain ⟨its, rv, hl, _⟩ := I.list (Same.ls sg h1).seq
      refine min_dflt (ns := is) (I.ok.hd hc) hl.isList rv.ints (fun h0 h' tk hk => ?_) fun hne h' tk m t' hk m1 m2 => ?_
      · subst h0
        cases e
        exact ⟨w, H, I.kept hk, ru', g.sc sg hw⟩
      · cases is with
        | nil => cases hne
        | cons b bs =>
          cases e
          obtain ⟨l1, l2, l3⟩ := lowL_spec b bs
          have : m = lowL b bs := by
            have q1 : m ≤ lowL b bs := by
              rcases l1 with l | l
              · rw [l]; exact m2 b List.mem_cons_self
              · exact m2 _ (List.mem_cons_of_mem _ l)
            have q2 : lowL b bs ≤ m := by
              rcases List.mem_cons.mp m1 with l | l
              · rw [l]; exact l2
              · exact l3 m l
            omega
          subst this
          exact ⟨.int _, H, I.kept hk, ⟨_, rfl⟩, g.int sg⟩
  | _ => cases e
theorem boot_min : bootBuiltins "min" = some (.builtin "min") := by decide +kernel
theorem t_mnd {kp : Pos} (hK : X.K = P.K) (hc : X.calm = true) (gl : Gl X "min") (hm : X.mg "min" = none) (ha : PE X a (T P ca)) (hb : PE X b (T P cb)) (hs : starEach [a] X.env = (false, eval a X.env) :: starEach [] X.env) :
    PE X (.Call (.Name "min" p) [a] [⟨some "default", b, kp⟩] pos) (T P (.mnd ca cb)) := by
  refine PEw (pe_callBK (cb_mnd hc) gl hm boot_min (pa_cons ha pa_nil hs) (pk_cons hb pk_nil) (by decide) (by decide) (by rw [hs]; rfl) (by rw [hs]; rfl) rfl rfl rfl) fun σ H Q ⟨ρ, G, fm, h⟩ => ⟨ρ, G, fm, ?_⟩
  simp only [ev] at h
  refine Out.bind h fun x ρ1 v G1 H1 s1 fm1 r1 h1 => ?_
  refine ⟨ρ1, G1, fm1, ?_⟩
  refine Out.bind h1 fun y ρ2 w G2 H2 s2 fm2 r2 h2 => ?_
  obtain ⟨d, e1, g⟩ := h2.giveO fm2
  rw [hK]
  exact ⟨G2, v, w, x, y, d, rfl, rfl, fm2.sub, r1.mono s2, r2, e1, g⟩
theorem wlk_rev {K : PySem.W.Frag} {G : Hp} {a : Addr} {xs : List V} {ds : List D} (h : Ls K G a xs) (r : RpAll K G xs ds) : Wlk K (Itv K a xs.length) G ds.reverse := by
  intro G1 H1 s1 s2
  have hs : SqL K H1 a xs := (Same.ls s2 (Same.ls s1 h)).seq
  refine ⟨fun i d hd => ?_, by show xs.length ≤ _; rw [List.length_reverse, r.length]; exact Nat.le_refl _⟩
  have hi : i < ds.length := by
    obtain ⟨h1, _⟩ := List.getElem?_eq_some_iff.mp hd
    simpa using h1
  rw [List.getElem?_reverse hi] at hd
  have hl := r.length
  rw [show ds.length - 1 - i = xs.length - 1 - i by omega] at hd
  obtain ⟨v, hv, rv⟩ := r.get hd
  refine ⟨⟨by omega, xs, v, hs, hv⟩, fun x H2 hy => ?_⟩
  obtain ⟨rfl, hy⟩ := hy
  have := hy xs hs
  rw [hv] at this
  cases this
  exact ⟨G1, Ext.refl s2, rv.mono s1⟩
/-- reversed(a list) -/
theorem ti_rev (hK : X.K = P.K) (gl : Gl X "reversed") (hm : X.mg "reversed" = none) (ha : PE X a (T P ca)) (hs : starEach [a] X.env = (false, eval a X.env) :: starEach [] X.env) : PI X tg (.Call (.Name "reversed" p) [a] [] pos) (TIt P 12 [ca]) := by
  refine PIw (RT.pi_revA gl hm ha hs) fun σ H R ⟨ρ, G, fm, h⟩ => ⟨ρ, G, fm, ?_⟩
  simp only [evA, Rs.assoc] at h
  refine Out.bind h fun x ρ1 v G1 H1 s1 fm1 r1 h1 => ?_
  simp only [Rs.bind_ok] at h1
  cases r1 with
  | @lst q xs ds q1 q2 =>
    rw [hK]
    exact ⟨q, xs, rfl, .inl ⟨(Same.ls fm1.sub q1).seq, Out.ret h1 fm1 (wlk_rev q1 q2)⟩⟩
  | _ => exact h1.elim
end
end Ev


set_option Elab.async false
set_option linter.all false
set_option maxRecDepth 100000
set_option maxHeartbeats 3200000
namespace Ev
open PySem PySem.Spec PyProof.Rows L2
/-! ## set(a list of integers) -/
/-- a set as it is made -/
abbrev bareS (w : World) : Obj := { cls := .type "set", dict := none, data := .set #[] 0 (.fresh 0 0 (!w.params.followText "set-order")) }
section
variable {P : Program} {w : World} {A : Around} {E : Value → Shared → Prop} {s : Shared}
/-- what the new set is filled with -/
def Filled (w : World) (s : Shared) (ns : List Int) (s' : Shared) : Prop := ∃ (g : Heap) (tk c : Nat), s' = { s with heap := g, toks := tk } ∧ SetR w g s.heap.objs.size (fun j => decide (j ∈ ns)) c ∧ c ≤ ns.length ∧ ∀ b o, s.heap.get? b = some o → g.get? b = some o
theorem vals_at {xs : Array Value} {ns : List Int} (hi : IntsAre xs.toList ns) (hz : xs.size = ns.length) {i : Nat} {v : Value} (hv : xs[i]? = some v) : ∃ k t, ns[i]? = some k ∧ v = .int k t := by
  have h : i < ns.length := hz ▸ (Array.getElem?_eq_some_iff.mp hv).1
  obtain ⟨t, e⟩ := hi.int_at i v (by rw [Array.getElem?_toList]; exact hv)
  exact ⟨ns[i], t, List.getElem?_eq_getElem h, by rw [e, List.getD_eq_getElem?_getD, List.getElem?_eq_getElem h] <;> rfl⟩
theorem set_of_list {l : Addr} {xs : Array Value} {ns : List Int} {Q : Value → Shared → Prop} (hh : A.handled = none) (hl : s.heap.IsList l xs) (hi : IntsAre xs.toList ns) (hb : ns.length + 1 < scanBound)
    (q : ∀ s', Filled w s ns s' → Q (.ref s.heap.objs.size) s') : wpAny (model P w) A (call (.type "set") [.ref l]) Q E s := by
  have hz : xs.size = ns.length := by
    have := hi.length
    rwa [Array.length_toList] at this
  obtain ⟨c, tl, hmro⟩ := F.called_set.mro
  have hmade := F.called_set.made
  have hsub := F.called_set.sub
  refine wpAny_call (codeAny_of_tree ?_)
  show wpAny _ _ (callAny (.type "set") _) _ _ _
  refine wpAny_pure ⟨Code.quiet_builtin _ (by decide +kernel), codeAny_builtin F.entry_type_call ?_⟩
  rw [Around.under_plain (weight_type_call_type "set" [.ref l] []) rfl]
  have h1 := F.called_set.notType
  have h2 := F.called_set.canCreate
  have hct := F.typeCall_set_1 (.ref l)
  repeat (any_goals (first | assumption | wp_step))
  refine codeAny_mono (code_set_led1 (.ref l) (E := E) (Q₁ := fun v t => v = .ref s.heap.objs.size ∧ t = { s with heap := s.heap.push (bareS w) }) ⟨rfl, rfl⟩) fun r t hr => ?_
  cases r with
  | error e => exact hr
  | ok fl =>
    cases fl with
    | ret v =>
      obtain ⟨rfl, rfl⟩ := hr
      have hS : (s.heap.push (bareS w)).get? s.heap.objs.size = some (bareS w) := Heap.get?_push_size _ rfl
      have hT : Shared.TypeIs { s with heap := s.heap.push (bareS w) } (.ref s.heap.objs.size) "set" := ⟨_, hS, rfl⟩
      have hli := F.called_set.init.lookup
      have hbi := F.called_set.init.bind (.ref s.heap.objs.size)
      repeat (any_goals (first | assumption | wp_step))
      refine codeAny_mono (codeAny_call_builtin (R := wants (fun r t => r = .none ∧ Filled w s ns t) E) F.called_set.init.plain F.entry_set_init (check_set_init_1 hT ?_)) fun r t hr => ?_
      · have hlt : l < s.heap.objs.size := by
          obtain ⟨o, e, _⟩ := hl
          exact Heap.lt_size e
        have hlp : (s.heap.push (bareS w)).IsList l xs := hl.push _
        obtain ⟨o1, g1, gc, m1, gd⟩ := id hlp
        obtain ⟨cls1, dict1, data1, slots1⟩ := o1
        simp only at gc gd
        subst gc gd
        have k1 := F.sub_list_set
        have k2 := F.sub_list_frozenset
        have k3 : (Value.type "list" == Value.type "dict") = false := by decide
        unfold Builtin.«set.__init__» noKeywords Builtin.Frozenset.updateFrom
        generalize hp : pyIter = it
        wp_walk
        subst hp
        refine wpAny_pyIter_list hlp ?_
        refine wpAny_bind (wpAny_runValue ?_)
        have hz1 : (s.heap.push (bareS w)).objs.size = s.heap.objs.size + 1 := Heap.size_push ..
        have n1 : l ≠ (s.heap.push (bareS w)).objs.size := by rw [hz1]; exact Nat.ne_of_lt (Nat.lt_succ_of_lt hlt)
        have n2 : s.heap.objs.size ∉ [(s.heap.push (bareS w)).objs.size, l] := fun z => by
          rw [hz1] at z
          rcases List.mem_cons.mp z with z | z
          · exact Nat.ne_of_lt (Nat.lt_succ_self _) z
          · exact Nat.ne_of_gt hlt (List.mem_singleton.mp z)
        refine set_update_ints ((Walks.list (A := A.in1.in1.in1) (by simp [hh]) _ l n1 xs).toS) s.heap.objs.size n2 ns hz hb (fun i v hv => vals_at hi hz hv) (xs.size - 0) 0 _ (by omega) (Nat.zero_le _) ⟨⟨_, Heap.get?_push_size _ rfl, rfl, rfl⟩, hlp.push _⟩ ⟨0, Nat.le_refl 0, setR_new_at (Heap.get?_push_of_some _ hS)⟩ ?_
        intro s2 c2 hm hc2 hR
        obtain ⟨g2, gens2, d2, tk2, os2⟩ := s2
        have eg : gens2 = s.gens := hm.gens
        have ed : d2 = s.drawn := hm.drawn
        have eo : os2 = s.os := hm.os
        subst eg ed eo
        show wpAny _ _ _ _ _ _
        refine wpAny_pure ?_
        show wpAny _ _ (ret Value.none) _ _ _
        refine wpAny_pure ⟨rfl, g2, tk2, c2, rfl, hR, by omega, fun b o e => ?_⟩
        have hb0 := Heap.lt_size e
        refine hm.heap b o (fun z => ?_) (Heap.get?_push_of_some _ (Heap.get?_push_of_some _ e))
        rcases List.mem_cons.mp z with z | z
        · exact Nat.ne_of_lt hb0 z
        · have z2 := List.mem_singleton.mp z
          rw [hz1] at z2
          exact Nat.ne_of_lt (Nat.lt_succ_of_lt hb0) z2
      · cases r with
        | error e => exact hr
        | ok fl =>
          cases fl with
          | ret v =>
            obtain ⟨rfl, hf⟩ := hr
            repeat (any_goals (first | assumption | wp_step))
            exact q _ hf
          | _ => exact hr
    | _ => exact hr
end
end Ev


set_option Elab.async false
set_option linter.all false
set_option maxRecDepth 100000
set_option maxHeartbeats 3200000
namespace Ev
open PySem PySem.Spec PyProof.Rows L2
/-! ## sorted(set(a list of integers)) -/
def tSrs (K : PySem.W.Frag) (ta : TE) : TE := fun σ H Q => ta σ H fun x H1 => ∃ (l : Addr) (ns : List Int), x = .ref l ∧ SqL K H1 l (ns.map V.int) ∧ ns.length < 64 ∧
  ∀ (ms : List Int) (p : Addr), ms.Pairwise (· < ·) → (∀ k, k ∈ ms ↔ k ∈ ns) → H1 p = none → Q (.ref p) (upd H1 p (.lst (ms.map V.int)))
section
variable {X : Cx} {a : Expr} {ta : TE} {p p2 q pos : Pos}
theorem pe_srs (hc : X.calm = true) (hg : Gl X "sorted") (hm : X.mg "sorted" = none) (hg2 : Gl X "set") (hm2 : X.mg "set" = none) (ha : PE X a ta) (na : starEach [a] X.env = (false, eval a X.env) :: starEach [] X.env) :
    PE X (.Call (.Name "sorted" p) [.Call (.Name "set" p2) [a] [] q] [] pos) (tSrs X.K ta) := by
  refine ⟨fun pins s σ H Q I h => ?_⟩
  refine Call_ (ld_blt I hg hm PyProof.Rows.boot_sorted ?_)
  refine PyProof.Rows.callWith_builtin1 (PyProof.Rows.args_cons ?_ rfl) rfl rfl
  refine Call_ (ld_blt I hg2 hm2 PyProof.Rows.boot_set ?_)
  refine PyProof.Rows.callWith_type1 (PyProof.Rows.args_cons (thn (ha.run pins s σ H _ I h) fun v s1 ⟨x, H1, I1, r1, q1⟩ => PyProof.Rows.args_nil ?_) na) na rfl
  obtain ⟨l, ns, rfl, hq, h64, q1⟩ := q1
  cases r1
  obtain ⟨its, r, pl, hz⟩ := I1.list hq
  refine set_of_list (I1.ok.hd hc) pl.isList (ns := ns) (by simpa using r.ints) (by unfold scanBound; omega) fun s2 hf => PyProof.Rows.args_nil ?_
  obtain ⟨c, R, hc2, I2⟩ : ∃ c, SetR X.w s2.heap s1.heap.objs.size (fun j => decide (j ∈ ns)) c ∧ c ≤ ns.length ∧ L2.Inv X pins σ H1 s2 := by
    obtain ⟨g, tk, c, rfl, R, hc2, k⟩ := hf
    exact ⟨c, R, hc2, I1.kept k⟩
  refine sorted_set R (I2.ok.hd hc) (by omega) fun s3 p' out c' ms k3 gg oo hp hx hi hs hmem hlen => ?_
  have hn : H1 p' = none := I2.hok.fresh hp
  have hsz : (ms.map V.int).length ≤ sizeLine := by
    rw [List.length_map, hlen, sizeLine_eq]
    omega
  have J : Inv X pins σ (upd H1 p' (.lst (ms.map V.int))) { s2 with heap := s3.heap, gens := s3.gens, drawn := s3.drawn, toks := s3.toks } :=
    I2.call (ch := []) (Un.laid k3 hp hn) (I2.hok.laid k3 hp ⟨hsz, out.toList, c', vals_of_ints hi, hx⟩) (by rw [gg]; exact I2.bare) (fun _ z => nomatch z)
  have e : s3 = { s2 with heap := s3.heap, gens := s3.gens, drawn := s3.drawn, toks := s3.toks } := by
    cases s3
    cases s2
    cases oo
    rfl
  rw [e]
  exact ⟨.ref p', _, J, rfl, q1 ms p' hs (fun k => by rw [hmem k, decide_eq_true_eq]) hn⟩
end
/-! what it is -/
theorem dedupI_mem (k : Int) : ∀ l, k ∈ dedupI l ↔ k ∈ l
  | [] => Iff.rfl
  | x :: r => by
    unfold dedupI
    split
    · rename_i h
      rw [dedupI_mem k r, List.mem_cons]
      exact ⟨.inr, fun z => z.elim (fun e => e ▸ h) id⟩
    · rw [List.mem_cons, List.mem_cons, dedupI_mem k r]
theorem dedupI_nodup : ∀ l, (dedupI l).Nodup
  | [] => List.nodup_nil
  | x :: r => by
    unfold dedupI
    split
    · exact dedupI_nodup r
    · rename_i h
      exact List.nodup_cons.mpr ⟨fun z => h ((dedupI_mem x r).mp z), dedupI_nodup r⟩
theorem eq_srs {ms ns : List Int} (h : ms.Pairwise (· < ·)) (hm : ∀ k, k ∈ ms ↔ k ∈ ns) : ms = PySem.W.sortI (dedupI ns) := by
  refine PySem.W.eq_sortI ?_ (h.imp fun z => Int.le_of_lt z)
  refine (List.perm_ext_iff_of_nodup ?_ (dedupI_nodup ns)).mpr fun k => by rw [hm k, dedupI_mem]
  exact h.imp fun z e => by subst e; exact Int.lt_irrefl _ z
section
variable {P : Pm} {X : Cx} {a : Expr} {ca : CE} {p p2 q pos : Pos}
theorem t_srs (hK : X.K = P.K) (hc : X.calm = true) (gl : Gl X "sorted") (hm : X.mg "sorted" = none) (gs : Gl X "set") (hms : X.mg "set" = none) (ha : PE X a (T P ca)) (sa : starEach [a] X.env = (false, eval a X.env) :: starEach [] X.env) :
    PE X (.Call (.Name "sorted" p) [.Call (.Name "set" p2) [a] [] q] [] pos) (T P (.srs ca)) := by
  refine PEw (pe_srs hc gl hm gs hms ha sa) fun σ H Q ⟨ρ, G, fm, h⟩ => ⟨ρ, G, fm, ?_⟩
  simp only [ev] at h
  refine Out.bind h fun x ρ1 v G1 H1 s1 fm1 r1 h1 => ?_
  obtain ⟨d, e1, g⟩ := h1.giveO fm1
  cases r1 with
  | @lst l xs ys q1 q2 =>
    simp only [srsD] at e1
    split at e1
    · rename_i hl
      cases hq : intsOf ys with
      | none => rw [hq] at e1; cases e1
      | some is =>
        rw [hq] at e1
        cases e1
        have hx := ints_of q2 hq
        have ln := q2.length
        subst hx
        rw [List.length_map] at ln
        rw [hK]
        exact ⟨l, is, rfl, (Same.ls fm1.sub q1).seq, by omega, fun ms p' hs hm' hn => by
          obtain rfl := eq_srs hs hm'
          exact g.lst fm1.sub (ints_rpA _) p' hn⟩
    · cases e1
  | _ => cases e1
theorem t_gcd {b : Expr} {cb : CE} (gl : Gl X "gcd") (hm : X.mg "gcd" = some (.builtin "math.gcd")) (ha : PE X a (T P ca)) (hb : PE X b (T P cb)) (s1 : starEach [a, b] X.env = (false, eval a X.env) :: starEach [b] X.env) (s2 : starEach [b] X.env = (false, eval b X.env) :: starEach [] X.env)
    (hpl : (backTo pos (starEach [b] X.env)).any (·.1) = false) : PE X (.Call (.Name "gcd" p) [a, b] [] pos) (T P (.gcd ca cb)) := by
  refine PEw (pe_callBfun cr_gcd gl hm (pa_cons ha (pa_cons hb pa_nil s2) s1) (by decide) s1 hpl) fun σ H Q ⟨ρ, G, fm, h⟩ => ⟨ρ, G, fm, ?_⟩
  simp only [ev] at h
  refine Out.bind h fun x ρ1 v G1 H1 s1 fm1 r1 h1 => ⟨ρ1, G1, fm1, ?_⟩
  refine Out.bind h1 fun y ρ2 w G2 H2 s2 fm2 r2 h2 => ?_
  obtain ⟨d, e1, g⟩ := h2.giveO fm2
  cases r1 with
  | int i =>
    cases r2 with
    | int j =>
      cases e1
      exact ⟨i, j, rfl, g.int fm2.sub⟩
    | _ => cases e1
  | _ => cases e1
end
end Ev


set_option Elab.async false
set_option linter.all false
set_option maxRecDepth 100000
set_option maxHeartbeats 2000000
namespace Ev
open PySem PySem.Spec PyProof.Rows L2
/-! ## a call that is lent a new list -/
section
variable {P : Pm} {X : Cx} {e : Expr} {cs bs : List CE} {pos : Pos}
/-- behind a call that was lent a list that nobody holds -/
theorem fm_drop {G G' H H' : Hp} {σ : L2.St} {ρ : Ro} {p : Addr} (fm : P.Fm ρ G σ H) (zp : ¬ P.Z p) (np : ∀ (i : Nat) (d : D), ρ[i]? = some (some (d, true)) → σ[i]? ≠ some (some (.ref p))) (s1 : Same G G') (s2 : Same G' H') (st : Stay G H (some p) G' H') : P.Fm ρ G' σ H' where
  sub := s2
  len := fm.len
  un := fun i d h => let ⟨v, h1, h2⟩ := fm.un i d h; ⟨v, h1, h2.mono s1⟩
  ow := fun i d h => by
    obtain ⟨a, o, h1, h3, h4, h5, h6⟩ := fm.ow i d h
    have ne : a ≠ p := fun z => np i d h (by rw [← z]; exact h1)
    obtain ⟨q1, q2⟩ := st a (by rw [h3]; exact fun z => nomatch z) h4 (fun z => ne (Option.some.inj z).symm)
    exact ⟨a, o, h1, q1.trans h3, q2, h5, h6.mono s1⟩
  dis := fm.dis
  zg := fun b hb => by
    obtain ⟨h1, h2, h3⟩ := fm.zg b hb
    have ne : b ≠ p := fun z => zp (by rw [← z]; exact hb)
    obtain ⟨q1, q2⟩ := st b (by rw [h2]; exact h3) h1 (fun z => ne (Option.some.inj z).symm)
    exact ⟨q2, q1.trans h2, h3⟩
  at0 := fm.at0
theorem end_cfo {G H : Hp} {σ : L2.St} {ρ : Ro} {r : Ev.CR} {Q : VK} {p : Addr} (fm : P.Fm ρ G σ H) (zp : ¬ P.Z p) (np : ∀ (i : Nat) (d : D), ρ[i]? = some (some (d, true)) → σ[i]? ≠ some (some (.ref p)))
    (h : Out P (fun G v d => Rp P.K G v d) G σ (cfoR r ρ) Q) : EndC P.K P.mg G H (some p) r Q (WE P.W σ) := by
  cases r with
  | ok d d1 =>
    cases d1 with
    | none => exact h.elim
    | some e => exact fun v G' H' s1 s2 st rp ln => h v G' H' s1 (fm_drop fm zp np s1 s2 st) rp
  | ow ds d1 =>
    cases d1 with
    | none => exact h.elim
    | some e =>
      intro p' xs G' H' s1 s2 st hp gp hp' rp ln
      obtain ⟨zp', np'⟩ := fm_new fm hp
      exact h (.ref p') (upd G' p' (.lst xs)) H' (Same.trans s1 (same_new gp)) (fm_put (fm_drop fm zp np s1 s2 st) hp' gp zp' np') (.lst (Ls.of upd_same) (rp.mono (same_new gp)))
  | er c f d1 => exact h.elim
  | bad => exact h.elim
variable {k : Nat} {f : Addr} {fd : FuncData} {ps : List Str} {x g : Str} {perm : List Nat} {p : Pos} {es : List Expr}
theorem t_cfo {n : Nat} (F : FnG X.prog X.w X.K X.mg X.base k f fd ps (spD P.K P.mg P.cal x true n)) (hr : Room k X.A) (hg : X.A.guards = some []) (tk : L2N.Takes X P.W) (gl : Gl X x) (hm : X.mg x = some (.ref f)) (hk : PySem.W.keepIn X.K (.ref f) = true) (hb : Binds X.K fd ps [])
    (h0 : PE X e (TOwn P (evOwn P.cal P.b0 (.call g perm bs)))) (ha : ∀ P', SameW P P' → PA X es (TAs P' cs)) (hn : cs.length + 1 = n) (hev : ∀ ρ ds ρ', evA P.cal P.b0 cs ρ = .ok ds ρ' → ds.length = cs.length) (hdb : (x == ("__debug__" : Str)) = false)
    (he : starEach (e :: es) X.env = (false, eval e X.env) :: starEach es X.env) (hpl : (backTo pos (starEach es X.env)).any (·.1) = false) :
    PE X (.Call (.Name x p) (e :: es) [] pos) (T P (.cfo x g perm bs cs)) := by
  have hs' : PA X es (fun σ H Q => ∃ P', SameW P P' ∧ TAs P' cs σ H Q) := ⟨fun pos pins s σ H Q I ⟨P', sw, q⟩ => (ha P' sw).run pos pins s σ H Q I q⟩
  refine PEw (pe_G F hr hg tk gl hm hk hb (pa_cons h0 hs' he) hdb he hpl) fun σ H Q ⟨ρ, G, fm, h⟩ => ⟨ρ, G, fm, ?_⟩
  simp only [ev] at h
  simp only [evOwn]
  cases hq : evA P.cal P.b0 bs ρ with
  | bad => rw [hq] at h; exact h.elim
  | er c f ρ1 => rw [hq] at h; exact h
  | ok ds0 ρ1 =>
    rw [hq] at h
    simp only [Rs.bind_ok] at h ⊢
    cases hp : permD perm ds0 with
    | none => rw [hp] at h; exact h.elim
    | some es0 =>
      rw [hp] at h
      simp only at h ⊢
      cases hc : P.cal g es0 with
      | ok d d0 => rw [hc] at h; exact h.elim
      | er c f d0 => rw [hc] at h; exact h.elim
      | bad => rw [hc] at h; exact h.elim
      | ow xs0 d0 =>
        cases d0 with
        | some e => rw [hc] at h; exact h.elim
        | none =>
          rw [hc] at h
          simp only at h
          show OutO P G σ (.ok xs0 ρ1) _
          intro p xs G1 H1 s1 fm1 hp gp zp np rp
          have fm1' : (P.hid p xs).Fm ρ1 G1 σ H1 := fm_blk fm1 hp gp zp np
          refine ⟨P.hid p xs, ⟨rfl, rfl, rfl, rfl, rfl⟩, ρ1, G1, fm1', ?_⟩
          show Out (P.hid p xs) _ G1 σ (evA P.cal P.b0 cs ρ1) _
          cases hq2 : evA P.cal P.b0 cs ρ1 with
          | bad => rw [hq2] at h; exact h.elim
          | er c f ρ2 => rw [hq2] at h; exact fun cls dx G' H' s fm e => h cls dx G' H' (Same.trans s1 s) (fm_unhid zp fm) e
          | ok ds ρ2 =>
            have hl := hev _ _ _ hq2
            rw [hq2] at h
            simp only [Rs.bind_ok] at h
            intro vs G2 H2 s2 fm2 r2
            obtain ⟨b1, b2⟩ := blk_at (P := P) (D := p) (v := xs) fm2
            have np2 : ∀ (i : Nat) (d : D), ρ2[i]? = some (some (d, true)) → σ[i]? ≠ some (some (.ref p)) := fun i d hi z => by
              obtain ⟨a, o, w1, _, _, w5, _⟩ := fm2.ow i d hi
              rw [w1] at z
              cases z
              exact w5 (.inr rfl)
            refine ⟨G2, .list xs0 :: ds, some p, ?_, fm2.sub, rfl, ⟨vs, xs, xs0, ds, rfl, rfl, b1, b2, rp.mono s2, r2⟩, end_cfo (fm_unhid zp fm2) zp np2 (Out.mono (Same.trans s1 s2) h)⟩
            rw [List.length_cons, r2.length, hl, hn]
end
end Ev


set_option Elab.async false
set_option linter.all false
set_option maxRecDepth 100000
set_option maxHeartbeats 2000000
/-! list(zip(a, b)) -/
namespace LZ
open PySem PySem.Spec PyProof.Rows L2 PySem.W
theorem no_len : typeLookup (.type "zip") "__len__" = pure none := by rw [typeLookup_type, builtinLookup_eq_fast]; kernel_rfl
theorem no_hint : typeLookup (.type "zip") "__length_hint__" = pure none := by rw [typeLookup_type, builtinLookup_eq_fast]; kernel_rfl
/-- where a zip over two lists stands -/
structure At (z TI TO i1 i2 l1 l2 : Addr) (xs ys : Array Value) (i : Nat) (h : Heap) : Prop where
  ti : IsPair h TI (.ref i1) (.ref i2)
  it1 : h.IsListIter i1 l1 i
  it2 : h.IsListIter i2 l2 i
  ls1 : h.IsList l1 xs
  ls2 : h.IsList l2 ys
  zz : (IsZip h z TI TO .none ∧ ∃ a b, IsPair h TO a b) ∨ ∃ T f oT, IsZipHeld h z TI TO T f ∧ h.get? T = some oT ∧ T ∉ [z, TI, TO, i1, i2, l1, l2]
/-- the pairs that have been made -/
structure Prs (n0 : Nat) (xs ys : Array Value) (Ts : List Addr) (h : Heap) : Prop where
  asc : Ts.Pairwise (· < ·)
  lo : ∀ T ∈ Ts, n0 ≤ T
  hi : ∀ T ∈ Ts, T < h.objs.size
  pr : ∀ (j : Nat) (T : Addr), Ts[j]? = some T → ∃ x y, xs[j]? = some x ∧ ys[j]? = some y ∧ IsPair h T x y
section
variable {prog : Program} {w : World} {A : Around} {R : Result → Shared → Prop} {z TI TO i1 i2 l1 l2 S : Addr} {xs ys : Array Value} {n0 : Nat}
theorem At.keep {i : Nat} {h h' : Heap} (a : At z TI TO i1 i2 l1 l2 xs ys i h) (hS : S ∉ [z, TI, TO, i1, i2, l1, l2]) (nt : ∀ T f, IsZipHeld h z TI TO T f → T ≠ S) (k : ∀ b o, b ≠ S → h.get? b = some o → h'.get? b = some o) : At z TI TO i1 i2 l1 l2 xs ys i h' := by
  simp only [List.mem_cons, List.not_mem_nil, or_false, not_or] at hS
  obtain ⟨s1, s2, s3, s4, s5, s6, s7⟩ := hS
  refine ⟨k _ _ (Ne.symm s2) a.ti, a.it1.at fun o e => k _ o (Ne.symm s4) e, a.it2.at fun o e => k _ o (Ne.symm s5) e, a.ls1.at fun o e => k _ o (Ne.symm s6) e, a.ls2.at fun o e => k _ o (Ne.symm s7) e, ?_⟩
  rcases a.zz with ⟨q, x, y, p⟩ | ⟨T, f, oT, q, p, r⟩
  · exact .inl ⟨k _ _ (Ne.symm s1) q, x, y, k _ _ (Ne.symm s3) p⟩
  · exact .inr ⟨T, f, oT, k _ _ (Ne.symm s1) q, k _ _ (nt T f q) p, r⟩
/-- the next pair -/
theorem nxt {E : Value → Shared → Prop} {s : Shared} {Q : Option Value → Shared → Prop} {i : Nat} (D : ZipApart z TI TO i1 i2 l1 l2) (a : At z TI TO i1 i2 l1 l2 xs ys i s.heap) (hi : i < min xs.size ys.size) (lt : ∀ b ∈ [z, TI, TO, i1, i2, l1, l2], b < s.heap.objs.size)
    (hQ : ∀ h' x y, xs[i]? = some x → ys[i]? = some y → At z TI TO i1 i2 l1 l2 xs ys (i + 1) h' → (∀ T f, IsZipHeld h' z TI TO T f → T < h'.objs.size ∧ (T = s.heap.objs.size ∨ IsZipHeld s.heap z TI TO T f ∨ ∃ g, IsZipHeld s.heap z TI TO T g)) → IsPair h' s.heap.objs.size x y → h'.objs.size = s.heap.objs.size + 1 →
      (∀ c o, c ∉ [z, TO, i1, i2] → s.heap.get? c = some o → h'.get? c = some o) → Q (some (.ref s.heap.objs.size)) { s with heap := h' }) : wpAny (model prog w) A (pyNext (.ref z)) Q E s := by
  obtain ⟨ti, it1, it2, ls1, ls2, zz⟩ := a
  have hx := Array.getElem?_eq_getElem (show i < xs.size by omega)
  have hy := Array.getElem?_eq_getElem (show i < ys.size by omega)
  have nn : s.heap.objs.size ∉ [z, TI, TO, i1, i2, l1, l2] := fun m => Nat.lt_irrefl _ (lt _ m)
  rcases zz with ⟨q, x0, y0, p⟩ | ⟨T, f, oT, q, p, r⟩
  · refine wpAny_pyNext_zip_item D q ti p it1 it2 ls1 ls2 hx hy fun h' a1 a2 a3 a4 a5 a6 hk => hQ h' _ _ hx hy ⟨hk _ _ D.TIz D.TITO D.TIi1 D.TIi2 ti, a3, a4, ls1.at fun o e => hk _ o D.l1z D.l1TO D.l1i1 D.l1i2 e, ls2.at fun o e => hk _ o D.l2z D.l2TO D.l2i1 D.l2i2 e, .inr ⟨_, false, _, a1, a5, nn⟩⟩ (fun T' f' q' => ?_) a5 a6 fun c o hc e =>
      hk c o (fun m => hc (by simp [m])) (fun m => hc (by simp [m])) (fun m => hc (by simp [m])) (fun m => hc (by simp [m])) e
    have e1 : (some _ : Option Obj) = some _ := a1.symm.trans q'
    have e2 := Option.some.inj e1
    simp only [Obj.mk.injEq, Data.fields.injEq, Array.mk.injEq, List.cons.injEq] at e2
    have e3 : T' = s.heap.objs.size := by
      have := e2.2.2.1.1
      simp only [rawInt, Value.int.injEq] at this
      exact (Int.ofNat.inj this.1).symm
    exact ⟨by rw [e3, a6]; exact Nat.lt_succ_self _, .inl e3⟩
  · simp only [List.mem_cons, List.not_mem_nil, or_false, not_or] at r
    refine wpAny_pyNext_zip_item_held D q p ti it1 it2 ls1 ls2 hx hy fun h' a1 a3 a4 a5 a6 hk => hQ h' _ _ hx hy ⟨hk _ _ D.TIz D.TIi1 D.TIi2 ti, a3, a4, ls1.at fun o e => hk _ o D.l1z D.l1i1 D.l1i2 e, ls2.at fun o e => hk _ o D.l2z D.l2i1 D.l2i2 e, .inr ⟨T, true, oT, a1, hk _ _ r.1 r.2.2.2.1 r.2.2.2.2.1 p, by simp [r]⟩⟩ (fun T' f' q' => ?_) a5 a6 fun c o hc e =>
      hk c o (fun m => hc (by simp [m])) (fun m => hc (by simp [m])) (fun m => hc (by simp [m])) e
    have e1 : (some _ : Option Obj) = some _ := a1.symm.trans q'
    have e2 := Option.some.inj e1
    simp only [Obj.mk.injEq, Data.fields.injEq, Array.mk.injEq, List.cons.injEq] at e2
    have e3 : T' = T := by
      have := e2.2.2.1.1
      simp only [rawInt, Value.int.injEq] at this
      exact (Int.ofNat.inj this.1).symm
    subst e3
    exact ⟨Nat.lt_of_lt_of_le (Heap.lt_size p) (by rw [a6]; exact Nat.le_succ _), .inr (.inr ⟨f, q⟩)⟩
/-- the loop -/
theorem loop (hh : A.handled = none) (D : ZipApart z TI TO i1 i2 l1 l2) (hS : S ∉ [z, TI, TO, i1, i2, l1, l2]) (hn : min xs.size ys.size ≤ sizeLine) (res : Value) (hS0 : S < n0) (hl0 : ∀ b ∈ [z, TI, TO, i1, i2, l1, l2], b < n0) :
    ∀ (k i : Nat) (s : Shared) (Ts : List Addr) (c : Nat), min xs.size ys.size - i = k → i ≤ min xs.size ys.size → At z TI TO i1 i2 l1 l2 xs ys i s.heap → (∀ T f, IsZipHeld s.heap z TI TO T f → T ≠ S) → s.heap.get? S = some { cls := .type "list", dict := none, data := .seq (Ts.map Value.ref).toArray c, slots := #[] } → Ts.length = i →
      n0 ≤ s.heap.objs.size → Prs n0 xs ys Ts s.heap →
    (∀ h' Us c', h'.get? S = some { cls := .type "list", dict := none, data := .seq (Us.map Value.ref).toArray c', slots := #[] } → Us.length = min xs.size ys.size → Prs n0 xs ys Us h' → (∀ b o, b ∉ [S, z, TO, i1, i2] → s.heap.get? b = some o → h'.get? b = some o) → R (.ok (.ret res)) { s with heap := h' }) →
    codeAny (model prog w) A (.builtin "list.extend.loop" ⟨[.ref S, .ref z, res], []⟩) R s := by
  have hS' := hS
  simp only [List.mem_cons, List.not_mem_nil, or_false, not_or] at hS'
  obtain ⟨s1, s2, s3, s4, s5, s6, s7⟩ := hS'
  intro k
  induction k with
  | zero =>
    intro i s Ts c hk hi a nt hSg hl hz P hR
    refine codeAny_builtin F.entry_extend_loop ?_
    rw [Around.under_plainId F.plain_extend_loop _]
    show wpAny _ A.in1 (pyNext (.ref z) >>= _) _ _ s
    obtain ⟨ti, it1, it2, ls1, ls2, zz⟩ := a
    have he : xs[i]? = none ∨ ys[i]? = none := by
      rcases Nat.le_total xs.size ys.size with q | q
      · exact .inl (Array.getElem?_eq_none (by omega))
      · exact .inr (Array.getElem?_eq_none (by omega))
    have fin : ∀ h', (∀ c o, c ∉ [z, TO, i1, i2] → s.heap.get? c = some o → h'.get? c = some o) → R (.ok (.ret res)) { s with heap := h' } := fun h' kp => by
      have szl : ∀ {b o}, s.heap.get? b = some o → b ∉ [z, TO, i1, i2] → b < h'.objs.size := fun e n => Heap.lt_size (kp _ _ n e)
      have out : ∀ T ∈ Ts, T ∉ [z, TO, i1, i2] := fun T hT m => by
        have l := P.lo T hT
        simp only [List.mem_cons, List.not_mem_nil, or_false] at m
        rcases m with m | m | m | m <;> exact Nat.lt_irrefl _ (Nat.lt_of_lt_of_le (hl0 T (by simp [m])) l)
      refine hR h' Ts c (kp _ _ (by simp [s1, s3, s4, s5]) hSg) (by omega) ⟨P.asc, P.lo, fun T hT => ?_, fun j T q => ?_⟩ fun b o hb e => kp b o (fun m => hb (List.mem_cons_of_mem _ m)) e
      · obtain ⟨j, hj⟩ := List.getElem?_of_mem hT
        obtain ⟨x, y, _, _, e⟩ := P.pr j T hj
        exact szl e (out T hT)
      · obtain ⟨x, y, e1, e2, e⟩ := P.pr j T q
        exact ⟨x, y, e1, e2, kp _ _ (out T (List.mem_of_getElem? q)) e⟩
    refine wpAny_bind ?_
    rcases zz with ⟨q, x0, y0, p⟩ | ⟨T, f, oT, q, p, r⟩
    · refine wpAny_pyNext_zip_end (s := s) hh D q ti p it1 it2 ls1 ls2 he fun h' kp => ?_
      exact wpAny_pure (fin h' fun c o hc e => kp c o (fun m => hc (by simp [m])) (fun m => hc (by simp [m])) (fun m => hc (by simp [m])) (fun m => hc (by simp [m])) e)
    · refine wpAny_pyNext_zip_end_held (s := s) hh D q p ti it1 it2 ls1 ls2 he fun h' kp => ?_
      exact wpAny_pure (fin h' fun c o hc e => kp c o (fun m => hc (by simp [m])) (fun m => hc (by simp [m])) (fun m => hc (by simp [m])) e)
  | succ k ih =>
    intro i s Ts c hk hi a nt hSg hl hz P hR
    refine codeAny_builtin F.entry_extend_loop ?_
    rw [Around.under_plainId F.plain_extend_loop _]
    show wpAny _ A.in1 (pyNext (.ref z) >>= _) _ _ s
    refine wpAny_bind (nxt D a (by omega) (fun b hb => Nat.lt_of_lt_of_le (hl0 b hb) hz) fun h' x y hx hy a' hT hp hsz kp => ?_)
    have hSg' := kp S _ (by simp [s1, s3, s4, s5]) hSg
    show wpAny _ A.in1 (updateSeq S (·.push (.ref s.heap.objs.size)) >>= _) _ _ _
    have out : ∀ T ∈ Ts, T ∉ [z, TO, i1, i2] := fun T hT m => by
      have l := P.lo T hT
      simp only [List.mem_cons, List.not_mem_nil, or_false] at m
      rcases m with m | m | m | m <;> exact Nat.lt_irrefl _ (Nat.lt_of_lt_of_le (hl0 T (by simp [m])) l)
    refine wpAny_bind (wpAny_updateSeq hSg' rfl (wpAny_pure ⟨plainId_quiet F.plain_extend_loop _, ?_⟩) (by simp [hl]; omega) (by
      show ((Ts.map Value.ref).toArray.push _).size ≤ sizeLine + 1
      simp [hl]; omega))
    have oth : ∀ b o, b ≠ S → h'.get? b = some o → (h'.update S (Obj.mapSeq (·.push (.ref s.heap.objs.size)))).get? b = some o := fun b o hb e => (Heap.get?_update_other _ _ (Ne.symm hb)).trans e
    have size' : (h'.update S (Obj.mapSeq (·.push (.ref s.heap.objs.size)))).objs.size = h'.objs.size := by simp [Heap.update]
    have ntS : ∀ T f, IsZipHeld h' z TI TO T f → T ≠ S := fun T f q => by
      rcases (hT T f q).2 with e | e | ⟨g, e⟩
      · rw [e]; exact Nat.ne_of_gt (Nat.lt_of_lt_of_le hS0 hz)
      · exact nt T f e
      · exact nt T g e
    have hSg2 := Heap.get?_update_self (Obj.mapSeq (·.push (.ref s.heap.objs.size))) hSg' rfl
    have zS : ∀ T f, IsZipHeld (h'.update S (Obj.mapSeq (·.push (.ref s.heap.objs.size)))) z TI TO T f → IsZipHeld h' z TI TO T f := fun T f q => (Heap.get?_update_other _ _ s1).symm.trans q
    have old : ∀ T ∈ Ts, T ≠ S := fun T hT z => Nat.lt_irrefl _ (Nat.lt_of_lt_of_le hS0 (by rw [← z]; exact P.lo T hT))
    refine ih (i + 1) { s with heap := h'.update S (Obj.mapSeq (·.push (.ref s.heap.objs.size))) } (Ts ++ [s.heap.objs.size]) _ (by omega) (by omega) (a'.keep hS ntS oth) (fun T f q => ntS T f (zS T f q)) (by
        show (h'.update S _).get? S = _
        rw [hSg2]
        simp [Obj.mapSeq, List.map_append]
        rfl) (by simp [hl]) (by show n0 ≤ (h'.update S _).objs.size; rw [size', hsz]; exact Nat.le_succ_of_le hz) ⟨?_, ?_, ?_, ?_⟩ fun h'' Us c' e1 e2 e3 e4 => ?_
    · exact List.pairwise_append.mpr ⟨P.asc, List.pairwise_singleton _ _, fun a ha b hb => by rw [List.mem_singleton.mp hb]; exact P.hi a ha⟩
    · intro T hT'
      rcases List.mem_append.mp hT' with q | q
      · exact P.lo T q
      · rw [List.mem_singleton.mp q]; exact hz
    · intro T hT'
      show T < (h'.update S _).objs.size
      rw [size', hsz]
      rcases List.mem_append.mp hT' with q | q
      · exact Nat.lt_succ_of_lt (P.hi T q)
      · rw [List.mem_singleton.mp q]; exact Nat.lt_succ_self _
    · intro j T q
      by_cases hj : j < Ts.length
      · rw [List.getElem?_append_left hj] at q
        obtain ⟨x', y', q1, q2, q3⟩ := P.pr j T q
        have m := List.mem_of_getElem? q
        exact ⟨x', y', q1, q2, oth _ _ (old T m) (kp _ _ (out T m) q3)⟩
      · rw [List.getElem?_append_right (Nat.not_lt.mp hj)] at q
        obtain ⟨q0, rfl⟩ : j - Ts.length = 0 ∧ T = s.heap.objs.size := by
          cases hq : j - Ts.length with
          | zero => rw [hq] at q; simp at q; exact ⟨rfl, q.symm⟩
          | succ n => rw [hq] at q; simp at q
        obtain rfl : j = i := by omega
        exact ⟨x, y, hx, hy, oth _ _ (Nat.ne_of_gt (Nat.lt_of_lt_of_le hS0 hz)) hp⟩
    · refine hR h'' Us c' e1 e2 e3 fun b o hb e => e4 b o hb (oth b o (fun q => hb (by rw [q]; exact List.mem_cons_self)) (kp b o (fun m => hb (List.mem_cons_of_mem _ m)) e))
/-- list.__init__ of a new list, from a zip -/
theorem init {s : Shared} (hh : A.handled = none) (D : ZipApart z TI TO i1 i2 l1 l2) (a : At z TI TO i1 i2 l1 l2 xs ys 0 s.heap) (n1 : ∀ T f, ¬ IsZipHeld s.heap z TI TO T f) (hn : min xs.size ys.size ≤ sizeLine) (hS : S ∉ [z, TI, TO, i1, i2, l1, l2]) (hl0 : ∀ b ∈ [z, TI, TO, i1, i2, l1, l2], b < s.heap.objs.size)
    (hSg : s.heap.get? S = some { cls := .type "list", data := .seq #[] })
    (hR : ∀ h' Us c', h'.get? S = some { cls := .type "list", dict := none, data := .seq (Us.map Value.ref).toArray c', slots := #[] } → Us.length = min xs.size ys.size → Prs s.heap.objs.size xs ys Us h' → (∀ b o, b ∉ [S, z, TO, i1, i2] → s.heap.get? b = some o → h'.get? b = some o) → R (.ok (.ret .none)) { s with heap := h' }) :
    wpAny (model prog w) A.in1 (Builtin.«list.__init__» ⟨[.ref S, .ref z], []⟩)
      (fun fin s' => match fin with | .done f => R (.ok f) s' | .again c' => c'.quiet = true ∧ codeAny (model prog w) A c' R s') (fun e s' => R (.error e) s') s := by
  have Szl : S < s.heap.objs.size := Heap.lt_size hSg
  have hS' := hS
  simp only [List.mem_cons, List.not_mem_nil, or_false, not_or] at hS'
  show wpAny _ _ (do let old ← Builtin.List.listItems (.ref S); Builtin.List.listUpdate (.ref S) (fun _ => #[]); letGo old.toList.reverse; Builtin.List.listExtendWith (.ref S) (.ref z) .none) _ _ s
  refine wpAny_bind ?_
  unfold Builtin.List.listItems
  refine wpAny_bind (wpAny_seqItems hSg rfl (wpAny_pure ?_))
  show wpAny _ A.in1 (updateSeq S (fun _ => #[]) >>= fun _ => letGo (#[] : Array Value).toList.reverse >>= fun _ => Builtin.List.listExtendWith (.ref S) (.ref z) .none) _ _ s
  have upS : ∀ {h : Heap} {f : Array Value → Array Value} {b : Addr} {o : Obj}, b ≠ S → h.get? b = some o → (h.update S (Obj.mapSeq f)).get? b = some o := fun hb e => (Heap.get?_update_other _ _ (Ne.symm hb)).trans e
  refine wpAny_bind (wpAny_updateSeq hSg rfl ?_)
  have g2 := Heap.get?_update_self (Obj.mapSeq (fun _ => (#[] : Array Value))) hSg rfl
  refine wpAny_bind (wpAny_letGo ?_)
  have nt : ∀ {h : Heap}, (∀ T f, IsZipHeld h z TI TO T f → IsZipHeld s.heap z TI TO T f) → ∀ T f, IsZipHeld h z TI TO T f → T ≠ S := fun k T f q => absurd (k T f q) (n1 T f)
  have back : ∀ {h : Heap} {f : Array Value → Array Value}, (∀ T f, IsZipHeld h z TI TO T f → IsZipHeld s.heap z TI TO T f) → ∀ T g, IsZipHeld (h.update S (Obj.mapSeq f)) z TI TO T g → IsZipHeld s.heap z TI TO T g := fun k T g q => k T g ((Heap.get?_update_other _ _ hS'.1).symm.trans q)
  have a2 := a.keep (h' := s.heap.update S (Obj.mapSeq (fun _ => (#[] : Array Value)))) hS (nt fun _ _ q => q) fun b o hb e => upS hb e
  have sz : ∀ (h : Heap) (f : Array Value → Array Value), (h.update S (Obj.mapSeq f)).objs.size = h.objs.size := fun h f => by simp [Heap.update]
  have key : ∀ (h : Heap) (c₁ : Nat), h.objs.size = s.heap.objs.size → At z TI TO i1 i2 l1 l2 xs ys 0 h → (∀ T f, IsZipHeld h z TI TO T f → IsZipHeld s.heap z TI TO T f) → (∀ b o, b ≠ S → s.heap.get? b = some o → h.get? b = some o) →
      h.get? S = some { cls := .type "list", data := .seq #[] c₁ } → codeAny (model prog w) A (.builtin "list.extend.loop" ⟨[.ref S, .ref z, .none], []⟩) R { s with heap := h } := by
    intro h c₁ hsz a' hb hk hg
    refine loop (n0 := s.heap.objs.size) hh D hS hn .none Szl hl0 _ 0 { s with heap := h } [] c₁ rfl (Nat.zero_le _) a' (nt hb) (by simpa using hg) rfl (by show _ ≤ h.objs.size; rw [hsz]; exact Nat.le_refl _) ⟨List.Pairwise.nil, fun _ m => (nomatch m), fun _ m => (nomatch m), fun j T q => by simp at q⟩ fun h' Us c' e1 e2 e3 e4 => ?_
    exact hR h' Us c' e1 e2 e3 fun b o m e => e4 b o m (hk b o (fun q => m (by rw [q]; exact List.mem_cons_self)) e)
  unfold Builtin.List.listExtendWith
  have zt : ∃ f0, IsZip (s.heap.update S (Obj.mapSeq (fun _ => (#[] : Array Value)))) z TI TO f0 := by
    rcases a2.zz with ⟨q, _⟩ | ⟨T, f, oT, q, _⟩
    · exact ⟨_, q⟩
    · exact absurd (back (fun _ _ q => q) T f q) (n1 T f)
  obtain ⟨f0, zt⟩ := zt
  have ty : ∀ {h : Heap} {t : Nat}, (∃ f0, IsZip h z TI TO f0) → (⟨h, s.gens, s.drawn, t, s.os⟩ : Shared).TypeIs (.ref z) "zip" := fun ⟨f0, q⟩ => ⟨_, q, rfl⟩
  refine wpAny_bind (wpAny_typeOf (ty ⟨f0, zt⟩) ?_)
  have h1 : Builtin.List.listSameRef (.ref S) (.ref z) = false := by simp [Builtin.List.listSameRef, hS'.1]
  have h2 : (Value.type "zip" == Value.type "list") = false := by decide
  have h3 : (Value.type "zip" == Value.type "tuple") = false := by decide
  simp only [h1, h2, h3, Bool.or_false, Bool.false_eq_true, if_false]
  refine wpAny_bind (wpAny_pyIter_zip zt ?_)
  refine wpAny_bind (wpAny_holding ?_)
  unfold Builtin.List.listLengthHint
  refine wpAny_bind (wpAny_specialOf (ty ⟨f0, zt⟩) no_len ?_)
  show wpAny _ A.in1 (specialOf (Value.ref z) (Str.ofString "__length_hint__") >>= _) _ _ _
  refine wpAny_bind (wpAny_specialOf (ty ⟨f0, zt⟩) no_hint ?_)
  refine wpAny_pure ?_
  refine wpAny_ite_split (fun _ => ?_) (fun _ => wpAny_pure ⟨plainId_quiet F.plain_extend_loop _, key _ _ (sz _ _) a2 (back fun _ _ q => q) (fun b o hb e => upS hb e) g2⟩)
  refine wpAny_bind (wpAny_rule ?_)
  refine wpAny_bind ?_
  show wpAny _ _ (updateSeq S (·.push .none) >>= fun _ => updateSeq S (·.pop)) _ _ _
  refine wpAny_bind (wpAny_updateSeq g2 rfl ?_)
  have g3 := Heap.get?_update_self (Obj.mapSeq (·.push Value.none)) g2 rfl
  refine wpAny_updateSeq (hz := by seq_fits) g3 rfl ?_
  have g4 := Heap.get?_update_self (Obj.mapSeq (·.pop)) g3 rfl
  refine wpAny_pure ⟨plainId_quiet F.plain_extend_loop _, key _ _ (by rw [sz, sz, sz]) ?_ (back (back (back fun _ _ q => q))) (fun b o hb e => upS hb (upS hb (upS hb e))) g4⟩
  exact a2.keep hS (nt (back fun _ _ q => q)) fun b o hb e => upS hb (upS hb e)
theorem call {E : Value → Shared → Prop} {Q : Value → Shared → Prop} {s : Shared} (hh : A.handled = none) (D : ZipApart z TI TO i1 i2 l1 l2) (a : At z TI TO i1 i2 l1 l2 xs ys 0 s.heap) (n1 : ∀ T f, ¬ IsZipHeld s.heap z TI TO T f) (hn : min xs.size ys.size ≤ sizeLine) (hl0 : ∀ b ∈ [z, TI, TO, i1, i2, l1, l2], b < s.heap.objs.size)
    (hQ : ∀ h' Us c', h'.get? s.heap.objs.size = some { cls := .type "list", dict := none, data := .seq (Us.map Value.ref).toArray c', slots := #[] } → Us.length = min xs.size ys.size → Prs (s.heap.objs.size + 1) xs ys Us h' → (∀ b o, b ∉ [z, TO, i1, i2] → s.heap.get? b = some o → h'.get? b = some o) → Q (.ref s.heap.objs.size) { s with heap := h' }) :
    wpAny (model prog w) A (PySem.call (.type "list") [.ref z]) Q E s := by
  have old : ∀ {b o}, s.heap.get? b = some o → (s.heap.push { cls := .type "list", data := .seq #[] }).get? b = some o := fun e => Heap.get?_push_of_some _ e
  have hS : (s.heap.push { cls := .type "list", data := .seq #[] }).get? s.heap.objs.size = some { cls := .type "list", data := .seq #[] } := Heap.get?_push_size _ rfl
  have sz : (s.heap.push { cls := .type "list", data := .seq #[] }).objs.size = s.heap.objs.size + 1 := by simp [Heap.push]
  have nS : s.heap.objs.size ∉ [z, TI, TO, i1, i2, l1, l2] := fun m => Nat.lt_irrefl _ (hl0 _ m)
  have back : ∀ T f, IsZipHeld (s.heap.push { cls := .type "list", data := .seq #[] }) z TI TO T f → IsZipHeld s.heap z TI TO T f := fun T f q => by
    rcases a.zz with ⟨p, _⟩ | ⟨T', f', oT, p, _⟩
    · exact (p.trans ((old p).symm.trans q)).trans rfl
    · exact (p.trans ((old p).symm.trans q)).trans rfl
  refine callType_codes (Q₁ := fun obj s₁ => obj = .ref s.heap.objs.size ∧ s₁ = { s with heap := s.heap.push { cls := .type "list", data := .seq #[] } }) F.called_list (F.typeCall_list_1 _) F.entry_list_init (code_list_new _ ⟨rfl, rfl⟩) fun obj s₁ h₁ => ?_
  obtain ⟨rfl, rfl⟩ := h₁
  refine ⟨⟨_, hS, rfl⟩, F.args_list_init_2 _ _, init (A := A.in1) (s := { s with heap := s.heap.push { cls := .type "list", data := .seq #[] } }) hh D ⟨old a.ti, a.it1.at fun o e => old e, a.it2.at fun o e => old e, a.ls1.at fun o e => old e, a.ls2.at fun o e => old e, ?_⟩ (fun T f q => n1 T f (back T f q)) hn nS (fun b hb => by show b < (s.heap.push _).objs.size; rw [sz]; exact Nat.lt_succ_of_lt (hl0 b hb)) hS fun h' Us c' e1 e2 e3 e4 => ?_⟩
  · rcases a.zz with ⟨p, x, y, q⟩ | ⟨T, f, oT, p, _⟩
    · exact .inl ⟨old p, x, y, old q⟩
    · exact absurd p (n1 T f)
  · have e3' : Prs (s.heap.push { cls := .type "list", data := .seq #[] }).objs.size xs ys Us h' := e3
    rw [sz] at e3'
    refine ⟨rfl, hQ h' Us c' e1 e2 e3' fun b o m e => e4 b o (fun q => ?_) (old e)⟩
    rcases List.mem_cons.mp q with q | q
    · exact absurd (Heap.lt_size e) (by rw [q]; exact Nat.lt_irrefl _)
    · exact m q
end
/-! many objects laid at once -/
def ups (H : Hp) : List (Addr × HO) → Hp
  | [] => H
  | p :: r => upd (ups H r) p.1 p.2
theorem ups_out {H : Hp} {b : Addr} : ∀ {L : List (Addr × HO)}, b ∉ L.map (·.1) → ups H L b = H b
  | [], _ => rfl
  | p :: r, h => by
    simp only [List.map_cons, List.mem_cons, not_or] at h
    show upd (ups H r) p.1 p.2 b = H b
    rw [upd_ne h.1]
    exact ups_out h.2
theorem ups_in {H : Hp} {p : Addr × HO} : ∀ {L : List (Addr × HO)}, (L.map (·.1)).Nodup → p ∈ L → ups H L p.1 = some p.2
  | [], _, h => by cases h
  | q :: r, nd, h => by
    rw [List.map_cons, List.nodup_cons] at nd
    show upd (ups H r) q.1 q.2 p.1 = _
    rcases List.mem_cons.mp h with e | e
    · rw [e, upd_same]
    · have ne : p.1 ≠ q.1 := fun z => nd.1 (by rw [← z]; exact List.mem_map_of_mem e)
      rw [upd_ne ne]
      exact ups_in nd.2 e
theorem inv_many {X : Cx} {pins : List (Addr × Obj)} {σ : L2.St} {H : Hp} {s : Shared} {h' : Heap} {L : List (Addr × HO)} (I : Inv X pins σ H s) (k : ∀ b u, s.heap.get? b = some u → h'.get? b = some u) (lo : ∀ p ∈ L, s.heap.objs.size ≤ p.1) (nd : (L.map (·.1)).Nodup)
    (new : ∀ p ∈ L, ObjOk X.prog X.w (ups H L) h' p.1 p.2) : Inv X pins σ (ups H L) { s with heap := h' } := by
  have fr : ∀ {b : Addr}, b ∈ L.map (·.1) → H b = none := fun {b} h => by
    obtain ⟨p, q, rfl⟩ := List.mem_map.mp h
    exact I.hok.fresh (lo p q)
  have kp : ∀ {b : Addr} {o : HO}, H b = some o → ups H L b = some o := fun {b o} e => by
    rw [ups_out fun m => by rw [fr m] at e; cases e]
    exact e
  refine I.un (t' := s.toks) ⟨fun b u q _ _ _ => k b u q, fun b u q _ _ _ => ⟨u.slots, k b u q⟩, fun b u q n _ => ?_, fun b u q _ => ⟨u, k b u q⟩, fun b xs q => kp q, fun b u xs q => kp q, fun b ps q => ⟨#[], by rw [kp q]; simp⟩⟩ fun b o e => ?_
  · rw [ups_out fun m => ?_]
    · exact n
    · obtain ⟨p, q', rfl⟩ := List.mem_map.mp m
      exact Nat.lt_irrefl _ (Nat.lt_of_lt_of_le (Heap.lt_size q) (lo p q'))
  · by_cases hb : b ∈ L.map (·.1)
    · obtain ⟨p, q, rfl⟩ := List.mem_map.mp hb
      rw [ups_in nd q] at e
      cases e
      exact new p q
    · rw [ups_out hb] at e
      exact (I.hok b o e).stay (fun c v _ q => k c v q) (fun c q => kp q) fun c xs q => kp q
def prs (Ts : List Addr) (xs ys : List V) : List (Addr × HO) := Ts.zip (List.zipWith (fun x y => HO.tup [x, y]) xs ys)
def tLz (K : PySem.W.Frag) (ta : TA) : TE := fun σ H Q => ta σ H fun vs H1 => ∃ a b xs ys, vs = [.ref a, .ref b] ∧ SqL K H1 a xs ∧ SqL K H1 b ys ∧ min xs.length ys.length ≤ sizeLine ∧
  ∀ (S : Addr) (Ts : List Addr), (S :: Ts).Nodup → (∀ T ∈ S :: Ts, H1 T = none) → Ts.length = min xs.length ys.length → Q (.ref S) (ups H1 ((S, .lst (Ts.map V.ref)) :: prs Ts xs ys))
theorem prs_map : ∀ {Ts : List Addr} {xs ys : List V}, Ts.length = min xs.length ys.length → (prs Ts xs ys).map (·.1) = Ts
  | [], _, _, _ => rfl
  | T :: Ts, [], _, h => by simp at h
  | T :: Ts, _ :: _, [], h => by simp at h
  | T :: Ts, x :: xs, y :: ys, h => by
    show T :: (prs Ts xs ys).map (·.1) = _
    rw [prs_map (by simp at h; omega)]
theorem prs_mem : ∀ {Ts : List Addr} {xs ys : List V} {p : Addr × HO}, p ∈ prs Ts xs ys → ∃ (j : Nat) (x y : V), Ts[j]? = some p.1 ∧ xs[j]? = some x ∧ ys[j]? = some y ∧ p.2 = .tup [x, y]
  | [], _, _, _, h => by simp [prs] at h
  | T :: Ts, [], _, _, h => by simp [prs] at h
  | T :: Ts, _ :: _, [], _, h => by simp [prs] at h
  | T :: Ts, x :: xs, y :: ys, p, h => by
    have h' : p ∈ (T, HO.tup [x, y]) :: prs Ts xs ys := h
    rcases List.mem_cons.mp h' with e | e
    · rw [e]; exact ⟨0, x, y, rfl, rfl, rfl, rfl⟩
    · obtain ⟨j, x', y', q1, q2, q3, q4⟩ := prs_mem e
      exact ⟨j + 1, x', y', by simpa using q1, by simpa using q2, by simpa using q3, q4⟩
theorem pe_lz {X : Cx} {e e2 : Expr} {ta : TA} {p p2 pos pos2 : Pos} (hc : X.calm = true) (gl : Gl X "list") (hl : X.mg "list" = none) (hg : Gl X "zip") (hm : X.mg "zip" = none) (ha : PA X [e, e2] ta)
    (hs : starEach [e, e2] X.env = (false, eval e X.env) :: starEach [e2] X.env) (hpl : (backTo pos2 (starEach [e2] X.env)).any (·.1) = false) : PE X (.Call (.Name "list" p) [.Call (.Name "zip" p2) [e, e2] [] pos2] [] pos) (tLz X.K ta) := by
  refine ⟨fun pins s σ H Q I h => ?_⟩
  refine Call_ (ld_blt I gl hl boot_list (PyProof.Rows.callWith_type1 (args_cons ?_ rfl) rfl))
  refine Call_ (ld_blt I hg hm PyProof.Rows.boot_zip (PyProof.Rows.callWith_type1 (thn (ha.run pos2 pins s σ H _ I h) fun us s1 ⟨vs, H1, I1, r1, q1⟩ => ?_) hs hpl))
  obtain ⟨a, b, xs, ys, ex, hqx, hqy, hmin, q⟩ := q1
  subst ex
  cases r1 with
  | cons r rr =>
    cases rr with
    | cons r' rr =>
      cases rr
      cases r
      cases r'
      obtain ⟨its, rv, w1, _⟩ := I1.list hqx
      obtain ⟨its2, rv2, w2, _⟩ := I1.list hqy
      have la : a < s1.heap.objs.size := w1.lt
      have lb : b < s1.heap.objs.size := w2.lt
      have ex := rv.length
      have ey := rv2.length
      refine call_zip_2 w1.isList w2.isList fun h' hz hTI hTO h1 h2 hsz hk => args_nil ?_
      have I2 : Inv X pins σ H1 { s1 with heap := h' } := I1.kept (t' := s1.toks) hk
      have D := PySem.W.ktu_apart s1.heap.objs.size a b la lb
      have all : ∀ b' ∈ [s1.heap.objs.size + 4, s1.heap.objs.size + 2, s1.heap.objs.size + 3, s1.heap.objs.size, s1.heap.objs.size + 1, a, b], b' < h'.objs.size := fun b' hb => by
        rw [hsz]
        simp only [List.mem_cons, List.not_mem_nil, or_false] at hb
        rcases hb with e | e | e | e | e | e | e
        · rw [e]; exact Nat.add_lt_add_left (by decide) _
        · rw [e]; exact Nat.add_lt_add_left (by decide) _
        · rw [e]; exact Nat.add_lt_add_left (by decide) _
        · rw [e]; exact Nat.lt_add_of_pos_right (by decide)
        · rw [e]; exact Nat.add_lt_add_left (by decide) _
        · rw [e]; exact Nat.lt_of_lt_of_le la (Nat.le_add_right _ _)
        · rw [e]; exact Nat.lt_of_lt_of_le lb (Nat.le_add_right _ _)
      refine call (s := { s1 with heap := h' }) (I1.ok.hd hc) D ⟨hTI, h1, h2, w1.isList.at fun o e => hk _ o e, w2.isList.at fun o e => hk _ o e, .inl ⟨hz, _, _, hTO⟩⟩ (fun T f q => ?_) (by simp only [List.size_toArray]; omega) all fun h'' Us c' e1 e2 e3 e4 => ?_
      · have e1 : (some _ : Option Obj) = some _ := hz.symm.trans q
        have e2 := Option.some.inj e1
        simp only [Obj.mk.injEq, Data.fields.injEq, Array.mk.injEq, List.cons.injEq] at e2
        exact absurd e2.2.2.1.1 (by simp [rawInt])
      · have sz1 : s1.heap.objs.size ≤ h'.objs.size := by rw [hsz]; exact Nat.le_add_right _ _
        have kk : ∀ b u, s1.heap.get? b = some u → h''.get? b = some u := fun b' u q' => by
          have lt := Heap.lt_size q'
          refine e4 b' u (fun m => ?_) (hk b' u q')
          have le : s1.heap.objs.size ≤ b' := by
            simp only [List.mem_cons, List.not_mem_nil, or_false] at m
            rcases m with m | m | m | m
            · rw [m]; exact Nat.le_add_right _ _
            · rw [m]; exact Nat.le_add_right _ _
            · rw [m]; exact Nat.le_refl _
            · rw [m]; exact Nat.le_add_right _ _
          exact Nat.lt_irrefl _ (Nat.lt_of_lt_of_le lt le)
        have len : Us.length = min xs.length ys.length := by rw [e2]; simp only [List.size_toArray]; rw [ex, ey]
        have nd : (h'.objs.size :: Us).Nodup := by
          refine List.nodup_cons.mpr ⟨fun m => Nat.lt_irrefl _ (Nat.lt_of_lt_of_le (Nat.lt_succ_self _) (e3.lo _ m)), e3.asc.imp fun a => Nat.ne_of_lt a⟩
        have lo : ∀ T ∈ h'.objs.size :: Us, s1.heap.objs.size ≤ T := fun T m => by
          rcases List.mem_cons.mp m with m | m
          · rw [m]; exact sz1
          · exact Nat.le_trans (Nat.le_trans sz1 (Nat.le_succ _)) (e3.lo T m)
        have lm : ((h'.objs.size, HO.lst (Us.map V.ref)) :: prs Us xs ys).map (·.1) = h'.objs.size :: Us := by rw [List.map_cons, prs_map len]
        have I3 := inv_many (L := (h'.objs.size, HO.lst (Us.map V.ref)) :: prs Us xs ys) I1 kk (fun p' m => lo _ (by rw [← lm]; exact List.mem_map_of_mem m)) (by rw [lm]; exact nd) fun p' m => by
          rcases List.mem_cons.mp m with m | m
          · rw [m]
            refine ⟨by rw [List.length_map, len]; exact hmin, Us.map Value.ref, c', ?_, e1⟩
            have : ∀ l : List Addr, Vals (l.map V.ref) (l.map Value.ref) := fun l => by
              induction l with
              | nil => exact .nil
              | cons x l ih => exact .cons rfl ih
            exact this Us
          · obtain ⟨j, x, y, q1, q2, q3, q4⟩ := prs_mem m
            rw [q4]
            obtain ⟨u, v, w1', w2', w3'⟩ := e3.pr j p'.1 q1
            obtain ⟨u', g1, r1⟩ := rv.get q2
            obtain ⟨v', g2, r2⟩ := rv2.get q3
            have eu : u' = u := by
              rw [List.getElem?_toArray, g1] at w1'
              exact Option.some.inj w1'
            have ev : v' = v := by
              rw [List.getElem?_toArray, g2] at w2'
              exact Option.some.inj w2'
            subst eu ev
            exact ⟨by show 2 ≤ sizeLine; decide, [u', v'], .cons r1 (.cons r2 .nil), _, w3', rfl, _, rfl⟩
        exact ⟨.ref h'.objs.size, _, I3, rfl, q h'.objs.size Us nd (fun T m => I1.hok.fresh (lo T m)) len⟩
end LZ


set_option Elab.async false
set_option linter.all false
set_option maxRecDepth 100000
set_option maxHeartbeats 2000000
namespace Ev
open PySem PySem.Spec PyProof.Rows L2
/-! ## list(zip(a, b)) -/
section
variable {P : Pm} {X : Cx} {a b : Expr} {ca cb : CE} {pos : Pos}
theorem ups_ext {G H : Hp} (s : Same G H) : ∀ {L : List (Addr × HO)}, (L.map (·.1)).Nodup → (∀ p ∈ L, H p.1 = none) → Ext G H (LZ.ups G L) (LZ.ups H L)
  | [], _, _ => Ext.refl s
  | p :: r, nd, f => by
    rw [List.map_cons, List.nodup_cons] at nd
    have ih := ups_ext s nd.2 fun q hq => f q (List.mem_cons_of_mem _ hq)
    refine ih.trans (Ext.new ih.gh ?_)
    rw [LZ.ups_out nd.1]
    exact f p List.mem_cons_self
theorem lz_rp {K : PySem.W.Frag} {G : Hp} : ∀ {Ts : List Addr} {xs ys : List V} {ds es : List D}, RpAll K G xs ds → RpAll K G ys es → Ts.length = min xs.length ys.length → (∀ (j : Nat) (T : Addr) (x y : V), Ts[j]? = some T → xs[j]? = some x → ys[j]? = some y → G T = some (.tup [x, y])) → RpAll K G (Ts.map V.ref) (zipL ds es)
  | [], [], _, _, _, .nil, _, _, _ => .nil
  | [], _ :: _, [], _, _, .cons _ _, .nil, _, _ => .nil
  | [], _ :: _, _ :: _, _, _, _, _, h, _ => by simp at h
  | _ :: _, [], _, _, _, _, _, h, _ => by simp at h
  | _ :: _, _ :: _, [], _, _, _, _, h, _ => by simp at h
  | T :: Ts, x :: xs, y :: ys, _, _, .cons r rr, .cons q qq, h, k =>
    .cons (.tup (.inl (.inl (k 0 T x y rfl rfl rfl))) (.cons r (.cons q .nil))) (lz_rp rr qq (by simp at h; omega) fun j T' x' y' h1 h2 h3 => k (j + 1) T' x' y' (by simpa using h1) (by simpa using h2) (by simpa using h3))
theorem t_lzp {p p2 pos2 : Pos} (hK : X.K = P.K) (hc : X.calm = true) (gl : Gl X "list") (hl : X.mg "list" = none) (hg : Gl X "zip") (hm : X.mg "zip" = none) (ha : PE X a (T P ca)) (hb : PE X b (T P cb))
    (hs : starEach [a, b] X.env = (false, eval a X.env) :: starEach [b] X.env) (hs2 : starEach [b] X.env = [(false, eval b X.env)]) (hpl : (backTo pos2 (starEach [b] X.env)).any (·.1) = false) :
    PE X (.Call (.Name "list" p) [.Call (.Name "zip" p2) [a, b] [] pos2] [] pos) (T P (.lzp ca cb)) := by
  refine PEw (LZ.pe_lz hc gl hl hg hm (ta_cons ha (ta_cons hb ta_nil hs2) hs) hs hpl) fun σ H Q ⟨ρ, G, fm, h⟩ => ⟨ρ, G, fm, ?_⟩
  have e0 : ev P.cal P.b0 (.lzp ca cb) ρ = (evA P.cal P.b0 [ca, cb] ρ).bind fun ds ρ2 => (match ds with | [x, y] => ofO (lzD x y) ρ2 | _ => .bad) := by
    simp only [ev, evA, Rs.assoc, Rs.bind_ok]
  rw [e0] at h
  cases hq : evA P.cal P.b0 [ca, cb] ρ with
  | bad => rw [hq] at h; exact h.elim
  | er c f ρ' => rw [hq] at h; exact h
  | ok ds ρ1 =>
    rw [hq] at h
    intro vs G1 H1 s1 fm1 r1
    have h1 := Out.mono s1 h
    simp only [Rs.bind_ok] at h1
    match ds, r1, h1 with
    | [d, d'], .cons r (.cons r' rr), h1 =>
      cases rr
      cases r with
      | @lst q xs ds q1 q2 =>
        cases r' with
        | @lst q' xs' ds' q1' q2' =>
          rw [hK]
          have h1' : Out P (fun G v d => Rp P.K G v d) G1 σ (ofO (if (zipL ds ds').length ≤ lim then some (PyData.list (zipL ds ds')) else none) ρ1) Q := h1
          split at h1'
          · rename_i hlim
            have hmin : (zipL ds ds').length = min xs.length xs'.length := by rw [zipL_length, q2.length, q2'.length]
            refine ⟨q, q', xs, xs', rfl, (Same.ls fm1.sub q1).seq, (Same.ls fm1.sub q1').seq, by rw [← hmin]; exact lim_le hlim, fun S Ts nd fr len => ?_⟩
            have lm : ((S, HO.lst (Ts.map V.ref)) :: LZ.prs Ts xs xs').map (·.1) = S :: Ts := by rw [List.map_cons, LZ.prs_map len]
            have ex := ups_ext fm1.sub (L := (S, HO.lst (Ts.map V.ref)) :: LZ.prs Ts xs xs') (by rw [lm]; exact nd) fun p hp => fr _ (by rw [← lm]; exact List.mem_map_of_mem hp)
            refine (Out.give h1' fm1) _ _ _ ex (.lst (Ls.of (xs := Ts.map V.ref) upd_same) ?_)
            refine lz_rp (q2.mono ex.g) (q2'.mono ex.g) len fun j T x y w1 w2 w3 => ?_
            have hin : (T, HO.tup [x, y]) ∈ (S, HO.lst (Ts.map V.ref)) :: LZ.prs Ts xs xs' := by
              refine List.mem_cons_of_mem _ (List.mem_of_getElem? (i := j) ?_)
              unfold LZ.prs
              rw [List.getElem?_zip_eq_some, List.getElem?_zipWith, w2, w3]
              exact ⟨w1, rfl⟩
            exact LZ.ups_in (p := (T, HO.tup [x, y])) (by rw [lm]; exact nd) hin
          · exact h1'.elim
        | _ => exact h1.elim
      | _ => cases r' <;> exact h1.elim
    | [], _, _ => have := evA_len hq; cases this
    | [_], _, _ => have := evA_len hq; cases this
    | _ :: _ :: _ :: _, _, _ => have := evA_len hq; cases this
end
end Ev


set_option Elab.async false
set_option linter.all false
set_option maxRecDepth 100000
set_option maxHeartbeats 2000000
/-! several clauses, each with a name -/
namespace MA
open PySem PySem.Spec PyProof.Rows L2
abbrev Su := Addr → Value → Option Addr → TS
def back (i : Nat) (D : Ends) : Ends := { nx := fun σ H => D.nx (σ.set i none) H, rt := D.rt, bk := fun σ H => D.bk (σ.set i none) H, ct := fun σ H => D.ct (σ.set i none) H }
/-- what the clauses want of an exception, in turn; a slot: the clause's name -/
def wA (K : PySem.W.Frag) (Wout : WX) (D : Ends) : List (Value × Nat × Su) → WX
  | [] => Wout
  | (c, i, ts) :: r => fun cls d σ H => ∃ b, PySem.W.exmOne K cls c = some b ∧ (b = true → ∀ a, H a = none → ts a cls d (back i D) (σ.set i (some (.ref a))) H) ∧ (b = false → wA K Wout D r cls d σ H)
/-- a suite, for every exception that it may hold -/
def SuOk (X : Cx) (su : List Stmt) (ts : Su) : Prop := ∀ (a : Addr) (oe : Obj) (cls : Value) (d : Option Addr) (pn : List (Addr × Obj)), L2N.Zn cls d oe → (∃ vs, oe.data = .fields vs) → PSs (X.suite a ((a, oe) :: pn)) su (ts a cls d)
inductive Hs (X : Cx) : List ExceptHandler → List (Value × Nat × Su) → Prop
  | nil : Hs X [] []
  | cons {x n : Str} {c : Value} {i : Nat} {ts : Su} {b : Stmt} {su : List Stmt} {np p : Pos} {hs : List ExceptHandler} {l : List (Value × Nat × Su)} (hc : Names X x c) (hi : X.N[i]? = some n) (hl : X.env.kindOf n = some .local) (h : SuOk X (b :: su) ts) (r : Hs X hs l) :
      Hs X (.ExceptHandler (some (.Name x np)) (some n) (b :: su) p :: hs) ((c, i, ts) :: l)
section
variable {X : Cx}
/-- the clauses are looked at, one after the other -/
theorem look_at {B : Heap} {a : Addr} {cls : Value} {d : Option Addr} {σ : L2.St} {H : Hp} {sI s' : Shared} {pins : List (Addr × Obj)} {D : Ends} {Wout : WX} {g : Heap} (es : X.stack = X.env :: X.outer) (ef : X.env.frame = some X.env.locals) (nd : X.N.Nodup) (tk : L2N.Takes X Wout)
    (J : Inv X pins σ H sI) (nb : ∀ b o, sI.heap.get? b = some o → b ∉ frs X.stack → B.get? b = some o) (up : sI.heap.UpToSlots g) (fl : HandSPX.FlyingZ B (X.env :: X.outer) a (L2N.Zn cls d) g) (na : H a = none) (os : s'.os = sI.os) (ag : AllBare s'.gens) :
    ∀ {hs : List ExceptHandler} {l : List (Value × Nat × Su)}, Hs X hs l → wA X.K Wout D l cls d σ H → wpAny (model X.prog X.w) X.A (handleBy (.ref a) X.env hs) (SP X pins D) X.xe { s' with heap := g } := by
  have ok := J.ok
  have Jg : Inv X pins σ H { s' with heap := g } := J.landed nb fl.1 up os ag
  obtain ⟨oe, vs, he, hz, hd⟩ := fl.there
  have nfr : a ∉ frs (X.env :: X.outer) := fun m => by
    obtain ⟨_, o', e', hn⟩ := fl.2.2.1.mem m
    rw [he] at e'
    cases e'
    exact hn _ hd
  have nL : a ≠ X.env.locals := fun z => nfr (List.mem_filterMap.mpr ⟨X.env, List.mem_cons_self, by rw [ef, z]⟩)
  have nF : a ∉ X.fs := fun m => by
    obtain ⟨e, k1, k2⟩ := List.mem_filterMap.mp m
    exact nfr (List.mem_filterMap.mpr ⟨e, List.mem_cons_of_mem _ k1, k2⟩)
  have Sg := Jg.suite he hd na nL nF
  have LT : PySem.W.Looks (model X.prog X.w) g (typeOf (.ref a)) cls := fun A Q E s k q => wpAny_typeOf_ref (k _ _ he) (by rw [hz.1]; exact q)
  intro hs l hk
  induction hk with
  | nil =>
    intro w
    refine wpAny_handleBy_nil ?_
    obtain ⟨_, _, _, oe', vs', T, oT, ts', he', _, hd', h1, _⟩ := id fl
    unfold PySem.passOn
    refine wpAny_bind (wpAny_field he' hd' h1 ?_)
    rw [if_neg (show ¬ ((Value.ref T == Value.none) = true) from by simp)]
    have fin : wpAny (model X.prog X.w) X.A (setFlight (.ref a) X.env.frame) (fun _ t => wpAny (model X.prog X.w) X.A (throw (.ref a) : Sem Flow) (SP X pins D) X.xe t) X.xe { s' with heap := g } := by
      rw [ef]
      refine HandSPX.setFlight_upZ fl fun g' hh up' => wpAny_throw (tk _ _ ?_)
      exact ⟨a, B, sI, pins, σ, H, cls, d, rfl, J, nb, up.trans up', .inr (.inr (by rw [es]; exact hh)), na, os, ag, w⟩
    first
      | exact wpAny_bind (wpAny_pure (wpAny_bind fin))
      | exact wpAny_bind fin
  | @cons x n c i ts b su np p hs2 l2 hc hi hl hsu r ih =>
    intro w
    obtain ⟨k, hk1, hyes, hno⟩ := w
    refine wpAny_handleBy_cons (codeAny_handlers_test ?_) (by intro q; cases q)
    have LM := PySem.W.exm_one (M := model X.prog X.w) Jg.kIn LT hk1
    have test : ∀ {Q : Value → Shared → Prop} {E : Value → Shared → Prop}, Q c { s' with heap := g } → wpAny (model X.prog X.w) (X.A.mark (some (.ref a))) (eval (.Name x np) X.env) Q E { s' with heap := g } := fun {Q E} q => by
      obtain ⟨z1, z2, z3 | ⟨z3, z4, z5⟩⟩ := hc
      · exact ld_glob (X := X.suite a ((a, oe) :: (X.pn ++ pins))) Sg z1 z3 q z2
      · exact ld_blt (X := X.suite a ((a, oe) :: (X.pn ++ pins))) Sg z1 z3 z4 q z5 z2
    refine test (LM.here ?_)
    cases k with
    | true =>
      refine codeAny_handlers_suite_as ?_
      refine HandSPX.lands_againZ fl fun g4 fl4 up4 => ?_
      have J4 : Inv X pins σ H { s' with heap := g4 } := J.landed nb fl4.1 (up.trans up4) os ag
      obtain ⟨oe4, vs4, he4, hz4, hd4⟩ := fl4.there
      have S4 := J4.suite he4 hd4 na nL nF
      refine store_ok (X := X.suite a ((a, oe4) :: (X.pn ++ pins))) (v := .ref a) S4 nd hi (.inl hl) rfl (fun s5 S5 => ?_) (.inr hl)
      refine wpAny_mono ((hsu a oe4 cls d (X.pn ++ pins) hz4 ⟨_, hd4⟩).run [] s5 _ H _ S5 (hyes rfl a na)) (fun f s6 hsp => ?_) (fun _ _ z => False.elim z)
      have fin : ∀ {σ6 : L2.St} {H6 : Hp} {Q : Shared → Prop}, Inv (X.suite a ((a, oe4) :: (X.pn ++ pins))) [] σ6 H6 s6 → (∀ s7, Inv X pins (σ6.set i none) H6 s7 → Q s7) →
          wpAny (model X.prog X.w) X.A (do bindName X.env n .none; unbindBehindTheSuite X.env n p) (fun _ s7 => Q s7) X.xe s6 := fun {σ6 H6 Q} S6 hq => gone_ok (S6.unsuite ok) nd hi hl hq
      cases f with
      | next =>
        obtain ⟨σ6, H6, S6, q6⟩ := hsp
        exact fin S6 fun s7 J7 => ⟨_, _, J7, q6⟩
      | brk =>
        obtain ⟨σ6, H6, S6, q6⟩ := hsp
        exact fin S6 fun s7 J7 => ⟨_, _, J7, q6⟩
      | cont =>
        obtain ⟨σ6, H6, S6, q6⟩ := hsp
        exact fin S6 fun s7 J7 => ⟨_, _, J7, q6⟩
      | ret u =>
        obtain ⟨v6, σ6, H6, S6, r6, q6⟩ := hsp
        exact fin S6 fun s7 J7 => ⟨_, _, _, J7, r6, q6⟩
    | false =>
      show wpAny _ X.A (handleBy (.ref a) X.env hs2) _ _ _
      exact ih (hno rfl)
theorem ps_try {body : List Stmt} {h₀ : ExceptHandler} {hds : List ExceptHandler} {l : List (Value × Nat × Su)} {pos : Pos} {tb : WX → TS} {Wout : WX} (es : X.stack = X.env :: X.outer) (ef : X.env.frame = some X.env.locals) (nd : X.N.Nodup) (tk : L2N.Takes X Wout)
    (hb : ∀ (W : WX) (pn : List (Addr × Obj)) (xe : Value → Shared → Prop), L2N.Takes (X.tr pn xe) W → PassesOwn (model X.prog X.w) X.A X.env xe → PSs (X.tr pn xe) body (tb W))
    (hh : Hs X (h₀ :: hds) l) : PS X (.Try body (h₀ :: hds) [] [] pos) (fun D σ H => tb (wA X.K Wout D l) D σ H) := by
  refine ⟨fun pins s σ H D I h => ?_⟩
  have ok := I.ok
  have hfr : X.A.frames = some (X.env :: X.outer) := by rw [ok.frames, es]
  refine wpAny_Try_except ?_
  refine wpAny_mono ((hb (wA X.K Wout D l) (X.pn ++ pins) (fun e t₁ => wpAny (model X.prog X.w) X.A (noteFrame e X.env) (fun _ t₂ => wpAny (model X.prog X.w) X.A (setFlight e none) (fun _ t₃ =>
    wpAny (model X.prog X.w) X.A (handleBy e X.env (h₀ :: hds)) (SP X pins D) X.xe t₃) X.xe t₂) X.xe t₁) (fun u s' xx => ?_) PassesOwn.looking).run [] s σ H D (I.toTry _) h) (fun f s1 hsp => ?_) (fun e s1 he => he)
  · obtain ⟨a, B, sI, pins', σ', H', cls, d, rfl, J', nb, up, sky, na, os, ag, w⟩ := xx
    have sky' : Sky B (X.env :: X.outer) a (L2N.Zn cls d) X.env.locals s'.heap := by rw [← es]; exact sky
    show wpAny (model X.prog X.w) X.A (noteFrame (.ref a) X.env) _ _ _
    exact L2N.Sky.land L2N.Zn.steady hfr ef sky' fun g fl up' => look_at es ef nd tk (J'.ofTry ok) nb (up.trans up') fl na os ag hh w
  · cases f with
    | next =>
      obtain ⟨σ', H', J', q⟩ := hsp
      exact wpAny_execs_nil ⟨σ', H', J'.ofTry ok, q⟩
    | brk =>
      obtain ⟨σ', H', J', q⟩ := hsp
      exact ⟨σ', H', J'.ofTry ok, q⟩
    | cont =>
      obtain ⟨σ', H', J', q⟩ := hsp
      exact ⟨σ', H', J'.ofTry ok, q⟩
    | ret u =>
      obtain ⟨v, σ', H', J', r, q⟩ := hsp
      exact ⟨v, σ', H', J'.ofTry ok, r, q⟩
end
end MA


set_option Elab.async false
set_option linter.all false
set_option maxRecDepth 100000
set_option maxHeartbeats 2000000
/-! a pair of names stored within an except suite -/
namespace MA
open PySem PySem.Spec PyProof.Rows L2 HotX L2H
section
variable {prog : Program} {w : World} {A : Around} {E : Value → Shared → Prop} {s : Shared}
theorem tup_end {it t x1 : Addr} {i : Nat} {items : Array Value} {Q : Option Value → Shared → Prop} (hot : HotAt A x1 s.heap) (hit : s.heap.IsTupleIter it t i) (ht : s.heap.IsTuple t items) (hx : items[i]? = none) (hne : x1 ≠ it)
    (hQ : ∀ h', Heap.ExtBut it s.heap h' → Q none { s with heap := h' }) : wpAny (model prog w) A (pyNext (.ref it)) Q E s := by
  obtain ⟨o, ho, hc, hd⟩ := id hit
  obtain ⟨ol, hol, _, nl, hdl⟩ := ht
  obtain ⟨hh, o1, vs1, k1, d1, c1⟩ := hot
  unfold pyNext
  refine wpAny_bind (wpAny_attempt (wpAny_callSpecial?_slot (name := Str.ofString "__next__") hit.typeIs F.slot_tuple_iterator_next (wpAny_call_entry F.slot_tuple_iterator_next hit.typeIs F.entry_tuple_iterator_next ?_ (F.args_tuple_iterator_next_1 _))))
  show wpAny _ _ (field (.ref it) 0 >>= _) _ _ s
  refine wpAny_bind (wpAny_field ho hd (x := .ref t) rfl ?_)
  show wpAny _ _ (if (Value.ref t == Value.none) = true then _ else _) _ _ s
  rw [if_neg (show ¬ ((Value.ref t == Value.none) = true) from Bool.false_ne_true)]
  show wpAny _ _ (field (.ref it) 1 >>= _) _ _ s
  refine wpAny_bind (wpAny_field ho hd (x := .int i 0) rfl ?_)
  show wpAny _ _ (seqItems? (.ref t) >>= _) _ _ s
  refine wpAny_bind (wpAny_seqItems hol hdl ?_)
  simp only [Int.toNat_natCast, hx]
  refine wpAny_bind (wpAny_rule (wpAny_bind (wpAny_setField ho hd (by simp) ?_)))
  show wpAny _ _ (newExc (.type "StopIteration") [] >>= _) _ _ _
  refine wpAny_bind ?_
  simp only [newExc, newTuple]
  refine wpAny_bind (wpAny_newObj_type ?_ (by size_fits))
  refine wpAny_bind (m := firstArgMember _ _) (wpAny_of_eq (a := Value.none) (by first | rfl | (simp only [firstArgMember]; rfl)) ?_)
  refine wpAny_newObj_type ?_ (by size_fits)
  have k2 := (Heap.get?_update_other s.heap (Obj.mapFields (·.setIfInBounds 0 Value.none)) (Ne.symm hne)).trans k1
  refine raiseNew_hot ⟨hh, o1, vs1, Heap.get?_push_of_some _ (Heap.get?_push_of_some _ k2), d1, c1⟩ (Nat.ne_of_lt (Heap.lt_size (Heap.get?_push_of_some _ k2))) (Heap.get?_push_size _ rfl) rfl (by first | (simp; done) | (simp; omega) | (simp only [Array.size_append]; simp; omega)) ?_
  refine wpAny_bind (wpAny_isInstance (T := "StopIteration") (b := true) ⟨_, Heap.get?_update_self _ (Heap.get?_push_size _ rfl) rfl, rfl⟩ isSubtype_stop ?_)
  refine wpAny_pure (hQ _ fun b o hb e => ?_)
  have e2 := Heap.get?_push_of_some { cls := .type "tuple", data := .seq ([] : List Value).toArray } ((Heap.get?_update_other s.heap (Obj.mapFields (·.setIfInBounds 0 Value.none)) (Ne.symm hb)).trans e)
  rw [Heap.get?_update_other _ _ (Nat.ne_of_gt (Heap.lt_size e2))]
  exact Heap.get?_push_of_some _ e2
theorem items_hot {t x1 : Addr} {items : Array Value} {Q : List Value → Shared → Prop} (hot : HotAt A x1 s.heap) (ht : s.heap.IsTuple t items)
    (hQ : ∀ h', Heap.ExtBut s.heap.objs.size s.heap h' → Q items.toList { s with heap := h' }) : wpAny (model prog w) A (unpackItems (.ref t) items.size none) Q E s := by
  have lt : t ≠ s.heap.objs.size := by obtain ⟨o, ho, _⟩ := ht; exact Nat.ne_of_lt (Heap.lt_size ho)
  obtain ⟨hh, o1, vs1, k1, d1, c1⟩ := hot
  have lx : x1 ≠ s.heap.objs.size := Nat.ne_of_lt (Heap.lt_size k1)
  unfold unpackItems
  refine wpAny_bind ?_
  unfold notIterableAtAll
  refine wpAny_bind (wpAny_specialOf ht.typeIs F.slot_tuple_iter.lookup (wpAny_pure ?_))
  simp only [Bool.false_eq_true, if_false]
  refine wpAny_bind (wpAny_holding (wpAny_pyIter_tuple ht ?_))
  refine wpAny_bind (wpAny_holding (wpAny_draw_tuple lt items.size 0 _ _ ⟨_, Heap.get?_push_size _ rfl, rfl, rfl⟩ (ht.push _) (by omega) fun h₁ it₁ sb => ?_))
  have all : List.take items.size (List.drop 0 items.toList) = items.toList := by rw [List.drop_zero, List.take_of_length_le (by simp)]
  rw [all, if_neg (by simp)]
  have t₁ : h₁.IsTuple t items := (ht.push _).extBut sb.extBut lt
  refine wpAny_bind (wpAny_holding (tup_end (x1 := x1) ⟨hh, o1, vs1, sb.extBut _ _ lx (Heap.get?_push_of_some _ k1), d1, c1⟩ it₁ t₁ (by simp) lx fun h₂ eb => ?_))
  simp only [Option.isSome_none, Bool.false_eq_true, if_false]
  exact wpAny_pure (hQ h₂ fun b o hb e => eb b o hb (sb.extBut b o hb (Heap.get?_push_of_some _ e)))
end
section
variable {X : Cx} {i j : Nat} {x y : Str} {a b : Expr} {ta : TA} {px py pt pos : Pos} {kt k2 : Nat} {pt2 : Pos}
theorem ps_par (hc : HotC X) (hN : X.N.Nodup) (hi : X.N[i]? = some x) (hj : X.N[j]? = some y) (hij : i ≠ j) (hx : X.env.scope.names.lookup x = some .local) (hy : X.env.scope.names.lookup y = some .local) (ha : PA X [a, b] ta)
    (hw : swappedStores [.Tuple [.Name x px, .Name y py] kt pt] (.Tuple [a, b] k2 pt2) X.env = pure (some [x, y])) (hs : swapsWithSole [.Tuple [.Name x px, .Name y py] kt pt] (.Tuple [a, b] k2 pt2) pos.line X.env = pure false) :
    PS X (.Assign [.Tuple [.Name x px, .Name y py] kt pt] (.Tuple [a, b] k2 pt2) pos) (tPar i j ta) := by
  refine ⟨fun pins s σ H D I h => ?_⟩
  rw [exec_Assign_arm]
  refine wpAny_bind (wpAny_standAt ?_)
  rw [hs]
  refine wpAny_bind (wpAny_pure ?_)
  rw [if_neg (by decide)]
  refine wpAny_bind (Tuple_ (thn (ha.run _ pins s σ H _ I h) fun us s1 ⟨vs, H1, I1, r1, v, w, e1, q1⟩ => ?_))
  subst e1
  have two : ∃ u1 u2, us = [u1, u2] ∧ RelV v u1 ∧ RelV w u2 := by
    cases r1 with
    | cons m1 r2 =>
      cases r2 with
      | cons m2 r3 =>
        cases r3
        exact ⟨_, _, rfl, m1, m2⟩
  obtain ⟨u1, u2, rfl, rv, rw'⟩ := two
  refine wpAny_newObj_type ?_ (by show 2 ≤ sizeLine; decide)
  have I2 : L2.Inv X pins σ H1 { s1 with heap := s1.heap.push { cls := .type "tuple", data := .seq [u1, u2].toArray } } := I1.kept (t' := s1.toks) fun b o e => Heap.get?_push_of_some _ e
  rw [hw]
  refine wpAny_bind (wpAny_pure ?_)
  show wpAny (model X.prog X.w) X.A (do rule "assign.swapped-stores"; let its ← unpackItems (.ref s1.heap.objs.size) 2 none; assignInOrder [fun v => bindName X.env y v, fun v => bindName X.env x v] its.reverse; pure Flow.next) _ _ _
  obtain ⟨x1, hot⟩ := hc.at I2
  refine wpAny_bind (wpAny_rule (wpAny_bind (items_hot (items := #[u1, u2]) hot ⟨_, Heap.get?_push_size _ rfl, rfl, _, rfl⟩ fun h' eb => ?_)))
  have I3 := I2.kept (h' := h') (t' := s1.toks) fun b o e => eb b o (Nat.ne_of_lt (Heap.lt_size e)) e
  show wpAny _ _ (assignInOrder [fun v => bindName X.env y v, fun v => bindName X.env x v] [u2, u1] >>= fun _ => pure Flow.next) _ _ _
  refine wpAny_bind (assignInOrder_cons (wpAny_bindName (store_ok I3 hN hj (.inl hy) rw' (fun s2 I4 => ?_) (.inr hy))))
  refine assignInOrder_cons (wpAny_bindName (store_ok I4 hN hi (.inl hx) rv (fun s3 I5 => assignInOrder_nil (wpAny_pure ?_)) (.inr hx)))
  rw [List.set_comm _ _ (Ne.symm hij)] at I5
  exact ⟨_, H1, I5, q1⟩
theorem hot_of {X : Cx} {a : Addr} {oe : Obj} {cls : Value} {d : Option Addr} {pn : List (Addr × Obj)} (z : L2N.Zn cls d oe) (h : ∃ vs, oe.data = .fields vs) : HotC (X.suite a ((a, oe) :: pn)) := by
  obtain ⟨vs, e⟩ := h
  exact ⟨(a, oe), ⟨rfl, vs, e, z.2.2 vs e⟩, List.mem_cons_self⟩
end
end MA


set_option Elab.async false
set_option linter.all false
set_option maxRecDepth 100000
set_option maxHeartbeats 2000000
namespace IN
open PySem PySem.Spec PySem.Calls PyProof.Rows PySem.W
open L2 (defBody defScope defArgs)
/-! ## an error's own __init__: super().__init__(f"..{q}"); self.f = q -/
def SupEv (p0 p1 p2 p3 p4 p5 p6 p7 : Pos) (m q : Str) (j : Nat) : Prop := ∀ env : Env, ∃ pl : Sem Bool, eval (.Call (.Attribute (.Call (.Name "super" p0) [] [] p1) "__init__" p2) [.JoinedStr [.Constant (.str m) j p3, .FormattedValue (.Name q p4) (-1) none p5] p6] [] p7) env = (do
  let ov ← attributeBase (.Call (.Name "super" p0) [] [] p1) "__init__" env (eval (.Call (.Name "super" p0) [] [] p1) env)
  standAt p2.atName
  let (f, first) ← holding [ov] (getMethod ov "__init__" pl)
  callWith p7 f first (backTo p7 (starEach [.JoinedStr [.Constant (.str m) j p3, .FormattedValue (.Name q p4) (-1) none p5] p6] env)) [])
/-- its text -/
structure IniT (st : Stmt) (q fld : Str) : Prop where
  body : ∃ (m : Str) (j : Nat) (p0 p1 p2 p3 p4 p5 p6 p7 p8 p9 p10 p11 p12 : Pos), m.length ≤ 1000 ∧ SupEv p0 p1 p2 p3 p4 p5 p6 p7 m q j ∧ defBody st = [.Expr (.Call (.Attribute (.Call (.Name "super" p0) [] [] p1) "__init__" p2) [.JoinedStr [.Constant (.str m) j p3, .FormattedValue (.Name q p4) (-1) none p5] p6] [] p7) p8, .Assign [.Attribute (.Name "self" p9) fld p10] (.Name q p11) p12]
  k : (defScope st).kind = .function
  co : (defScope st).isCoroutine = false
  gen : (defScope st).isGenerator = false
  cell : ∀ x ∈ (defScope st).names, x.2 ≠ .cell
  l1 : (defScope st).names.lookup ("super" : Str) = some .globalImplicit
  l2 : (defScope st).names.lookup ("__class__" : Str) = some .free
  l3 : (defScope st).names.lookup ("self" : Str) = some .local
  l4 : (defScope st).names.lookup q = some .local
  ne : q ≠ ("self" : Str)
  db : (q == ("__debug__" : Str)) = false
  ar : ∃ a : Arg, ((defArgs st).posonlyargs ++ (defArgs st).args).head? = some a ∧ a.arg = ("self" : Str)
/-- the class, as it stands in the written part -/
structure IniC (prog : Program) (K : Frag) (C : Addr) (fld : Str) : Prop where
  oex : L2.OexC K C
  top : (prog.main.scope.names.lookup ("super" : Str)).isSome = false
  opq : nsIn K cStatics "thirdparty.any" = some none
  sup : nsIn K mainGlobals "super" = some none
  alg : ks_superIn K C C "__init__" = some (some (.builtin "ValueError.__init__"))
  vE : subIn K (.ref C) (.type "ValueError") = some true
  mro : mroIn K C (.ref C) = some true
  nof : findIn K (.ref C) fld = some none
  ini : ∃ (fI cc cda : Addr) (st : Stmt) (name qual q file : Str) (tf : Tok) (oc dV kV doc pm ct ccl cl : Value) (an od cdd cld : Option Addr) (osl ccs csl : Array (Option Value)) (vs : Array Value),
    findIn K (.ref C) "__init__" = some (some (.ref fI)) ∧ typeIn K (.ref fI) = some (.type "function") ∧ K.lookup fI = some ⟨oc, od, .func (fnX name qual (defArgs st) (defBody st) (defScope st) [("__class__", cc)] dV kV doc pm an (.ref cda) ct), osl⟩ ∧
    codeIn K (.ref cda) qual = true ∧ K.lookup cda = some ⟨ccl, cdd, .fields vs, ccs⟩ ∧ vs[2]? = some (.str file tf) ∧ ((prog.main.file : Str) == file) = true ∧ K.lookup cc = some ⟨cl, cld, .cell (some (.ref C)), csl⟩ ∧ IniT st q fld ∧
    ∀ (s : Shared) (u v : Value), BindsTo s (fnX name qual (defArgs st) (defBody st) (defScope st) [("__class__", cc)] dV kV doc pm an (.ref cda) ct) ⟨[u, v], []⟩ [("self", u), (q, v)]
section
variable {prog : Program} {w : World} {A : Around} {E : Value → Shared → Prop} {K : Frag} {C e t0 : Addr} {fld : Str} {u : Value} {R : Result → Shared → Prop} {h : Heap} {g : Array GenState} {d : Drawn} {t : Nat} {os : OsState} {mg mb : Str → Option Value}
/-- what an error can be made with -/
def Few (u : Value) : Prop := u = .none ∨ ∃ (i : Int) (tk : Tok), u = .int i tk ∧ i.natAbs.log2 < 1920
theorem fmt_ok {Q : Value → Shared → Prop} {s : Shared} (f : Few u) (hq : ∀ (x : Str) (tk : Tok) (t' : Nat), x.length ≤ 1921 → Q (.str x tk) { s with toks := t' }) : wpAny (model prog w) A (formatField u Str.empty) Q E s := by
  rcases f with rfl | ⟨i, tk, rfl, hb⟩
  · exact wpAny_formatField_none (hq _ _ _ (by decide))
  · exact wpAny_formatField_int hb (hq _ _ _ (by
      have := int_text_length_le (a := i) (k := 1920) (by decide) hb
      show (Str.ofString (toString i)).length ≤ 1921
      rw [PySem.ofString_length]; omega))
/-- the wrapper of ValueError.__init__, called -/
theorem call_mw {um : Addr} {rest : List Value} {Q : Value → Shared → Prop} (T : L2.OexC K C) (X : K.In h) (he : h.get? e = some (HandSPX.excO C t0)) (hu : h.get? um = some (kxs_mw "ValueError.__init__" e)) (hz : rest.length ≤ sizeLine)
    (hq : ∀ h' t1, (∀ b o, b ≠ e → h.get? b = some o → h'.get? b = some o) → h.objs.size ≤ h'.objs.size → h'.get? e = some (HandSPX.excO C t1) → Q .none ⟨h', g, d, t, os⟩) : wpAny (model prog w) A (call (.ref um) rest) Q E ⟨h, g, d, t, os⟩ := by
  obtain ⟨nm, q, N, bs, bm, sn, sub, ab, col, dd, k0, k1, k2, k3, k5, hC, hbm⟩ := T.cls
  have FB := F.excBase_ValueError
  refine wpAny_call (codeAny_of_tree ?_)
  show wpAny _ A.in1 (callAny (.ref um) ⟨rest, []⟩) _ _ _
  simp only [callAny]
  refine wpAny_bind (wpAny_load hu ?_)
  simp only [kxs_mw, show (Value.type "method-wrapper" == Value.type "method" || Value.type "method-wrapper" == Value.type "builtin_function_or_method" || Value.type "method-wrapper" == Value.type "method-wrapper") = true by decide, if_true]
  refine KFB.if_so (by decide) ?_
  refine wpAny_bind (check_bound_init FB.toExcCallFacts (X _ _ hC) he rfl ?_)
  refine wpAny_bind (wpAny_pure (wpAny_pure ?_))
  refine ⟨plainId_quiet FB.init.plain _, codeAny_builtin FB.initEntry ?_⟩
  have k1 : ∀ h' : Heap, (∀ b o, b ≠ e → h.get? b = some o → h'.get? b = some o) → h'.get? h.objs.size = some (excTup rest) → h.objs.size ≤ h'.objs.size := fun h' _ z => Nat.le_of_lt (Heap.lt_size z)
  exact exc_init_tree (cls := .ref C) (t0 := t0) (dv := none) (c2 := .none) (c3 := .none) (b4 := .bool false) he hz fun h' k e' tu => hq h' h.objs.size k (k1 h' k tu) e'
/-- __init__ called on the new error -/
theorem ini_run (T : IniC prog K C fld) (fI : Addr) (cc cda : Addr) (st : Stmt) (name qual q file : Str) (tf : Tok) (oc dV kV doc pm ct ccl cl : Value) (an od cdd cld : Option Addr) (osl ccs csl : Array (Option Value)) (vs : Array Value)
    (hf : K.lookup fI = some ⟨oc, od, .func (fnX name qual (defArgs st) (defBody st) (defScope st) [("__class__", cc)] dV kV doc pm an (.ref cda) ct), osl⟩) (hcd : codeIn K (.ref cda) qual = true) (hco : K.lookup cda = some ⟨ccl, cdd, .fields vs, ccs⟩) (hvs : vs[2]? = some (.str file tf)) (hfile : ((prog.main.file : Str) == file) = true)
    (hcc : K.lookup cc = some ⟨cl, cld, .cell (some (.ref C)), csl⟩) (I : IniT st q fld) (hb : ∀ (s : Shared) (u v : Value), BindsTo s (fnX name qual (defArgs st) (defBody st) (defScope st) [("__class__", cc)] dV kV doc pm an (.ref cda) ct) ⟨[u, v], []⟩ [("self", u), (q, v)])
    (X : K.In h) (lim : h.NoLimit) (G : h.Ns mainGlobals mg) (B : h.Ns builtinsNs mb) (hmg : mg "super" = none) (hmb : mb "super" = some (.type "super")) (hroom : A.depth < recursionLimit) (he : h.get? e = some (HandSPX.excO C t0)) (hKe : K.lookup e = none) (few : Few u)
    (hq : ∀ h' dx t1 tk', (∀ b o, b ≠ e → h.get? b = some o → h'.get? b = some o) → h.objs.size ≤ dx → dx ≠ e → h'.get? e = some ({ cls := .ref C, dict := some dx, data := .fields #[.ref t1, .none, .none, .none, .bool false, .none] } : Obj) → h'.Ns1 dx (fun y => if y = fld then some u else none) → R (.ok (.ret .none)) ⟨h', g, d, tk', os⟩) :
    codeAny (model prog w) A (.call (.ref fI) ⟨[.ref e, u], []⟩) R ⟨h, g, d, t, os⟩ := by
  obtain ⟨m, j, p0, p1, p2, p3, p4, p5, p6, p7, p8, p9, p10, p11, p12, hm, hev, hbody⟩ := I.body
  obtain ⟨ar, ha1, ha2⟩ := I.ar
  obtain ⟨nm, qn, N, bs, bm, sn, sub, ab, col, dd, k0, k1, k2, k3, k5, hC, hbm⟩ := T.oex.cls
  have hcl : clsIn K C = some { name := nm, bases := bs, mro := .ref C :: bm, ns := N, qualname := qn, hasDict := true, slotNames := sn, subclasses := sub, abstract := ab, collection := col, hasDel := false } := by unfold clsIn; rw [hC] <;> rfl
  refine ks_codeAny_call_defAt (body := defBody st) (binds := [("self", .ref e), (q, u)]) hroom (X _ _ hf) rfl lim (codeRec_of X hcd) rfl (hb _ _ _) I.cell (fun x hx => ?_) (fun h1 n1 k1 => ?_) I.co I.gen I.k
  · rcases List.mem_cons.mp hx with rfl | hx
    · exact I.l3
    · rcases List.mem_cons.mp hx with rfl | hx
      · exact I.l4
      · cases hx
  rw [hbody]
  have X1 : K.In h1 := X.keeps k1
  have ms : ([("self", Value.ref e), (q, u)] : List (Str × Value)).reverse.lookup ("self" : Str) = some (.ref e) := by
    show List.lookup ("self" : Str) [(q, u), ("self", Value.ref e)] = _
    rw [List.lookup_cons, show (("self" : Str) == q) = false from by simpa using fun z => I.ne z.symm]
    rfl
  have mq : ([("self", Value.ref e), (q, u)] : List (Str × Value)).reverse.lookup q = some u := by
    show List.lookup q [(q, u), ("self", Value.ref e)] = _
    rw [List.lookup_cons, show (q == q) = true from by simp]
  have kk : (callEnv (fnX name qual (defArgs st) (defBody st) (defScope st) [("__class__", cc)] dV kV doc pm an (.ref cda) ct) h.objs.size fI).scope.kind = .function := I.k
  refine ks_wpAt_execs_cons (ks_wpAt_Expr_any ?_ (by rw [hbody] at kk; unfold interactive; rw [kk]; rfl))
  obtain ⟨pl, hev⟩ := hev (callEnv (fnX name qual (defArgs st) (defBody st) (defScope st) [("__class__", cc)] dV kV doc pm an (.ref cda) ct) h.objs.size fI)
  rw [hbody] at hev
  refine ks_wpAt_MethodCall ?_ hev
  refine ks_wpAt_super_base I.l1 I.l2 rfl rfl (X1 _ _ hf) rfl ha1 rfl (X1 _ _ hco) rfl hvs hfile T.top ?_
  refine ks_loadName_global I.k I.l1 (loadGlobal_builtin (G.keeps k1) hmg (B.keeps k1) hmb ⟨rfl, ?_⟩)
  refine wpAny_loadName_free I.k I.l2 rfl ⟨_, X1 _ _ hcc, rfl⟩ ?_
  rw [ha2]
  refine wpAny_loadName_local I.k I.l3 n1 ms ?_
  refine ks_wpAny_isType_cls (X1 _ _ hC) rfl ⟨rfl, ?_⟩
  have he1 := k1 _ _ he
  refine ks_wpAny_call_super (X1 _ _ hC) rfl he1 rfl (fun c z => by cases z) (looks_mroIn X1 T.mro) (fun h2 so2 k2 => ?_)
  have X2 : K.In h2 := X1.keeps k2
  have eC : e ≠ C := fun z => by
    rw [z] at he
    rw [X _ _ hC] at he
    cases he
  have hI2 : Looks (model prog w) h2 (isInstance (.ref e) (.type "ValueError")) true := (InstAt.type (od := none) ⟨k2 _ _ he1, rfl, rfl, trivial⟩).andThen (looks_subIn X2 T.vE)
  have alg := T.alg
  unfold ks_superIn at alg
  rw [hcl] at alg
  refine kxs_getMethod kxs_ValueError so2 (looks_opaque X2 T.opq) (l₀ := .ref C :: bm) (fun A Q E s k q => wpAny_bind ((looks_clsIn X2 hcl) A _ E s k (wpAny_pure q))) rfl X2 alg hI2 eC rfl ?_
  have k3 : ∀ b o, h2.get? b = some o → (h2.push (kxs_mw "ValueError.__init__" e)).get? b = some o := fun b o z => Heap.get?_push_of_some _ z
  have X3 : K.In (h2.push (kxs_mw "ValueError.__init__" e)) := X2.keeps k3
  have hu3 : (h2.push (kxs_mw "ValueError.__init__" e)).get? h2.objs.size = some (kxs_mw "ValueError.__init__" e) := Heap.get?_push_at rfl rfl
  have k0 : ∀ b o, h.get? b = some o → (h2.push (kxs_mw "ValueError.__init__" e)).get? b = some o := fun b o z => k3 _ _ (k2 _ _ (k1 _ _ z))
  have n3 := n1.keeps fun b o z => k3 _ _ (k2 _ _ z)
  have he3 := k3 _ _ (k2 _ _ he1)
  have sz : h.objs.size ≤ (h2.push (kxs_mw "ValueError.__init__" e)).objs.size := by
    obtain ⟨oL, es, ep, hL, _⟩ := n3
    exact Nat.le_of_lt (Heap.lt_size hL)
  generalize h2.push (kxs_mw "ValueError.__init__" e) = h3 at *
  refine kxs_callWith (i := "ValueError.__init__") (x := e) rfl (evalArgs_plain ?_)
  refine spliced_more (pos := p7) (wpAny_JoinedStr ?_)
  refine Calls.Constant_str ?_
  refine ⟨m, _, rfl, by show (Str.empty ++ m).length ≤ sizeLine; rw [strLen_append, sizeLine_eq]; show 0 + m.length ≤ _; omega, ?_⟩
  refine wpAny_FormattedValue_plain (wpAny_Name (wpAny_loadName_local I.k I.l4 n3 mq ?_) I.db)
  refine fmt_ok few fun x tk t' hx => ?_
  have hz : (Str.empty ++ m ++ x).length ≤ sizeLine := by rw [strLen_append, strLen_append, sizeLine_eq]; show 0 + m.length + x.length ≤ _; omega
  refine ⟨x, _, rfl, hz, ?_⟩
  refine ⟨hz, spliced_none ⟨hu3, ?_⟩⟩
  refine call_mw T.oex X3 he3 hu3 (by show 1 ≤ sizeLine; rw [sizeLine_eq]; omega) fun h4 t1 k4 s4 he4 => ?_
  have X4 : K.In h4 := fun b o z => k4 b o (fun hb => by rw [hb, hKe] at z; cases z) (X3 _ _ z)
  have eL : h.objs.size ≠ e := fun z => by
    have := Heap.lt_size he
    rw [← z] at this
    exact absurd this (Nat.lt_irrefl _)
  have n4 : h4.Ns h.objs.size (fun x => ([("self", Value.ref e), (q, u)] : List (Str × Value)).reverse.lookup x) := by
    obtain ⟨oL, es, ep, hL, r⟩ := n3
    exact ⟨oL, es, ep, k4 _ _ eL hL, r⟩
  refine ks_wpAt_execs_cons (wpAt_of_wpAny (plainObj_wpAny_Assign_Attribute ?_))
  refine wpAny_Name (wpAny_loadName_local I.k I.l4 n4 mq ?_) I.db
  refine wpAny_Name (wpAny_loadName_local I.k I.l3 n4 ms ?_) rfl
  refine set_plain X4 (ox := HandSPX.excO C t1) (od := none) ⟨he4, rfl, rfl, trivial⟩ T.oex.sa ?_
  refine HandSPX.exc_osa X4 he4 hcl (show HandSPX.refsVE (.ref C :: bm) = true from hbm) rfl T.nof (fun h5 tk5 dx k5 dn dne hx5 hn5 => ?_)
  refine wpAt_of_wpAny (wpAny_execs_nil ?_)
  refine hq h5 dx t1 _ (fun b o hb z => k5 b o hb (k4 b o hb (k0 b o z))) (Nat.le_trans sz (Nat.le_trans s4 dn)) dne hx5 hn5
/-- the new error, as an expression -/
def tIni (C : Addr) (fld : Str) (te : L2.TE) : L2.St → L2.Hp → L2.XK → Prop := fun σ H Q => te σ H fun y H1 => (y = .non ∨ ∃ i : Int, y = .int i ∧ i.natAbs.log2 < 1920) ∧ ∀ dd, H1 dd = none → Q (.ref C) (some dd) (L2.upd H1 dd (.xd [(fld, y)]))
open L2 in
theorem pmk_ini {X : L2.Cx} {x : Str} {p pos : Pos} {ex : Expr} {te : L2.TE} (T : IniC X.prog X.K C fld) (hr : L2.Room 0 X.A) (hg : L2.Gl X x) (gC : X.mg x = some (.ref C)) (he : L2.PE X ex te) (hdb : (x == ("__debug__" : Str)) = false)
    (hst : starEach [ex] X.env = (false, eval ex X.env) :: starEach [] X.env) : L2N.PMk X (.Call (.Name x p) [ex] [] pos) (tIni C fld te) := by
  intro pins s σ H Q I hq
  obtain ⟨fI, cc, cda, st, name, qual, q, file, tf, oc, dV, kV, doc, pm, ct, ccl, cl, an, od, cdd, cld, osl, ccs, csl, vs, iC, tI, hf, hcd, hco, hvs, hfile, hcc, IT, hb⟩ := T.ini
  obtain ⟨nm, qn, N, bs, bm, sn, sub, ab, col, dd0, c0, c1, c2, c3, c5, hC, hbm⟩ := T.oex.cls
  refine wpAny_Call_Name_kw (ld_glob I hg gC ?_ hdb)
  refine callWith_K (h₀ := X.base) I.ok.mod.kin T.oex.kC (thn ((pa_cons he pa_nil hst).run pos pins s σ H (fun vs H1 => match vs with
    | [y] => (y = .non ∨ ∃ i : Int, y = .int i ∧ i.natAbs.log2 < 1920) ∧ ∀ dd, H1 dd = none → Q (.ref C) (some dd) (L2.upd H1 dd (.xd [(fld, y)]))
    | _ => False) I hq) fun us s1 hh => ?_) hst rfl
  obtain ⟨ws, H1, I1, r1, hq1⟩ := hh
  refine ⟨I1.kIn, ?_⟩
  cases r1 with
  | nil => exact hq1.elim
  | @cons y u _ us' ry rn =>
    cases rn with
    | cons _ _ => exact hq1.elim
    | nil =>
      obtain ⟨hy, hq1⟩ := hq1
      have few : Few u := by
        rcases hy with rfl | ⟨i, rfl, hb⟩
        · exact .inl ry
        · obtain ⟨t, rfl⟩ := ry
          exact .inr ⟨i, t, rfl, hb⟩
      show wpAny _ _ (call (.ref C) [u]) _ _ _
      obtain ⟨hp, g, dr, tk, os⟩ := s1
      obtain ⟨mb, b1, b2⟩ := I1.mod.blt
      have kk : ∀ b o, hp.get? b = some o → ((hp.push (kdv_tup [u])).push (HandSPX.excO C hp.objs.size)).get? b = some o := fun b o z => Heap.get?_push_of_some _ (Heap.get?_push_of_some _ z)
      have hget : ((hp.push (kdv_tup [u])).push (HandSPX.excO C hp.objs.size)).get? (hp.objs.size + 1) = some (HandSPX.excO C hp.objs.size) := by heap_get
      have nope : ∀ {b : Addr} {o : Obj}, hp.get? b = some o → b ≠ hp.objs.size + 1 := fun {b o} z => Nat.ne_of_lt (Nat.lt_succ_of_lt (Heap.lt_size z))
      have hsz : hp.objs.size ≤ ((hp.push (kdv_tup [u])).push (HandSPX.excO C hp.objs.size)).objs.size := Nat.le_of_lt (Nat.lt_of_succ_lt (Heap.lt_size hget))
      refine wpAny_call (HandSPX.call_own F.excBase_ValueError (fun Y => HandSPX.refsVE_contains Y bm hbm) (I1.kIn _ _ hC) (looks_findIn I1.kIn iC) (fun self => bind_fn I1.kIn self tI) (by show 1 ≤ sizeLine; rw [sizeLine_eq]; omega) ?_)
      refine ini_run (mg := X.mg) (mb := mb) T fI cc cda st name qual q file tf oc dV kV doc pm ct ccl cl an od cdd cld osl ccs csl vs hf hcd hco hvs hfile hcc IT hb (I1.kIn.keeps kk) (I1.nolimit.keeps kk) ((I1.mod.glob.keeps I1.bk).keeps kk) ((b1.keeps I1.bk).keeps kk)
        (mg_none_of I1.kIn (I1.mod.glob.keeps I1.bk) T.sup) ((b2 _ (by decide)).trans PyProof.Rows.Boot.«super») (by have := hr.dp; rw [make_depth]; omega) hget ?_ few (fun h' dx t1 tk' k5 dn dne he5 hn5 => ?_)
      · cases z : X.K.lookup (hp.objs.size + 1) with
        | none => rfl
        | some o => exact absurd rfl (nope (I1.kIn _ _ z))
      · refine ⟨rfl, ?_⟩
        obtain ⟨G, g1, g2⟩ := restrict h' fun b => decide (b ≠ hp.objs.size + 1)
        have gk : ∀ b, b ≠ hp.objs.size + 1 → G.get? b = h'.get? b := fun b hb => g1 b (decide_eq_true hb)
        have ge : G.get? (hp.objs.size + 1) = none := g2 _ (by simp)
        have hdn : H1 dx = none := I1.hok.fresh (Nat.le_trans hsz dn)
        have hnG : G.Ns1 dx (fun y => if y = fld then some u else none) := hn5.at fun o z => (gk dx dne).trans z
        have J := I1.laid (t' := tk') (a := dx) (o := .xd [(fld, y)]) (h' := G) (fun b o z => (gk b (nope z)).trans (k5 b o (nope z) (kk b o z))) (Nat.le_trans hsz dn) ⟨_, hnG, relO_put (fs := []) ry fun _ => True.intro⟩
        have na : L2.upd H1 dx (.xd [(fld, y)]) (hp.objs.size + 1) = none := by
          rw [upd_ne dne.symm]
          exact I1.hok.fresh (Nat.le_succ _)
        refine ⟨hp.objs.size + 1, _, _, _, _, .ref C, some dx, rfl, J, fun b o z => ?_, ge, he5, ⟨rfl, rfl, fun vs hv => by cases hv; rfl⟩, rfl, rfl, na, rfl, I1.bare, raises_own T.oex.exC T.oex.tyC, hq1 dx hdn⟩
        by_cases hb : b = hp.objs.size + 1
        · rw [hb, ge] at z
          cases z
        · exact (gk b hb).symm.trans z
end
end IN


set_option Elab.async false
set_option linter.all false
set_option maxRecDepth 100000
set_option maxHeartbeats 2000000
namespace Ev
open PySem PySem.Spec PyProof.Rows L2
/-! ## errors: raised, caught -/
abbrev bmV : List Value := [.type "ValueError", .type "Exception", .type "BaseException", .type "object"]
/-- what the written part says of an error's class without __init__ -/
structure ExA (K : PySem.W.Frag) (a : Addr) : Prop where
  kp : PySem.W.keepIn K (.ref a) = true
  ty : PySem.W.typeIn K (.ref a) = some (.type "type")
  c : ExcC K a
def ExOk (K : PySem.W.Frag) (mg : Str → Option Value) (x : Str) : Prop := ∃ a, mg x = some (.ref a) ∧ ExA K a
/-- .. made with a text -/
def ExQ (K : PySem.W.Frag) (mg : Str → Option Value) (x : Str) : Prop := ∃ a, mg x = some (.ref a) ∧ ExA K a ∧ PySem.W.excIn K a bmV "ValueError.__new__" = true
/-- .. with an __init__ of its own -/
def ExI (P : Program) (K : PySem.W.Frag) (mg : Str → Option Value) (x f : Str) : Prop := ∃ a, mg x = some (.ref a) ∧ IN.IniC P K a f
def ExPr (K : PySem.W.Frag) (mg : Str → Option Value) (x y : Str) : Prop := ∀ a b, mg x = some (.ref a) → mg y = some (.ref b) → PySem.W.exmOne K (.ref a) (.ref b) = some (exM x y) ∧ PySem.W.kitOne K (.ref a) (.ref b) = some (exM x y)
section
variable {P : Pm} {X : Cx} {pos : Pos}
theorem s_rai {x m : Str} {j : Nat} {p p2 pos2 : Pos} (hc : X.calm = true) (hK : X.K = P.K) (hM : X.mg = P.mg) (tk : L2N.Takes X P.W) (e : ExQ X.K X.mg x) (hg : Gl X x) (hdb : (x == ("__debug__" : Str)) = false) :
    PS X (.Raise (some (.Call (.Name x p) [.Constant (.str m) j p2] [] pos2)) none pos) (TSt P (.rai x)) := by
  obtain ⟨a, h1, h2, hq⟩ := e
  refine PSw (L2N.ps_raise hc tk (L2N.pmk_own (C := a) PySem.F.excBase_ValueError hq h1 h2.kp (raises_own h2.c.hs h2.ty) hg hdb)) fun D σ H ⟨ρ, G, fm, h⟩ => ?_
  simp only [evS] at h
  exact h σ (.ref a) none G H (Same.refl G) fm ⟨a, by rw [← hM]; exact h1, rfl, rfl⟩
theorem s_rax {x f : Str} {e : Expr} {ce : CE} {p pos2 : Pos} (hc : X.calm = true) (hK : X.K = P.K) (hM : X.mg = P.mg) (tk : L2N.Takes X P.W) (rm : Room 0 X.A) (q : ExI X.prog X.K X.mg x f) (hg : Gl X x) (hdb : (x == ("__debug__" : Str)) = false) (he : PE X e (T P ce))
    (hst : starEach [e] X.env = (false, eval e X.env) :: starEach [] X.env) : PS X (.Raise (some (.Call (.Name x p) [e] [] pos2)) none pos) (TSt P (.rax x f ce)) := by
  obtain ⟨a, h1, h2⟩ := q
  refine PSw (L2N.ps_raise hc tk (IN.pmk_ini h2 rm hg h1 he hdb hst)) fun D σ H ⟨ρ, G, fm, h⟩ => ?_
  simp only [evS] at h
  refine ⟨ρ, G, fm, OutS.ex h fun d ρ1 v G1 H1 s1 fm1 r1 h2 => ?_⟩
  have rp : Rp P.K G1 v d := r1
  split at h2
  · rename_i hd
    refine ⟨?_, fun dd hdd => ?_⟩
    · cases d with
      | none => cases rp; exact .inl rfl
      | int i => cases rp; exact .inr ⟨i, rfl, of_decide_eq_true hd⟩
      | _ => cases hd
    · have ex := Ext.new (o := .xd [(f, v)]) fm1.sub hdd
      exact h2 σ (.ref a) (some dd) _ _ ex.g (fm1.ext ex) ⟨a, by rw [← hM]; exact h1, rfl, dd, v, rfl, upd_same, rp.mono ex.g⟩
  · exact h2.elim
def adr (mg : Str → Option Value) (x : Str) : Value := (mg x).getD .none
def tsu (K : PySem.W.Frag) (mg : Str → Option Value) (h : Hd) : MA.Su := fun a cls d D σ H => match h.su, h.slot with
  | .par j k z x, some i => σ[i]? = some (some (.ref a)) ∧ d = none ∧ ∃ (C0 Cx : Addr) (b : Bool) (s : Str), cls = .ref C0 ∧ ExcC K C0 ∧ mg x = some (.ref Cx) ∧ PySem.W.kitOne K (.ref C0) (.ref Cx) = some b ∧ z = .str s ∧ D.nx ((σ.set j (some (.str s))).set k (some (.bl b))) H
  | _, _ => False
/-- a slot is forgotten -/
theorem fm_forget {G H : Hp} {σ : L2.St} {ρ : Ro} {i : Nat} {x : Option V} (fm : P.Fm ρ G σ H) (h0 : P.io ≠ none → i ≠ 0) : P.Fm (ρ.set i none) G (σ.set i x) H where
  sub := fm.sub
  len := by rw [List.length_set, List.length_set]; exact fm.len
  un := fun j d hj => by
    by_cases hij : i = j
    · subst hij
      have il : i < ρ.length := by have := (List.getElem?_eq_some_iff.mp hj).1; rwa [List.length_set] at this
      rw [List.getElem?_set_self il] at hj
      cases hj
    · rw [List.getElem?_set_ne hij] at hj
      rw [List.getElem?_set_ne hij]
      exact fm.un j d hj
  ow := fun j d hj => by
    by_cases hij : i = j
    · subst hij
      have il : i < ρ.length := by have := (List.getElem?_eq_some_iff.mp hj).1; rwa [List.length_set] at this
      rw [List.getElem?_set_self il] at hj
      cases hj
    · rw [List.getElem?_set_ne hij] at hj
      rw [List.getElem?_set_ne hij]
      exact fm.ow j d hj
  dis := fun j k d e a hj hk h1 h2 => by
    have ne : ∀ {j : Nat} {d : D}, (ρ.set i none)[j]? = some (some (d, true)) → i ≠ j := fun {j d} hj z => by
      subst z
      have il : i < ρ.length := by have := (List.getElem?_eq_some_iff.mp hj).1; rwa [List.length_set] at this
      rw [List.getElem?_set_self il] at hj
      cases hj
    have nj := ne hj
    have nk := ne hk
    rw [List.getElem?_set_ne nj] at hj h1
    rw [List.getElem?_set_ne nk] at hk h2
    exact fm.dis j k d e a hj hk h1 h2
  zg := fm.zg
  at0 := fun a ha => by
    rw [List.getElem?_set_ne (h0 (by rw [ha]; exact fun z => nomatch z))]
    exact fm.at0 a ha
theorem b0_io {i j k : Nat} (h : (P.b0 && (i == 0 || j == 0 || k == 0)) = false) (hio : P.io ≠ none) : i ≠ 0 ∧ j ≠ 0 ∧ k ≠ 0 := by
  have hb : P.b0 = true := by
    unfold Pm.b0
    cases q : P.io with
    | none => exact absurd q hio
    | some a => rfl
  rw [hb, Bool.true_and] at h
  simp only [Bool.or_eq_false_iff, beq_eq_false_iff_ne] at h
  exact ⟨h.1.1, h.1.2, h.2⟩
/-- the clauses, by the evaluator -/
theorem wA_of {c : Str} {f : Option (Str × D)} {cls : Value} {dx : Option Addr} {G H : Hp} {σ : L2.St} {ρ : Ro} {D : Ends} (er : ErrV P c f cls dx G) (fm : P.Fm ρ G σ H) (ec : ExOk P.K P.mg c) :
    ∀ {hs : List Hd}, (∀ h ∈ hs, (∃ i, h.slot = some i) ∧ ExOk P.K P.mg h.cls ∧ ExPr P.K P.mg c h.cls ∧ ∀ j k z x, h.su = .par j k z x → (∃ s, z = .str s) ∧ ExOk P.K P.mg x ∧ ExPr P.K P.mg c x) → OutS P G (evH P.b0 hs c f ρ) D →
      MA.wA P.K P.W D (hs.map fun h => (adr P.mg h.cls, h.slot.getD 0, tsu P.K P.mg h)) cls dx σ H
  | [], _, h => h σ cls dx G H (Same.refl G) fm er
  | h0 :: hs, hf, h => by
    obtain ⟨⟨i, hsl⟩, ⟨a, m1, m2⟩, pr, hsu⟩ := hf h0 List.mem_cons_self
    obtain ⟨C0, k1, rfl, hdx⟩ := id er
    obtain ⟨a0, n1, n2⟩ := ec
    rw [k1] at n1
    cases n1
    have ea : adr P.mg h0.cls = .ref a := by unfold adr; rw [m1]; rfl
    refine ⟨exM c h0.cls, by show PySem.W.exmOne P.K (.ref C0) (adr P.mg h0.cls) = _; rw [ea]; exact (pr C0 a k1 m1).1, fun hb a' na => ?_, fun hb => ?_⟩
    · unfold evH at h
      rw [if_pos hb] at h
      unfold suR at h
      unfold tsu
      rw [hsl] at h ⊢
      cases hq : h0.su with
      | par j k z x =>
        rw [hq] at h
        obtain ⟨⟨s, rfl⟩, ⟨Cx, x1, x2⟩, px⟩ := hsu j k z x hq
        dsimp only at h
        split at h
        · rename_i hc
          obtain ⟨⟨ij, ik, jk, il⟩, rfl, h0'⟩ := hc
          have hdx' : dx = none := hdx
          subst hdx'
          have il' : i < σ.length := by rw [← fm.len]; exact il
          refine ⟨List.getElem?_set_self il', rfl, C0, Cx, exM c x, s, rfl, n2.c, x1, (px C0 Cx k1 x1).2, rfl, ?_⟩
          have f1 := fm_forget (x := some (V.ref a')) fm fun hio => (b0_io h0' hio).1
          have f2 := f1.set (i := j) (.str s) fun hio => (b0_io h0' hio).2.1
          have f3 := f2.set (i := k) (.bl (exM c x)) fun hio => (b0_io h0' hio).2.2
          have f4 := fm_forget (i := i) (x := none) f3 fun hio => (b0_io h0' hio).1
          exact h _ G H (Same.refl G) f4
        · exact h.elim
      | _ => rw [hq] at h; exact h.elim
    · unfold evH at h
      rw [if_neg (by rw [hb]; exact Bool.false_ne_true)] at h
      exact wA_of er fm ⟨C0, k1, n2⟩ (fun x hx => hf x (List.mem_cons_of_mem _ hx)) h
/-- clauses without a name -/
def tsn (P : Pm) (h : Hd) : Addr → Value → Option Addr → TS := fun _ _ _ => match h.su with
  | .asC j d => TSt P (.asg j (.cst d))
  | .retC d => TSt P (.ret (.cst d))
  | _ => fun _ _ _ => False
theorem wM_of {c : Str} {f : Option (Str × D)} {cls : Value} {dx : Option Addr} {G H : Hp} {σ : L2.St} {ρ : Ro} {D : Ends} (er : ErrV P c f cls dx G) (fm : P.Fm ρ G σ H) :
    ∀ {hs : List Hd}, (∀ h ∈ hs, h.slot = none ∧ ExOk P.K P.mg h.cls ∧ ExPr P.K P.mg c h.cls) → OutS P G (evH P.b0 hs c f ρ) D →
      wMany P.K P.W D (hs.map fun h => (adr P.mg h.cls, tsn P h)) cls dx σ H
  | [], _, h => h σ cls dx G H (Same.refl G) fm er
  | h0 :: hs, hf, h => by
    obtain ⟨hsl, ⟨a, m1, m2⟩, pr⟩ := hf h0 List.mem_cons_self
    obtain ⟨C0, k1, rfl, hdx⟩ := id er
    have ea : adr P.mg h0.cls = .ref a := by unfold adr; rw [m1]; rfl
    refine ⟨exM c h0.cls, by show PySem.W.exmOne P.K (.ref C0) (adr P.mg h0.cls) = _; rw [ea]; exact (pr C0 a k1 m1).1, fun hb a' na => ?_, fun hb => ?_⟩
    · unfold evH at h
      rw [if_pos hb] at h
      unfold suR at h
      unfold tsn
      rw [hsl] at h
      cases hq : h0.su with
      | asC j d =>
        rw [hq] at h
        refine ⟨ρ, G, fm, ?_⟩
        simp only [evS, ev, Rs.st]
        exact h
      | retC d =>
        rw [hq] at h
        refine ⟨ρ, G, fm, ?_⟩
        simp only [evS, ev, Rs.st]
        exact h
      | par j k z x => rw [hq] at h; exact h.elim
    · unfold evH at h
      rw [if_neg (by rw [hb]; exact Bool.false_ne_true)] at h
      exact wM_of er fm (fun x hx => hf x (List.mem_cons_of_mem _ hx)) h
/-- a suite `a, b = "..", isinstance(e, D)` -/
theorem su_par {i j k : Nat} {n t u z x : Str} {D0 : Addr} {pt pu p1 p2 pc pe pd pos : Pos} {kt j1 k2 : Nat} {pi p3 : Pos} (hN : X.N.Nodup) (hi : X.N[i]? = some n) (hvi : Vis X.env.scope n) (hdn : (n == ("__debug__" : Str)) = false) (hcn : (n == ("__classdict__" : Str)) = false)
    (hj : X.N[j]? = some t) (hk : X.N[k]? = some u) (hjk : j ≠ k) (ht : X.env.scope.names.lookup t = some .local) (hu : X.env.scope.names.lookup u = some .local) (gi : Gl X "isinstance") (mi : X.mg "isinstance" = none) (gx : Gl X x) (hdx : (x == ("__debug__" : Str)) = false) (mx : X.mg x = some (.ref D0))
    (hw : swappedStores [.Tuple [.Name t pt, .Name u pu] kt p1] (.Tuple [.Constant (.str z) j1 p2, .Call (.Name "isinstance" pi) [.Name n pe, .Name x pd] [] pc] k2 p3) X.env = pure (some [t, u]))
    (hs : ∀ l, swapsWithSole [.Tuple [.Name t pt, .Name u pu] kt p1] (.Tuple [.Constant (.str z) j1 p2, .Call (.Name "isinstance" pi) [.Name n pe, .Name x pd] [] pc] k2 p3) l X.env = pure false) :
    MA.SuOk X [.Assign [.Tuple [.Name t pt, .Name u pu] kt p1] (.Tuple [.Constant (.str z) j1 p2, .Call (.Name "isinstance" pi) [.Name n pe, .Name x pd] [] pc] k2 p3) pos] (tsu X.K X.mg ⟨x, some i, .par j k (.str z) x⟩) := by
  intro a oe cls d pn hz hf
  refine ⟨fun pins s σ H D I h => ?_⟩
  obtain ⟨h1, rfl, C0, Cx, b, s', rfl, c, m1, kt', e1, q⟩ := h
  cases e1
  rw [mx] at m1
  cases m1
  have cb := call_isE (X := X) (a := a) (oe := oe) (pn := pn) c hz.zc hf
  have pe2 : PE (X.suite a ((a, oe) :: pn)) (.Call (.Name "isinstance" pi) [.Name n pe, .Name x pd] [] pc) (tCB (rIsE X.K C0 a) (tCons (tVar i) (tCons (tC (.ref D0)) tNil))) :=
    pe_callB cb gi mi PyProof.Rows.boot_isinstance (pa_cons (pe_var hi hvi hdn hcn) (pa_cons (pe_glob gx mx rfl hdx) pa_nil rfl) rfl)
  refine (pss_one (MA.ps_par (MA.hot_of hz hf) hN hj hk hjk ht hu (pa_cons pe_str (pa_cons pe2 pa_nil rfl) rfl) hw (hs _))).run pins s σ H D I ?_
  exact ⟨.ref a, h1, .ref D0, .ref D0, b, rfl, fun u hu => hu, kt', .str z, .bl b, rfl, q⟩
/-- try, every clause with a name -/
theorem s_tra {rs : List Str} {body : List Stmt} {h₀ : ExceptHandler} {hds : List ExceptHandler} {cb : List CS} {hs : List Hd} (es : X.stack = X.env :: X.outer) (ef : X.env.frame = some X.env.locals) (nd : X.N.Nodup) (hK : X.K = P.K) (hM : X.mg = P.mg) (tk : L2N.Takes X P.W)
    (hb : ∀ (W : WX) (pn : List (Addr × Obj)) (xe : Value → Shared → Prop), L2N.Takes (X.tr pn xe) W → PassesOwn (model X.prog X.w) X.A X.env xe → PSs (X.tr pn xe) body (TSs { P with W := W } cb))
    (hr : ∀ c ∈ rs, ExOk P.K P.mg c ∧ ∀ h ∈ hs, (∃ i, h.slot = some i) ∧ ExOk P.K P.mg h.cls ∧ ExPr P.K P.mg c h.cls ∧ ∀ j k z x, h.su = .par j k z x → (∃ s, z = .str s) ∧ ExOk P.K P.mg x ∧ ExPr P.K P.mg c x)
    (hh : MA.Hs X (h₀ :: hds) (hs.map fun h => (adr P.mg h.cls, h.slot.getD 0, tsu P.K P.mg h))) : PS X (.Try body (h₀ :: hds) [] [] pos) (TSt P (.tra rs cb hs)) := by
  refine PSw (MA.ps_try es ef nd tk hb hh) fun D σ H ⟨ρ, G, fm, h⟩ => ?_
  refine ⟨ρ, G, fm, ?_⟩
  simp only [evS] at h
  show OutS _ G (evB P.cal P.b0 cb ρ) D
  cases hq : evB P.cal P.b0 cb ρ with
  | er c f ρ1 =>
    rw [hq] at h
    simp only at h
    split at h
    · rename_i hc
      obtain ⟨q1, q2⟩ := hr c (by simpa using hc)
      intro σ' cls dx G' H' s fm' er
      rw [hK]
      exact wA_of (P := P) er fm' q1 q2 (OutS.mono s h)
    · exact h.elim
  | nx ρ1 => rw [hq] at h; exact h
  | rt d ρ1 => rw [hq] at h; exact h
  | ro d ρ1 => rw [hq] at h; exact h
  | bk ρ1 => rw [hq] at h; exact h
  | ct ρ1 => rw [hq] at h; exact h
  | bad => rw [hq] at h; exact h
/-- try, no clause with a name -/
theorem s_tro {rs : List Str} {body : List Stmt} {h₀ : ExceptHandler} {hds : List ExceptHandler} {cb : List CS} {hs : List Hd} (es : X.stack = X.env :: X.outer) (ef : X.env.frame = some X.env.locals) (hK : X.K = P.K) (hM : X.mg = P.mg) (tk : L2N.Takes X P.W)
    (hb : ∀ (W : WX) (pn : List (Addr × Obj)) (xe : Value → Shared → Prop), L2N.Takes (X.tr pn xe) W → PassesOwn (model X.prog X.w) X.A X.env xe → PSs (X.tr pn xe) body (TSs { P with W := W } cb))
    (hr : ∀ c ∈ rs, ∀ h ∈ hs, h.slot = none ∧ ExOk P.K P.mg h.cls ∧ ExPr P.K P.mg c h.cls)
    (hh : L2N.HdsOk X (h₀ :: hds) (hs.map fun h => (adr P.mg h.cls, tsn P h))) : PS X (.Try body (h₀ :: hds) [] [] pos) (TSt P (.tra rs cb hs)) := by
  refine PSw (L2N.ps_try_many es ef tk hb hh) fun D σ H ⟨ρ, G, fm, h⟩ => ?_
  refine ⟨ρ, G, fm, ?_⟩
  simp only [evS] at h
  show OutS _ G (evB P.cal P.b0 cb ρ) D
  cases hq : evB P.cal P.b0 cb ρ with
  | er c f ρ1 =>
    rw [hq] at h
    simp only at h
    split at h
    · rename_i hc
      have q2 := hr c (by simpa using hc)
      intro σ' cls dx G' H' s fm' er
      rw [hK]
      exact wM_of (P := P) er fm' q2 (OutS.mono s h)
    · exact h.elim
  | nx ρ1 => rw [hq] at h; exact h
  | rt d ρ1 => rw [hq] at h; exact h
  | ro d ρ1 => rw [hq] at h; exact h
  | bk ρ1 => rw [hq] at h; exact h
  | ct ρ1 => rw [hq] at h; exact h
  | bad => rw [hq] at h; exact h
end
end Ev


set_option Elab.async false
set_option linter.all false
set_option maxRecDepth 100000
set_option maxHeartbeats 2000000
namespace Ev
open PySem PySem.Spec PyProof.Rows L2

/-! ## the code of a text -/
structure Fi where
  io : Bool
  ow : Bool
  ps : List Str
  kws : List (List Str × List Nat)
structure Cc where
  N : List Str
  sc : Scope
  top : Str → Bool
  fns : List (Str × Fi)
  gvs : List (Str × D)
  ow : Bool
def idx (N : List Str) (x : Str) : Option Nat := N.findIdx? fun y => decide (y = x)
theorem idx_get {N : List Str} {x : Str} {i : Nat} (h : idx N x = some i) : N[i]? = some x := by
  obtain ⟨h1, h2, _⟩ := List.findIdx?_eq_some_iff_getElem.mp h
  rw [List.getElem?_eq_getElem h1, of_decide_eq_true h2]
def plainN (x : Str) : Bool := !(x == ("__debug__" : Str)) && !(x == ("__classdict__" : Str)) && !decide (x = ("__name__" : Str))
def Cc.slot (C : Cc) (x : Str) : Option Nat := if plainN x = true then (match C.sc.names.lookup x with
  | some .local => idx C.N x
  | some .cell => idx C.N x
  | some .free => idx C.N x
  | _ => none) else none
def Cc.stor (C : Cc) (x : Str) : Option Nat := match C.sc.names.lookup x with
  | some .local => idx C.N x
  | some .cell => if C.top x = true then idx C.N x else none
  | _ => none
def Cc.glb (C : Cc) (x : Str) : Bool := plainN x && decide (C.sc.names.lookup x = some .globalImplicit)
def Cc.blk (C : Cc) (scope : Scope) : Cc := { C with sc := relS scope C.sc, top := fun x => scope.names.lookup x == some .cell }
def biN : Bi → Str
  | .abs => "abs" | .max => "max" | .min => "min" | .int => "int" | .len => "len" | .str => "str" | .list => "list" | .tuple => "tuple" | .divmod => "divmod" | .sum => "sum" | .all => "all" | .repr => "repr" | .sorted => "sorted" | .any => "any"
def biV : Bi → Value
  | .abs => .builtin "abs" | .max => .builtin "max" | .min => .builtin "min" | .int => .type "int" | .len => .builtin "len" | .str => .type "str" | .list => .type "list" | .tuple => .type "tuple" | .divmod => .builtin "divmod" | .sum => .builtin "sum" | .all => .builtin "all" | .repr => .builtin "repr" | .sorted => .builtin "sorted" | .any => .builtin "any"
def biL : List Bi := [.abs, .max, .min, .int, .len, .str, .list, .tuple, .divmod, .sum, .all, .repr, .sorted, .any]
def tyL : List String := ["int", "bool", "str", "list", "tuple"]
def othL : List Str := ["isinstance", "bool", "range", "enumerate", "zip", "reversed", "set", "dict"]
/-- the mark of an error's class among the globals -/
def isEx : D → Bool
  | .dict [(.none, .none)] => true
  | .dict [(.none, .str _)] => true
  | _ => false
def isPl : D → Bool
  | .dict [(.none, .none)] => true
  | _ => false
def exFl : D → Option Str
  | .dict [(.none, .str f)] => some f
  | _ => none
def Cc.pl (C : Cc) (x : Str) : Bool := match C.gvs.lookup x with
  | some d => isPl d
  | none => false
def Cc.fl (C : Cc) (x : Str) : Option Str := (C.gvs.lookup x).bind exFl
def exN (gvs : List (Str × D)) : List Str := (gvs.filter fun y => isEx y.2).map (·.1)
def Cc.ex (C : Cc) (x : Str) : Bool := (exN C.gvs).contains x
def bltN (x : Str) : Bool := biL.any (fun f => decide (biN f = x)) || othL.any (fun y => decide (y = x))
structure Ok (C : Cc) (P : Pm) (X : Cx) : Prop where
  N : X.N = C.N
  nd : X.N.Nodup
  sc : X.env.scope = C.sc
  fn : ∀ x, C.top x = true → X.fn x = true
  K : X.K = P.K
  mg : X.mg = P.mg
  calm : X.calm = true
  gd : X.A.guards = some []
  un : X.A.units + 100 < cLine
  tk : L2N.Takes X P.W
  fns : ∀ x fi, C.fns.lookup x = some fi → ∃ a fd k, Room k X.A ∧ X.mg x = some (.ref a) ∧ PySem.W.keepIn X.K (.ref a) = true ∧ FnG X.prog X.w X.K X.mg X.base k a fd fi.ps (spD P.K P.mg P.cal x fi.io fi.ps.length) ∧ Binds X.K fd fi.ps [] ∧
    ∀ ks perm, fi.kws.lookup ks = some perm → KwB X.K fd fi.ps ks perm
  bl : ∀ x, bltN x = true → X.mg x = none
  gvs : ∀ x d, x ≠ ("gcd" : Str) → isEx d = false → C.gvs.lookup x = some d → ∃ u v, X.mg x = some u ∧ RelV v u ∧ ∀ G, Rp P.K G v d
  gc : C.gvs.lookup ("gcd" : Str) ≠ none → X.mg ("gcd" : Str) = some (.builtin "math.gcd")
  ex : ∀ x ∈ exN C.gvs, ExOk X.K X.mg x
  exx : ∀ x ∈ exN C.gvs, ∀ y ∈ exN C.gvs, ExPr X.K X.mg x y
  exq : ∀ x d, C.gvs.lookup x = some d → isPl d = true → ExQ X.K X.mg x
  exi : ∀ x d f, C.gvs.lookup x = some d → exFl d = some f → ExI X.prog X.K X.mg x f
  rm : Room 0 X.A
section
variable {C : Cc} {P P' : Pm} {X : Cx}
theorem Ok.sameW (O : Ok C P X) (s : SameW P P') : Ok C P' X := by
  obtain ⟨s1, s2, s3, s4, s5⟩ := s
  exact ⟨O.N, O.nd, O.sc, O.fn, by rw [s1]; exact O.K, by rw [s2]; exact O.mg, O.calm, O.gd, O.un, by rw [s5]; exact O.tk, by rw [s1, s2, s4]; exact O.fns, O.bl, by rw [s1]; exact O.gvs, O.gc, O.ex, O.exx, O.exq, O.exi, O.rm⟩
theorem Ok.blk (O : Ok C P X) (s : SameB P P') {scope : Scope} {st : Shared} {H : Hp} {cc : Addr} {cl : List (Str × Addr)} {fp : List Addr} : Ok (C.blk scope) P' (X.blk st H scope (compEnvC scope cl cc X.env) fp) := by
  obtain ⟨s1, s2, s3, s4, s5⟩ := s
  refine ⟨O.N, O.nd, ?_, fun x h => h, by rw [s1]; exact O.K, by rw [s2]; exact O.mg, O.calm, O.gd, O.un, ?_, by rw [s1, s2, s4]; exact O.fns, O.bl, by rw [s1]; exact O.gvs, O.gc, O.ex, O.exx, O.exq, O.exi, O.rm⟩
  · show relS scope X.env.scope = relS scope C.sc
    rw [O.sc]
  · rw [s5]
    rintro u s' ⟨a, B, sI, pins, σ, H, cls, d, e, I, nb, up, sky, na, os, ag, w⟩
    exact w
theorem Ok.tr (O : Ok C P X) {W : WX} {pn : List (Addr × Obj)} {xe : Value → Shared → Prop} (tk : L2N.Takes (X.tr pn xe) W) : Ok C { P with W := W } (X.tr pn xe) :=
  ⟨O.N, O.nd, O.sc, O.fn, O.K, O.mg, O.calm, O.gd, O.un, tk, O.fns, O.bl, O.gvs, O.gc, O.ex, O.exx, O.exq, O.exi, O.rm⟩
theorem plainN_ok {x : Str} (h : plainN x = true) : (x == ("__debug__" : Str)) = false ∧ (x == ("__classdict__" : Str)) = false ∧ x ≠ ("__name__" : Str) := by
  unfold plainN at h
  simp only [Bool.and_eq_true, Bool.not_eq_true', decide_eq_false_iff_not] at h
  exact ⟨h.1.1, h.1.2, h.2⟩
theorem slot_ok (O : Ok C P X) {x : Str} {i : Nat} (h : C.slot x = some i) : X.N[i]? = some x ∧ Vis X.env.scope x ∧ (x == ("__debug__" : Str)) = false ∧ (x == ("__classdict__" : Str)) = false := by
  unfold Cc.slot at h
  split at h
  · rename_i hp
    obtain ⟨p1, p2, p3⟩ := plainN_ok hp
    rw [O.N, O.sc]
    split at h
    · exact ⟨idx_get h, .inl (by assumption), p1, p2⟩
    · exact ⟨idx_get h, .inr (.inl (by assumption)), p1, p2⟩
    · exact ⟨idx_get h, .inr (.inr (by assumption)), p1, p2⟩
    · cases h
  · cases h
theorem stor_ok (O : Ok C P X) {x : Str} {i : Nat} (h : C.stor x = some i) : X.N[i]? = some x ∧ Loc X.env.scope x ∧ (X.fn x = true ∨ X.env.scope.names.lookup x = some .local) := by
  unfold Cc.stor at h
  rw [O.N, O.sc]
  split at h
  · exact ⟨idx_get h, .inl (by assumption), .inr (by assumption)⟩
  · split at h
    · rename_i ht
      exact ⟨idx_get h, .inr (by assumption), .inl (O.fn x ht)⟩
    · cases h
  · cases h
theorem glb_ok (O : Ok C P X) {x : Str} (h : C.glb x = true) : Gl X x ∧ (x == ("__debug__" : Str)) = false ∧ x ≠ ("__name__" : Str) := by
  unfold Cc.glb at h
  rw [Bool.and_eq_true] at h
  obtain ⟨p1, p2, p3⟩ := plainN_ok h.1
  exact ⟨by show X.env.scope.names.lookup x = _; rw [O.sc]; exact of_decide_eq_true h.2, p1, p3⟩
end
/-! shapes -/
def noStar : Expr → Bool
  | .Starred .. => false
  | _ => true
def noStars (es : List Expr) : Bool := es.all noStar
theorem star1 {e : Expr} {es : List Expr} {env : PySem.Env} (h : noStar e = true) : starEach (e :: es) env = (false, eval e env) :: starEach es env := by
  cases e <;> first | rfl | cases h
theorem starsT {env : PySem.Env} {pos : Pos} : ∀ {es : List Expr}, noStars es = true → (backTo pos (starEach es env)).any (·.1) = false ∧ (backTo pos (starEach es env)).all (fun x => !x.1) = true
  | [], _ => ⟨rfl, rfl⟩
  | e :: es, h => by
    unfold noStars at h
    rw [List.all_cons, Bool.and_eq_true] at h
    obtain ⟨h1, h2⟩ := starsT (env := env) (pos := pos) (es := es) h.2
    rw [star1 h.1]
    constructor
    · show (false || (backTo pos (starEach es env)).any (·.1)) = false
      rw [h1]; rfl
    · show (!false && (backTo pos (starEach es env)).all (fun x => !x.1)) = true
      rw [h2]; rfl
def plainIx : Expr → Bool
  | .Slice .. => false
  | _ => true
theorem plainIx_ok {b : Expr} (h : plainIx b = true) : PlainIx b := by
  cases b <;> first | exact fun _ _ => rfl | cases h
def noCall : Expr → Bool
  | .Call .. => false
  | _ => true
theorem noCall_ok {o : Expr} {nm : Str} {env : PySem.Env} (h : noCall o = true) : attributeBase o nm env (eval o env) = eval o env := by
  cases o <;> first | rfl | cases h
def noSet : Expr → Bool
  | .Set .. => false
  | _ => true
theorem noSet_ok {o : Expr} {env : PySem.Env} (h : noSet o = true) : ∀ x, foldedSetIterable o env x = pure x := by
  cases o <;> first | exact fun _ => rfl | cases h
def tstPlain : Expr → Bool
  | .UnaryOp .Not .. => false
  | .BoolOp .. => false
  | .IfExp .. => false
  | .Compare .. => false
  | _ => true
theorem tstPlain_ok {o : Expr} {env : PySem.Env} (h : tstPlain o = true) : ∀ whole, isTrue o env whole = (do let v ← whole; standAt o.pos; holding [v] (truthy v)) := by
  cases o with
  | UnaryOp op a pos => cases op <;> first | exact fun _ => rfl | cases h
  | BoolOp => cases h
  | IfExp => cases h
  | Compare => cases h
  | _ => exact fun _ => rfl
end Ev


set_option Elab.async false
set_option linter.all false
set_option maxRecDepth 100000
set_option maxHeartbeats 2000000
namespace Ev
open PySem PySem.Spec PyProof.Rows L2

def cstD : Const → Option D
  | .none => some .none
  | .bool b => some (.bool b)
  | .int i => some (.int i)
  | .str s => some (.str s)
  | _ => none
def cName (C : Cc) (x : Str) : Option CE := match C.slot x with
  | some i => some (.var i)
  | none => if C.glb x = true ∧ x ≠ ("gcd" : Str) then (C.gvs.lookup x).bind fun d => if isEx d = true then none else some (.gcn x d) else none
def cL (r : Expr → Option CE) : List Expr → Option (List CE)
  | [] => some []
  | e :: es => if noStar e = true then (r e).bind fun c => (cL r es).bind fun cs => some (c :: cs) else none
def cO (r : Expr → Option CE) : Option Expr → Option (Option CE)
  | none => some none
  | some e => (r e).map some
def cUn (op : UnaryOp) (o : Option CE) : Option CE := match op with
  | .USub => o.map .neg
  | .Not => o.map .not
  | _ => none
def cCmp (r : Expr → Option CE) (a : Expr) (ops : List CmpOp) (bs : List Expr) : Option CE := match ops, bs with
  | [op], [b] => if behindInMarks op b = false then (r a).bind fun x => (r b).map fun y => .cmp op x y else none
  | [o1, o2], [b, c] => if lastMarks [o1, o2] [b, c] = false then (r a).bind fun x => (r b).bind fun y => (r c).map fun z => .chn o1 o2 x y z else none
  | _, _ => none
def cBool (r : Expr → Option CE) (op : BoolOp) : List Expr → Option CE
  | [] => none
  | [a] => r a
  | a :: b :: es => (r a).bind fun x => (cBool r op (b :: es)).map fun y => match op with | .And => .and x y | .Or => .or x y
def cIdx (C : Cc) (r : Expr → Option CE) (a b : Expr) : Option CE := if plainIx b = true then (match a with
  | .Name x _ => (match C.slot x with
    | some i => (r b).map (.idv i)
    | none => (r a).bind fun x => (r b).map (.idx x))
  | _ => (r a).bind fun x => (r b).map (.idx x)) else none
def isMinus1 : Expr → Bool
  | .UnaryOp .USub (.Constant (.int i) _ _) _ => decide (i = 1)
  | _ => false
def cSls (r : Expr → Option CE) (a : Expr) (lo hi : Option Expr) (st : Expr) : Option CE := (r a).bind fun x => (cO r lo).bind fun l => (cO r hi).bind fun h => (r st).map fun y => .sls x l h y
def cSub (C : Cc) (r : Expr → Option CE) (a b : Expr) : Option CE := match b with
  | .Slice lo hi none _ => (r a).bind fun x => (cO r lo).bind fun l => (cO r hi).map fun h => .slc x l h
  | .Slice none none (some e) _ => if isMinus1 e = true then (r a).map .rev else cSls r a none none e
  | .Slice lo hi (some e) _ => cSls r a lo hi e
  | b => cIdx C r a b
section
variable {C : Cc} {P P' : Pm} {X : Cx} {r : Expr → Option CE}
theorem bind_some {α β : Type} {o : Option α} {f : α → Option β} {c : β} (h : o.bind f = some c) : ∃ a, o = some a ∧ f a = some c := by
  cases o with
  | none => cases h
  | some a => exact ⟨a, rfl, h⟩
theorem map_some {α β : Type} {o : Option α} {f : α → β} {c : β} (h : o.map f = some c) : ∃ a, o = some a ∧ f a = c := by
  cases o with
  | none => cases h
  | some a => exact ⟨a, rfl, Option.some.inj h⟩
theorem cst_ok {c : Const} {k : Nat} {pos : Pos} {d : D} (h : cstD c = some d) : PE X (.Constant c k pos) (T P (.cst d)) := by
  cases c with
  | none => cases h; exact t_cst pe_non fun _ => .non
  | bool b => cases h; exact t_cst pe_bl fun _ => .bl b
  | int b => cases h; exact t_cst pe_int fun _ => .int b
  | str b => cases h; exact t_cst pe_str fun _ => .str b
  | _ => cases h
theorem name_ok (O : Ok C P X) {x : Str} {pos : Pos} {c : CE} (h : cName C x = some c) : PE X (.Name x pos) (T P c) := by
  unfold cName at h
  split at h
  · rename_i i hi
    cases h
    obtain ⟨h1, h2, h3, h4⟩ := slot_ok O hi
    exact t_var i h1 h2 h3 h4
  · split at h
    · rename_i hg
      obtain ⟨d, hd, he⟩ := bind_some h
      split at he
      · cases he
      · rename_i hx
        cases he
        obtain ⟨g1, g2, g3⟩ := glb_ok O hg.1
        obtain ⟨u, v, q1, q2, q3⟩ := O.gvs x d hg.2 (by cases q : isEx d with | false => rfl | true => exact absurd q hx) hd
        exact t_gcn (pe_glob g1 q1 q2 g2) q3
    · cases h
theorem cL_len : ∀ {es : List Expr} {cs : List CE}, cL r es = some cs → cs.length = es.length
  | [], cs, h => by cases h; rfl
  | e :: es, cs, h => by
    unfold cL at h
    split at h
    · obtain ⟨c, h1, h2⟩ := bind_some h
      obtain ⟨cs', h3, h4⟩ := bind_some h2
      cases h4
      rw [List.length_cons, List.length_cons, cL_len h3]
    · cases h
theorem cL_stars : ∀ {es : List Expr} {cs : List CE}, cL r es = some cs → noStars es = true
  | [], cs, h => rfl
  | e :: es, cs, h => by
    unfold cL at h
    split at h
    · rename_i hs
      obtain ⟨c, h1, h2⟩ := bind_some h
      obtain ⟨cs', h3, h4⟩ := bind_some h2
      unfold noStars
      rw [List.all_cons, hs]
      exact cL_stars h3
    · cases h
variable (hr : ∀ e c, r e = some c → PE X e (T P c))
include hr
theorem cL_ok : ∀ {es : List Expr} {cs : List CE}, cL r es = some cs → PA X es (TAs P cs)
  | [], cs, h => by cases h; exact ta_nil
  | e :: es, cs, h => by
    unfold cL at h
    split at h
    · rename_i hs
      obtain ⟨c, h1, h2⟩ := bind_some h
      obtain ⟨cs', h3, h4⟩ := bind_some h2
      cases h4
      exact ta_cons (hr e c h1) (cL_ok h3) (star1 hs)
    · cases h
theorem cO_ok {o : Option Expr} {co : Option CE} (h : cO r o = some co) : PO X o (TOp P co) := by
  cases o with
  | none => cases h; exact to_none
  | some e =>
    obtain ⟨c, h1, rfl⟩ := map_some h
    exact to_some (hr e c h1)
theorem un_ok (O : Ok C P X) {op : UnaryOp} {a : Expr} {pos : Pos} {c : CE} (h : cUn op (r a) = some c) : PE X (.UnaryOp op a pos) (T P c) := by
  cases op with
  | USub => obtain ⟨x, h1, rfl⟩ := map_some h; exact t_neg (hr _ _ h1)
  | Not => obtain ⟨x, h1, rfl⟩ := map_some h; exact t_not O.K (hr _ _ h1)
  | _ => cases h
theorem cmp_ok (O : Ok C P X) {a : Expr} {ops : List CmpOp} {bs : List Expr} {pos : Pos} {c : CE} (h : cCmp r a ops bs = some c) : PE X (.Compare a ops bs pos) (T P c) ∧ PT X (.Compare a ops bs pos) (TT' P c) := by
  unfold cCmp at h
  split at h
  · split at h
    · rename_i hm
      obtain ⟨x, h1, h2⟩ := bind_some h
      obtain ⟨y, h3, rfl⟩ := map_some h2
      exact ⟨t_cmp O.K O.un hm (hr _ _ h1) (hr _ _ h3), tt_cmp O.K O.un hm (hr _ _ h1) (hr _ _ h3)⟩
    · cases h
  · split at h
    · rename_i hm
      obtain ⟨x, h1, h2⟩ := bind_some h
      obtain ⟨y, h3, h4⟩ := bind_some h2
      obtain ⟨z, h5, rfl⟩ := map_some h4
      exact ⟨t_chn O.K O.un hm (hr _ _ h1) (hr _ _ h3) (hr _ _ h5), tt_chn O.K O.un hm (hr _ _ h1) (hr _ _ h3) (hr _ _ h5)⟩
    · cases h
  · cases h
theorem bool_ok {op : BoolOp} {pos : Pos} : ∀ {es : List Expr} {c : CE}, cBool r op es = some c → PE X (.BoolOp op es pos) (T P c)
  | [], c, h => by cases h
  | [a], c, h => t_one (hr _ _ h)
  | a :: b :: es, c, h => by
    unfold cBool at h
    obtain ⟨x, h1, h2⟩ := bind_some h
    obtain ⟨y, h3, h4⟩ := map_some h2
    cases op with
    | And => cases h4; exact t_and (hr _ _ h1) (bool_ok h3)
    | Or => cases h4; exact t_or (hr _ _ h1) (bool_ok h3)
theorem idx_ok (O : Ok C P X) {a b : Expr} {pos : Pos} {c : CE} (h : cIdx C r a b = some c) : PE X (.Subscript a b pos) (T P c) := by
  unfold cIdx at h
  split at h
  · rename_i hp
    split at h
    · split at h
      · rename_i i hi
        obtain ⟨y, h3, rfl⟩ := map_some h
        obtain ⟨q1, q2, q3, q4⟩ := slot_ok O hi
        exact t_idv i O.un O.K q1 q2 q3 q4 (plainIx_ok hp) (hr _ _ h3)
      · obtain ⟨x, h1, h2⟩ := bind_some h
        obtain ⟨y, h3, rfl⟩ := map_some h2
        exact t_idx O.un O.K (plainIx_ok hp) (hr _ _ h1) (hr _ _ h3)
    · obtain ⟨x, h1, h2⟩ := bind_some h
      obtain ⟨y, h3, rfl⟩ := map_some h2
      exact t_idx O.un O.K (plainIx_ok hp) (hr _ _ h1) (hr _ _ h3)
  · cases h
theorem minus1 {e : Expr} (h : isMinus1 e = true) : ∃ k p1 p2, e = .UnaryOp .USub (.Constant (.int 1) k p1) p2 := by
  unfold isMinus1 at h
  split at h
  · exact ⟨_, _, _, by rw [of_decide_eq_true h]⟩
  · cases h
theorem sls_ok (O : Ok C P X) {a st : Expr} {lo hi : Option Expr} {p2 pos : Pos} {c : CE} (h : cSls r a lo hi st = some c) : PE X (.Subscript a (.Slice lo hi (some st) p2) pos) (T P c) := by
  unfold cSls at h
  obtain ⟨x, h1, h2⟩ := bind_some h
  obtain ⟨l, h3, h4⟩ := bind_some h2
  obtain ⟨u, h5, h6⟩ := bind_some h4
  obtain ⟨y, h7, rfl⟩ := map_some h6
  exact t_sls O.K (hr _ _ h1) (cO_ok hr h3) (cO_ok hr h5) (hr _ _ h7)
theorem sub_ok (O : Ok C P X) {a b : Expr} {pos : Pos} {c : CE} (h : cSub C r a b = some c) : PE X (.Subscript a b pos) (T P c) := by
  unfold cSub at h
  split at h
  · obtain ⟨x, h1, h2⟩ := bind_some h
    obtain ⟨l, h3, h4⟩ := bind_some h2
    obtain ⟨u, h5, rfl⟩ := map_some h4
    exact t_slc O.K (hr _ _ h1) (cO_ok hr h3) (cO_ok hr h5)
  · split at h
    · rename_i hm
      obtain ⟨k, p1, p2, rfl⟩ := minus1 hr hm
      obtain ⟨x, h1, rfl⟩ := map_some h
      exact t_rev O.K (hr _ _ h1)
    · exact sls_ok hr O h
  · exact sls_ok hr O h
  · exact idx_ok hr O h
end
end Ev


set_option Elab.async false
set_option linter.all false
set_option maxRecDepth 100000
set_option maxHeartbeats 2000000
namespace Ev
open PySem PySem.Spec PyProof.Rows L2

def cDef (C : Cc) (r : Expr → Option CE) (x : Str) (fi : Fi) (args : List Expr) (kws : List Keyword) : Option CE := match kws with
  | [] => (match args with
    | [] => if fi.io = false ∧ fi.ps = [] then some (.call x [] []) else none
    | a :: as => if fi.io = true then (match a with
        | .Name y _ => (C.slot y).bind fun i => if as.length + 1 = fi.ps.length then (cL r as).map (.cio x i) else none
        | _ => none)
      else if as.length + 1 = fi.ps.length then (cL r (a :: as)).map (.call x (List.range fi.ps.length)) else none)
  | _ :: _ => (match args with
    | [] => if fi.io = false ∧ kws.all (·.arg.isSome) = true then (fi.kws.lookup (kws.filterMap (·.arg))).bind fun perm => if perm.length = fi.ps.length then (cL r (kws.map (·.value))).map (.call x perm) else none else none
    | _ => none)
/-- f(g(..), ..): f changes the list that g makes -/
def cCfo (C : Cc) (r : Expr → Option CE) (x : Str) (fi : Fi) (args : List Expr) : Option CE := match args with
  | .Call (.Name y _) bs [] _ :: as => if fi.io = true ∧ C.glb y = true ∧ as.length + 1 = fi.ps.length then (C.fns.lookup y).bind fun gi => (cDef C r y gi bs []).bind fun c0 => match c0 with
    | .call g perm cb => (cL r as).map fun ca => .cfo x g perm cb ca
    | _ => none else none
  | _ => none
def cBlt (r : Expr → Option CE) (x : Str) (args : List Expr) : Option CE := (biL.find? fun f => decide (biN f = x)).bind fun f => match args with
  | [] => none
  | a :: as => (cL r (a :: as)).map (.blt f)
/-- sorted(set(..)) -/
def cSrs (C : Cc) (r : Expr → Option CE) (x : Str) (args : List Expr) : Option CE := match args with
  | [.Call (.Name y _) [a] [] _] => if (x = ("sorted" : Str) ∧ y = ("set" : Str)) ∧ C.glb y = true ∧ C.fns.lookup y = none ∧ noStar a = true then (r a).map .srs else none
  | _ => none
/-- min(.., default=..) -/
def cMnd (r : Expr → Option CE) (x : Str) (args : List Expr) (kws : List Keyword) : Option CE := match args, kws with
  | [a], [⟨some k, b, _⟩] => if (x = ("min" : Str) ∧ k = ("default" : Str)) ∧ noStar a = true then (r a).bind fun c => (r b).map fun d => .mnd c d else none
  | _, _ => none
/-- repr(name) -/
def cRpo (C : Cc) (x : Str) (args : List Expr) : Option CE := if biN .repr = x then (match args with
  | [.Name y _] => (C.slot y).map .rpo
  | _ => none) else none
def cIsi (C : Cc) (r : Expr → Option CE) (args : List Expr) : Option CE := match args with
  | [a, .Name y _] => if C.glb y = true ∧ C.fns.lookup y = none ∧ bltN y = true then (tyL.find? fun t => decide (Str.ofString t = y)).bind fun t => if noStar a = true then (r a).map fun x => .isi x t else none else none
  | _ => none
/-- list(range(..)) -/
def cLr (C : Cc) (r : Expr → Option CE) (x : Str) (args : List Expr) : Option CE := match args with
  | [.Call (.Name y _) [a] [] _] => if (x = ("list" : Str) ∧ y = ("range" : Str)) ∧ C.glb y = true ∧ C.fns.lookup y = none ∧ noStar a = true then (r a).map .lr1 else none
  | [.Call (.Name y _) [a, b] [] _] => if (x = ("list" : Str) ∧ y = ("range" : Str)) ∧ C.glb y = true ∧ C.fns.lookup y = none ∧ noStars [a, b] = true then (r a).bind fun c => (r b).map fun d => .lr2 c d
    else if (x = ("list" : Str) ∧ y = ("zip" : Str)) ∧ C.glb y = true ∧ C.fns.lookup y = none ∧ noStars [a, b] = true then (r a).bind fun c => (r b).map fun d => .lzp c d else none
  | _ => none
def miN : Mi → Str
  | .join => "join" | .zfill => "zfill" | .index => "index"
def cMth (r : Expr → Option CE) (o : Expr) (nm : Str) (apos : Pos) (args : List Expr) (cpos : Pos) : Option CE := match args with
  | [] => none
  | a :: as => if noCall o = true ∧ (apos.endLine == cpos.line) = true ∧ (a :: as).length < 30 then
      ([Mi.join, .zfill, .index].find? fun m => decide (miN m = nm)).bind fun m => (r o).bind fun x => (cL r (a :: as)).map (.mth m x) else none
/-- gcd(a, b) -/
def cGcd (C : Cc) (r : Expr → Option CE) (x : Str) (args : List Expr) : Option CE := match args with
  | [a, b] => if x = ("gcd" : Str) ∧ (C.gvs.lookup ("gcd" : Str)).isSome = true ∧ noStars [a, b] = true then (r a).bind fun c => (r b).map fun d => .gcd c d else none
  | _ => none
def cCall (C : Cc) (r : Expr → Option CE) (f : Expr) (args : List Expr) (kws : List Keyword) (pos : Pos) : Option CE := match f with
  | .Name x _ => if C.glb x = true then (match C.fns.lookup x with
      | some fi => (match kws, cCfo C r x fi args with
        | [], some c => some c
        | kws, _ => cDef C r x fi args kws)
      | none => if bltN x = true then (match kws with
          | [] => if x = ("isinstance" : Str) then cIsi C r args else (match cLr C r x args with
            | some c => some c
            | none => (match cRpo C x args with
              | some c => some c
              | none => (match cSrs C r x args with
                | some c => some c
                | none => cBlt r x args)))
          | kws => cMnd r x args kws) else (match kws with
          | [] => cGcd C r x args
          | _ => none)) else none
  | .Attribute o nm apos => (match kws with
      | [] => cMth r o nm apos args pos
      | _ => none)
  | _ => none
section
variable {C : Cc} {P P' : Pm} {X : Cx} {r : Expr → Option CE}
theorem kwE {env : PySem.Env} {pos : Pos} : ∀ {kws : List Keyword}, kws.all (·.arg.isSome) = true → (backToKw pos (keywordEach kws env)).all (·.1.isSome) = true ∧ (backToKw pos (keywordEach kws env)).filterMap (·.1) = kws.filterMap (·.arg) ∧ (backToKw pos (keywordEach kws env)).any (·.1.isNone) = false ∧ (kws.filterMap (·.arg)).length = kws.length
  | [], _ => ⟨rfl, rfl, rfl, rfl⟩
  | ⟨nm, v, p⟩ :: kws, h => by
    rw [List.all_cons, Bool.and_eq_true] at h
    obtain ⟨h1, h2⟩ := h
    obtain ⟨q1, q2, q3, q4⟩ := kwE (env := env) (pos := pos) h2
    cases nm with
    | none => cases h1
    | some nm =>
      refine ⟨?_, ?_, ?_, ?_⟩
      · show (true && (backToKw pos (keywordEach kws env)).all (·.1.isSome)) = true
        rw [q1]; rfl
      · show nm :: (backToKw pos (keywordEach kws env)).filterMap (·.1) = nm :: kws.filterMap (·.arg)
        rw [q2]
      · show (false || (backToKw pos (keywordEach kws env)).any (·.1.isNone)) = false
        rw [q3]; rfl
      · show (nm :: kws.filterMap (·.arg)).length = _
        rw [List.length_cons, List.length_cons, q4]
theorem cL_get : ∀ {es : List Expr} {cs : List CE} {i : Nat} {e : Expr} {c : CE}, cL r es = some cs → es[i]? = some e → cs[i]? = some c → r e = some c
  | [], cs, i, e, c, h, h1, h2 => by simp at h1
  | e0 :: es, cs, i, e, c, h, h1, h2 => by
    unfold cL at h
    split at h
    · obtain ⟨c0, q1, q2⟩ := bind_some h
      obtain ⟨cs', q3, q4⟩ := bind_some q2
      cases q4
      cases i with
      | zero =>
        simp only [List.getElem?_cons_zero, Option.some.injEq] at h1 h2
        rw [← h1, ← h2]; exact q1
      | succ i =>
        simp only [List.getElem?_cons_succ] at h1 h2
        exact cL_get q3 h1 h2
    · cases h
theorem find_dec {α : Type} {l : List α} {f : α → Str} {y : Str} {a : α} (h : l.find? (fun z => decide (f z = y)) = some a) : f a = y := by
  have := List.find?_some h
  simpa using this
theorem bltN_bi (f : Bi) : bltN (biN f) = true := by cases f <;> decide +kernel
theorem boot_bi (f : Bi) : bootBuiltins (biN f) = some (biV f) := by cases f <;> decide +kernel
theorem plain_bi (f : Bi) : biN f ≠ ("__name__" : Str) ∧ (biN f == ("__debug__" : Str)) = false := by cases f <;> exact ⟨by decide, by decide⟩
theorem boot_isi : bootBuiltins "isinstance" = some (.builtin "isinstance") := by decide +kernel
theorem boot_ty {t : String} (h : t ∈ tyL) : bootBuiltins (Str.ofString t) = some (.type t) ∧ Str.ofString t ≠ ("__name__" : Str) ∧ (Str.ofString t == ("__debug__" : Str)) = false := by
  unfold tyL at h
  simp only [List.mem_cons, List.mem_nil_iff, or_false] at h
  rcases h with rfl | rfl | rfl | rfl | rfl <;> exact ⟨by decide +kernel, by decide, by decide⟩
variable (hr : ∀ e c, r e = some c → PE X e (T P c))
include hr
theorem def_ok (O : Ok C P X) {x : Str} {fi : Fi} {p pos : Pos} {args : List Expr} {kws : List Keyword} {c : CE} (hg : C.glb x = true) (hf : C.fns.lookup x = some fi) (h : cDef C r x fi args kws = some c) : PE X (.Call (.Name x p) args kws pos) (T P c) ∧ PE X (.Call (.Name x p) args kws pos) (TOwn P (evOwn P.cal P.b0 c)) := by
  have ca : ∀ {perm : List Nat} {cs : List CE}, PE X (.Call (.Name x p) args kws pos) (TCa P x perm cs) → PE X (.Call (.Name x p) args kws pos) (T P (.call x perm cs)) ∧ PE X (.Call (.Name x p) args kws pos) (TOwn P (evOwn P.cal P.b0 (.call x perm cs))) := fun q => ⟨PEw q fun _ _ _ => tca_T, PEw q fun _ _ _ => tca_O⟩
  have ci : ∀ {i : Nat} {cs : List CE}, PE X (.Call (.Name x p) args kws pos) (TCi P x i cs) → PE X (.Call (.Name x p) args kws pos) (T P (.cio x i cs)) ∧ PE X (.Call (.Name x p) args kws pos) (TOwn P (evOwn P.cal P.b0 (.cio x i cs))) := fun q => ⟨PEw q fun _ _ _ => tci_T, PEw q fun _ _ _ => tci_O⟩
  obtain ⟨g1, g2, g3⟩ := glb_ok O hg
  obtain ⟨a, fd, k, rm, q1, q2, q3, q4, q5⟩ := O.fns x fi hf
  unfold cDef at h
  split at h
  · split at h
    · split at h
      · rename_i hc
        cases h
        obtain ⟨c1, c2⟩ := hc
        rw [c1, c2] at q3
        rw [c2] at q4
        exact ca (t_call0 q3 rm O.gd O.tk g1 q1 q2 q4 g2)
      · cases h
    · split at h
      · rename_i hio
        split at h
        · obtain ⟨i, h1, h2⟩ := bind_some h
          split at h2
          · rename_i hl
            obtain ⟨cs, h3, rfl⟩ := map_some h2
            rw [hio] at q3
            obtain ⟨s1, s2, s3, s4⟩ := slot_ok O h1
            have hs := cL_stars h3
            exact ci (t_cio (es := _) q3 rm O.gd O.tk g1 q1 q2 q4 s1 s2 s3 s4 (cL_ok hr h3) (by rw [cL_len h3]; exact hl) (fun ρ ds ρ' e => evA_len e) g2 (star1 rfl) (starsT hs).1)
          · cases h2
        · cases h
      · rename_i hio
        split at h
        · rename_i hl
          obtain ⟨cs, h3, rfl⟩ := map_some h
          have hio' : fi.io = false := by cases hq : fi.io with
            | false => rfl
            | true => exact absurd hq hio
          rw [hio'] at q3
          have hs := cL_stars h3
          unfold noStars at hs
          rw [List.all_cons, Bool.and_eq_true] at hs
          exact ca (t_call O.K O.mg q3 rm O.gd O.tk g1 q1 q2 q4 (cL_ok hr h3) (by rw [cL_len h3, List.length_cons]; exact hl) (fun ρ ds ρ' e => evA_len e) g2 (star1 hs.1) (starsT hs.2).1)
        · cases h
  · split at h
    · split at h
      · rename_i hc
        obtain ⟨c1, c2⟩ := hc
        obtain ⟨perm, h1, h2⟩ := bind_some h
        split at h2
        · rename_i hl
          obtain ⟨cs, h3, rfl⟩ := map_some h2
          rw [c1] at q3
          obtain ⟨k1, k2, k3, k4⟩ := kwE (env := X.env) (pos := pos) c2
          have hlen := cL_len h3
          rw [List.length_map] at hlen
          refine ca (t_callK q3 rm O.gd O.tk g1 q1 q2 (q5 _ _ h1) (t_pk hlen.symm fun i kw c e1 e2 => ?_) hl (by rw [hlen, k4]) (fun ρ ds ρ' e => evA_len e) g2 k1 k2 (by rw [k3]; rfl) (by rw [k4]))
          exact hr _ _ (cL_get h3 (by rw [List.getElem?_map, e1]; rfl) e2)
        · cases h2
      · cases h
    · cases h
theorem blt_ok (O : Ok C P X) {x : Str} {p pos : Pos} {args : List Expr} {c : CE} (hg : C.glb x = true) (h : cBlt r x args = some c) : PE X (.Call (.Name x p) args [] pos) (T P c) := by
  obtain ⟨g1, g2, g3⟩ := glb_ok O hg
  unfold cBlt at h
  obtain ⟨f, h1, h2⟩ := bind_some h
  have e : biN f = x := find_dec h1
  subst e
  have hm := O.bl _ (bltN_bi f)
  cases args with
  | nil => cases h2
  | cons a as =>
    obtain ⟨cs, h3, rfl⟩ := map_some h2
    have hs := cL_stars h3
    unfold noStars at hs
    rw [List.all_cons, Bool.and_eq_true] at hs
    have ha := cL_ok hr h3
    have s1 := star1 (es := as) (env := X.env) hs.1
    have s2 := (starsT (env := X.env) (pos := pos) hs.2).1
    cases f with
    | abs => exact t_bltB O.K cb_abs g1 hm (boot_bi .abs) ha (plain_bi _).1 (plain_bi _).2 s1 s2
    | max => exact t_bltB O.K (cb_max O.calm) g1 hm (boot_bi .max) ha (plain_bi _).1 (plain_bi _).2 s1 s2
    | min => exact t_bltB O.K (cb_min O.calm) g1 hm (boot_bi .min) ha (plain_bi _).1 (plain_bi _).2 s1 s2
    | int => exact t_bltT O.K cb_int g1 hm (boot_bi .int) ha (plain_bi _).1 (plain_bi _).2 s1 s2
    | len => exact t_bltB O.K cb_len g1 hm (boot_bi .len) ha (plain_bi _).1 (plain_bi _).2 s1 s2
    | str => exact t_bltT O.K cb_str g1 hm (boot_bi .str) ha (plain_bi _).1 (plain_bi _).2 s1 s2
    | list => exact t_bltT O.K (cb_list O.calm) g1 hm (boot_bi .list) ha (plain_bi _).1 (plain_bi _).2 s1 s2
    | tuple => exact t_bltT O.K cb_tuple g1 hm (boot_bi .tuple) ha (plain_bi _).1 (plain_bi _).2 s1 s2
    | divmod => exact t_bltB O.K cb_divmod g1 hm (boot_bi .divmod) ha (plain_bi _).1 (plain_bi _).2 s1 s2
    | sum => exact t_bltB O.K (cb_sum O.calm) g1 hm (boot_bi .sum) ha (plain_bi _).1 (plain_bi _).2 s1 s2
    | all => exact t_bltB O.K (cb_all O.calm) g1 hm (boot_bi .all) ha (plain_bi _).1 (plain_bi _).2 s1 s2
    | repr => exact t_bltB O.K (cb_repr O.gd O.un) g1 hm (boot_bi .repr) ha (plain_bi _).1 (plain_bi _).2 s1 s2
    | sorted => exact t_bltB O.K cb_sorted g1 hm (boot_bi .sorted) ha (plain_bi _).1 (plain_bi _).2 s1 s2
    | any => exact t_bltB O.K (cb_any O.calm) g1 hm (boot_bi .any) ha (plain_bi _).1 (plain_bi _).2 s1 s2
theorem srs_ok (O : Ok C P X) {x : Str} {p pos : Pos} {args : List Expr} {c : CE} (hg : C.glb x = true) (h : cSrs C r x args = some c) : PE X (.Call (.Name x p) args [] pos) (T P c) := by
  obtain ⟨g1, g2, g3⟩ := glb_ok O hg
  unfold cSrs at h
  split at h
  · split at h
    · rename_i hc
      obtain ⟨⟨rfl, rfl⟩, c2, c3, c4⟩ := hc
      obtain ⟨a', h1, rfl⟩ := map_some h
      exact t_srs O.K O.calm g1 (O.bl _ (by decide +kernel)) (glb_ok O c2).1 (O.bl _ (by decide +kernel)) (hr _ _ h1) (star1 c4)
    · cases h
  · cases h
theorem mnd_ok (O : Ok C P X) {x : Str} {p pos : Pos} {args : List Expr} {kws : List Keyword} {c : CE} (hg : C.glb x = true) (h : cMnd r x args kws = some c) : PE X (.Call (.Name x p) args kws pos) (T P c) := by
  obtain ⟨g1, g2, g3⟩ := glb_ok O hg
  unfold cMnd at h
  split at h
  · split at h
    · rename_i hc
      obtain ⟨⟨rfl, rfl⟩, c3⟩ := hc
      obtain ⟨a', h1, h2⟩ := bind_some h
      obtain ⟨b', h3, rfl⟩ := map_some h2
      exact t_mnd O.K O.calm g1 (O.bl _ (by decide +kernel)) (hr _ _ h1) (hr _ _ h3) (star1 c3)
    · cases h
  · cases h
theorem rpo_ok (O : Ok C P X) {x : Str} {p pos : Pos} {args : List Expr} {c : CE} (hg : C.glb x = true) (h : cRpo C x args = some c) : PE X (.Call (.Name x p) args [] pos) (T P c) := by
  obtain ⟨g1, g2, g3⟩ := glb_ok O hg
  unfold cRpo at h
  split at h
  · rename_i e
    subst e
    have hm := O.bl _ (bltN_bi .repr)
    split at h
    · obtain ⟨i, hi, rfl⟩ := map_some h
      obtain ⟨q1, q2, q3, q4⟩ := slot_ok O hi
      exact t_rpo i O.K (cb_repr O.gd O.un) g1 hm (boot_bi .repr) q1 q2 q3 q4 (plain_bi _).1 (plain_bi _).2 (star1 rfl)
    · cases h
  · cases h
theorem lr_ok (O : Ok C P X) {x : Str} {p pos : Pos} {args : List Expr} {c : CE} (hg : C.glb x = true) (h : cLr C r x args = some c) : PE X (.Call (.Name x p) args [] pos) (T P c) := by
  obtain ⟨g1, g2, g3⟩ := glb_ok O hg
  unfold cLr at h
  split at h
  · split at h
    · rename_i hc
      obtain ⟨⟨rfl, rfl⟩, c2, c3, c4⟩ := hc
      obtain ⟨a', h1, rfl⟩ := map_some h
      exact t_lr1 O.calm g1 (O.bl _ (by decide +kernel)) (glb_ok O c2).1 (O.bl _ (by decide +kernel)) (hr _ _ h1) (star1 c4)
    · cases h
  · split at h
    · rename_i hc
      obtain ⟨⟨rfl, rfl⟩, c2, c3, c4⟩ := hc
      obtain ⟨a', h1, h2⟩ := bind_some h
      obtain ⟨b', h3, rfl⟩ := map_some h2
      unfold noStars at c4
      simp only [List.all_cons, List.all_nil, Bool.and_true, Bool.and_eq_true] at c4
      exact t_lr2 O.calm g1 (O.bl _ (by decide +kernel)) (glb_ok O c2).1 (O.bl _ (by decide +kernel)) (hr _ _ h1) (hr _ _ h3) (star1 c4.1) (star1 c4.2) (starsT (show noStars [_] = true by unfold noStars; simp [c4.2])).1
    · split at h
      · rename_i hc
        obtain ⟨⟨rfl, rfl⟩, c2, c3, c4⟩ := hc
        obtain ⟨a', h1, h2⟩ := bind_some h
        obtain ⟨b', h3, rfl⟩ := map_some h2
        unfold noStars at c4
        simp only [List.all_cons, List.all_nil, Bool.and_true, Bool.and_eq_true] at c4
        exact t_lzp O.K O.calm g1 (O.bl _ (by decide +kernel)) (glb_ok O c2).1 (O.bl _ (by decide +kernel)) (hr _ _ h1) (hr _ _ h3) (star1 c4.1) (star1 c4.2) (starsT (show noStars [_] = true by unfold noStars; simp [c4.2])).1
      · cases h
  · cases h
theorem isi_ok (O : Ok C P X) {x : Str} {p pos : Pos} {args : List Expr} {c : CE} (hg : C.glb x = true) (hx : x = ("isinstance" : Str)) (hb : bltN x = true) (h : cIsi C r args = some c) : PE X (.Call (.Name x p) args [] pos) (T P c) := by
  obtain ⟨g1, g2, g3⟩ := glb_ok O hg
  unfold cIsi at h
  split at h
  · split at h
    · rename_i hc
      obtain ⟨c1, c2, c3⟩ := hc
      obtain ⟨t, h1, h2⟩ := bind_some h
      split at h2
      · rename_i hs
        obtain ⟨y, h3, rfl⟩ := map_some h2
        have e := find_dec (f := Str.ofString) h1
        subst e
        obtain ⟨k1, k2, k3⟩ := boot_ty (List.mem_of_find?_eq_some h1)
        obtain ⟨w1, w2, w3⟩ := glb_ok O c1
        subst hx
        exact t_isi O.K g1 (O.bl _ hb) boot_isi w1 (O.bl _ c3) k1 (hr _ _ h3) g3 g2 w3 w2 (star1 hs)
      · cases h2
    · cases h
  · cases h
theorem mth_ok (O : Ok C P X) {o : Expr} {nm : Str} {apos cpos : Pos} {args : List Expr} {c : CE} (h : cMth r o nm apos args cpos = some c) : PE X (.Call (.Attribute o nm apos) args [] cpos) (T P c) := by
  unfold cMth at h
  split at h
  · cases h
  · rename_i a as
    split at h
    · rename_i hc
      obtain ⟨c1, c2, c3⟩ := hc
      obtain ⟨m, h1, h2⟩ := bind_some h
      obtain ⟨x, h3, h4⟩ := bind_some h2
      obtain ⟨cs, h5, rfl⟩ := map_some h4
      have e : miN m = nm := find_dec h1
      subst e
      have hs0 := cL_stars h5
      have hs := hs0
      unfold noStars at hs
      rw [List.all_cons, Bool.and_eq_true] at hs
      have hfew : ((backTo cpos (starEach (a :: as) X.env)).all (fun x => !x.1) && (backToKw cpos (keywordEach [] X.env)).all (fun x => x.1.isSome) && decide ((a :: as).length + ([] : List Keyword).length + (if ([] : List Keyword).isEmpty then 0 else 1) < 30)) = true := by
        rw [(starsT hs0).2]
        exact (decide_eq_true (by simpa using c3))
      have ha := cL_ok hr h5
      have s1 := star1 (es := as) (env := X.env) hs.1
      have s2 := (starsT (env := X.env) (pos := cpos) hs.2).1
      cases m with
      | join => exact t_mthS O.K (fun x hx => by cases x <;> first | exact ⟨_, rfl⟩ | cases hx) F.slot_str_join F.type_str_join mt_joinD (hr _ _ h3) ha (noCall_ok c1) hfew c2 s1 s2
      | zfill => exact t_mthS O.K (fun x hx => by cases x <;> first | exact ⟨_, rfl⟩ | cases hx) F.slot_str_zfill F.type_str_zfill mt_zfillD (hr _ _ h3) ha (noCall_ok c1) hfew c2 s1 s2
      | index => exact t_mthL O.K (fun x hx => by cases x <;> first | exact ⟨_, rfl⟩ | cases hx) F.slot_list_index F.type_list_index (mt_indexA O.un) (hr _ _ h3) ha (noCall_ok c1) hfew c2 s1 s2
    · cases h
theorem gcd_ok (O : Ok C P X) {x : Str} {p pos : Pos} {args : List Expr} {c : CE} (hg : C.glb x = true) (h : cGcd C r x args = some c) : PE X (.Call (.Name x p) args [] pos) (T P c) := by
  obtain ⟨g1, g2, g3⟩ := glb_ok O hg
  unfold cGcd at h
  split at h
  · split at h
    · rename_i hc
      obtain ⟨rfl, c2, c3⟩ := hc
      obtain ⟨a', h1, h2⟩ := bind_some h
      obtain ⟨b', h3, rfl⟩ := map_some h2
      unfold noStars at c3
      simp only [List.all_cons, List.all_nil, Bool.and_true, Bool.and_eq_true] at c3
      exact t_gcd g1 (O.gc (fun z => by rw [z] at c2; cases c2)) (hr _ _ h1) (hr _ _ h3) (star1 c3.1) (star1 c3.2) (starsT (show noStars [_] = true by unfold noStars; simp [c3.2])).1
    · cases h
  · cases h
theorem cfo_ok (hrS : ∀ P', SameW P P' → ∀ e c, r e = some c → PE X e (T P' c)) (O : Ok C P X) {x : Str} {fi : Fi} {p pos : Pos} {args : List Expr} {c : CE} (hg : C.glb x = true) (hf : C.fns.lookup x = some fi) (h : cCfo C r x fi args = some c) : PE X (.Call (.Name x p) args [] pos) (T P c) := by
  obtain ⟨g1, g2, g3⟩ := glb_ok O hg
  obtain ⟨a, fd, k, rm, q1, q2, q3, q4, q5⟩ := O.fns x fi hf
  unfold cCfo at h
  split at h
  · split at h
    · rename_i hc
      obtain ⟨c1, c2, c3⟩ := hc
      obtain ⟨gi, h1, h2⟩ := bind_some h
      obtain ⟨c0, h3, h4⟩ := bind_some h2
      split at h4
      · obtain ⟨ca, h5, rfl⟩ := map_some h4
        rw [c1] at q3
        have hs := cL_stars h5
        exact t_cfo q3 rm O.gd O.tk g1 q1 q2 q4 (def_ok hr O c2 h1 h3).2 (fun P' sw => cL_ok (hrS P' sw) h5) (by rw [cL_len h5]; exact c3) (fun ρ ds ρ' e => evA_len e) g2 (star1 rfl) (starsT hs).1
      · cases h4
    · cases h
  · cases h
theorem call_ok (hrS : ∀ P', SameW P P' → ∀ e c, r e = some c → PE X e (T P' c)) (O : Ok C P X) {f : Expr} {args : List Expr} {kws : List Keyword} {pos : Pos} {c : CE} (h : cCall C r f args kws pos = some c) : PE X (.Call f args kws pos) (T P c) := by
  unfold cCall at h
  split at h
  · split at h
    · rename_i hg
      split at h
      · rename_i fi hf
        split at h
        · rename_i c' hc'
          cases h
          exact cfo_ok hr hrS O hg hf hc'
        · exact (def_ok hr O hg hf h).1
      · split at h
        · rename_i hb
          split at h
          · split at h
            · rename_i hx
              exact isi_ok hr O hg hx hb h
            · split at h
              · rename_i c' hc'
                cases h
                exact lr_ok hr O hg hc'
              · split at h
                · rename_i c' hc'
                  cases h
                  exact rpo_ok hr O hg hc'
                · split at h
                  · rename_i c' hc'
                    cases h
                    exact srs_ok hr O hg hc'
                  · exact blt_ok hr O hg h
          · exact mnd_ok hr O hg h
        · split at h
          · exact gcd_ok hr O hg h
          · cases h
    · cases h
  · split at h
    · exact mth_ok hr O h
    · cases h
  · cases h
end
end Ev


set_option Elab.async false
set_option linter.all false
set_option maxRecDepth 100000
set_option maxHeartbeats 2000000
namespace Ev
open PySem PySem.Spec PyProof.Rows L2

def cNm (C : Cc) : List Expr → Option (List Nat)
  | [] => some []
  | .Name x _ :: es => (C.stor x).bind fun i => (cNm C es).map (i :: ·)
  | _ => none
def cTg (C : Cc) (tg : Expr) : Option (List Nat × Bool) := match tg with
  | .Name x _ => (C.stor x).map fun i => ([i], true)
  | .Tuple [.Name x _, .Tuple es _ _] _ _ => (C.stor x).bind fun i => (cNm C es).bind fun js => match js with
    | j :: js => some (i :: j :: js, true)
    | [] => none
  | .Tuple es _ _ => (cNm C es).map fun is => (is, false)
  | _ => none
def isTup : Expr → Bool
  | .Tuple .. => true
  | _ => false
def cAny (r : Expr → Option CE) (it : Expr) : Option (Nat × List CE) := (r it).map fun c => (9, [c])
def cIter (C : Cc) (r : Expr → Option CE) (tg it : Expr) : Option (Nat × List CE) := match it with
  | .Call (.Name x _) args [] _ => if C.glb x = true ∧ C.fns.lookup x = none ∧ bltN x = true then
      (if x = ("range" : Str) then (match args with
        | [a] => (cL r [a]).map fun cs => (1, cs)
        | [a, b] => (cL r [a, b]).map fun cs => (1, cs)
        | _ => none)
      else if x = ("enumerate" : Str) then (match args with
        | [a] => if isTup tg = true ∧ noStar a = true then (r a).map fun c => (10, [c]) else none
        | _ => none)
      else if x = ("zip" : Str) then (match args with
        | [a, b] => if isTup tg = true ∧ noStar a = true ∧ noStar b = true then (r a).bind fun c => (r b).map fun d => (3, [c, d]) else none
        | _ => none)
      else if x = ("reversed" : Str) then (match args with
        | [a] => if noStar a = true then (r a).map fun c => (12, [c]) else none
        | _ => none)
      else cAny r it) else cAny r it
  | _ => cAny r it
structure Kc where
  kind : Nat
  its : List CE
  tgs : List Nat
  one : Bool
  own : List (Str × Nat)
  cnd : Option CE
  elt : CE
def Kc.ce (k : Kc) : CE := .comp k.kind k.its k.tgs k.one (k.own.map (·.2)) k.cnd k.elt
def cIf (rb : Expr → Option CE) (nf : Expr → Bool) (ifs : List Expr) : Option (Option CE) := match ifs with
  | [] => some none
  | [e] => if nf e = true then (rb e).map some else none
  | _ => none
def ownOf (N : List Str) (scope : Scope) : List (Str × Nat) := scope.names.filterMap fun y => match y.2 with
  | .local => (idx N y.1).map fun i => (y.1, i)
  | .cell => (idx N y.1).map fun i => (y.1, i)
  | _ => none
def cComp (C : Cc) (r rb : Expr → Option CE) (nf : Expr → Bool) (elt : Expr) (gens : List Comprehension) (scope : Scope) : Option Kc := match gens with
  | [⟨tg, it, ifs, a⟩] => if a = 0 ∧ noSet it = true ∧ blkC C.N C.sc scope (ownOf C.N scope) = true then
      (cIter C r tg it).bind fun ki => (cTg (C.blk scope) tg).bind fun t => (cIf rb nf ifs).bind fun cnd => (rb elt).map fun e => ⟨ki.1, ki.2, t.1, t.2, ownOf C.N scope, cnd, e⟩
    else none
  | _ => none
def cComp2 (C : Cc) (r rb : Expr → Option CE) (nf : Expr → Bool) (elt : Expr) (gens : List Comprehension) (scope : Scope) : Option CE := match gens with
  | [⟨tg, it, ifs, a⟩, ⟨tg2, it2, ifs2, a2⟩] => if (a = 0 ∧ a2 = 0) ∧ (noSet it = true ∧ noSet it2 = true) ∧ blkC C.N C.sc scope (ownOf C.N scope) = true then
      (cIter C r tg it).bind fun ki => (cTg (C.blk scope) tg).bind fun t => (cIf rb nf ifs).bind fun cnd => (cIter (C.blk scope) rb tg2 it2).bind fun kj => (cTg (C.blk scope) tg2).bind fun t2 => (cIf rb nf ifs2).bind fun cnd2 =>
        if t2.1.all ((ownOf C.N scope).map (·.2)).contains = true then (rb elt).map fun e => .cmp2 ki.1 ki.2 t.1 t.2 ((ownOf C.N scope).map (·.2)) cnd kj.1 kj.2 t2.1 t2.2 cnd2 e else none
    else none
  | _ => none
def noIf : Nat → Expr → Bool
  | 0, _ => false
  | n + 1, e => match e with
    | .UnaryOp .Not x _ => noIf n x
    | .BoolOp _ vs _ => vs.all (noIf n)
    | .IfExp .. => false
    | _ => true
def neqOf (C : Cc) (a : Expr) (ops : List CmpOp) (bs : List Expr) : Option Nat := match a, ops, bs with
  | .Name x _, [.NotEq], [.List [] p] => if behindInMarks .NotEq (.List [] p) = false then C.slot x else none
  | _, _, _ => none
def cNeq (C : Cc) (o : Option CE) (a : Expr) (ops : List CmpOp) (bs : List Expr) : Option CE := match neqOf C a ops bs with
  | some i => some (.neq i)
  | none => o
theorem neq_ok {C : Cc} {P : Pm} {X : Cx} {r : Expr → Option CE} (hr : ∀ e c, r e = some c → PE X e (T P c)) (O : Ok C P X) {a : Expr} {ops : List CmpOp} {bs : List Expr} {pos : Pos} {c : CE} (h : cNeq C (cCmp r a ops bs) a ops bs = some c) : PE X (.Compare a ops bs pos) (T P c) ∧ PT X (.Compare a ops bs pos) (TT' P c) := by
  unfold cNeq at h
  split at h
  · rename_i i hi
    cases h
    unfold neqOf at hi
    split at hi
    · split at hi
      · rename_i hm
        obtain ⟨q1, q2, q3, q4⟩ := slot_ok O hi
        exact ⟨t_neq i O.K O.un q1 q2 q3 q4 hm (t_lst ta_nil), tt_neq i O.K O.un q1 q2 q3 q4 hm (t_lst ta_nil)⟩
      · cases hi
    · cases hi
  · exact cmp_ok hr O h
def cE (C : Cc) : Nat → Expr → Option CE
  | 0, _ => none
  | n + 1, e => match e with
    | .Name x _ => cName C x
    | .Constant c _ _ => (cstD c).map .cst
    | .BinOp a op b _ => (cE C n a).bind fun x => (cE C n b).map fun y => .bin op x y
    | .UnaryOp op a _ => cUn op (cE C n a)
    | .Compare a ops bs _ => cNeq C (cCmp (cE C n) a ops bs) a ops bs
    | .BoolOp op vs _ => cBool (cE C n) op vs
    | .IfExp c a b _ => if noIf n c = true then (cE C n c).bind fun x => (cE C n a).bind fun y => (cE C n b).map fun z => .ite x y z else none
    | .Tuple es _ _ => (cL (cE C n) es).map .tup
    | .List es _ => (cL (cE C n) es).map .lst
    | .Subscript a b _ => cSub C (cE C n) a b
    | .ListComp elt gens scope _ => (match cComp C (cE C n) (cE (C.blk scope) n) (noIf n) elt gens scope with
      | some k => some k.ce
      | none => cComp2 C (cE C n) (cE (C.blk scope) n) (noIf n) elt gens scope)
    | .Call f args kws pos => cCall C (cE C n) f args kws pos
    | .Dict [] [] _ => some .dct
    | _ => none
section
variable {C : Cc} {P P' : Pm} {X : Cx}
theorem nm_ok (O : Ok C P X) : ∀ {es : List Expr} {is : List Nat}, cNm C es = some is → NmOk X es is
  | [], is, h => by cases h; trivial
  | e :: es, is, h => by
    cases e with
    | Name x p =>
      unfold cNm at h
      obtain ⟨i, h1, h2⟩ := bind_some h
      obtain ⟨is', h3, rfl⟩ := map_some h2
      exact ⟨stor_ok O h1, nm_ok O h3⟩
    | _ => cases h
theorem tg_ok (O : Ok C P X) {tg : Expr} {t : List Nat × Bool} (h : cTg C tg = some t) : PG X tg (TTg P t.1 t.2) := by
  unfold cTg at h
  split at h
  · obtain ⟨i, h1, rfl⟩ := map_some h
    obtain ⟨q1, q2, q3⟩ := stor_ok O h1
    exact tg_one O.nd q1 q2 q3
  · obtain ⟨i, h1, h⟩ := bind_some h
    obtain ⟨js, h2, h⟩ := bind_some h
    obtain ⟨q1, q2, q3⟩ := stor_ok O h1
    cases js with
    | nil => cases h
    | cons j js =>
      cases h
      exact tg_nest O.K O.calm O.nd q1 q2 q3 (nm_ok O h2)
  · obtain ⟨is, h1, rfl⟩ := map_some h
    exact tg_many O.K O.calm O.nd (nm_ok O h1)
  · cases h
theorem isTup_ok {tg : Expr} (h : isTup tg = true) : ∃ es k p, tg = .Tuple es k p := by
  cases tg <;> first | exact ⟨_, _, _, rfl⟩ | cases h
theorem iter_ok (O : Ok C P X) {r : Expr → Option CE} (hr : ∀ e c, r e = some c → PE X e (T P c)) {tg it : Expr} {k : Nat × List CE} (h : cIter C r tg it = some k) : PI X tg it (TIt P k.1 k.2) := by
  have any : cAny r it = some k → PI X tg it (TIt P k.1 k.2) := fun h => by
    obtain ⟨c, h1, rfl⟩ := map_some h
    exact ti_any O.K (hr _ _ h1)
  unfold cIter at h
  split at h
  · split at h
    · rename_i hc
      obtain ⟨c1, c2, c3⟩ := hc
      obtain ⟨g1, g2, g3⟩ := glb_ok O c1
      have hm := O.bl _ c3
      split at h
      · rename_i hx
        subst hx
        split at h
        · obtain ⟨cs, h1, rfl⟩ := map_some h
          have hs := cL_stars h1
          unfold noStars at hs
          simp only [List.all_cons, List.all_nil, Bool.and_true] at hs
          exact ti_rng1 g1 hm (cL_ok hr h1) (star1 hs) (cL_len h1) fun ρ ds ρ' e => evA_len e
        · obtain ⟨cs, h1, rfl⟩ := map_some h
          have hs := cL_stars h1
          unfold noStars at hs
          simp only [List.all_cons, List.all_nil, Bool.and_true, Bool.and_eq_true] at hs
          exact ti_rng2 g1 hm (cL_ok hr h1) (by rw [star1 hs.1, star1 hs.2]; rfl) (star1 hs.2) (cL_len h1) fun ρ ds ρ' e => evA_len e
        · cases h
      · split at h
        · rename_i hx
          subst hx
          split at h
          · split at h
            · rename_i hq
              obtain ⟨q1, q2⟩ := hq
              obtain ⟨c, h1, rfl⟩ := map_some h
              obtain ⟨es, kk, p, rfl⟩ := isTup_ok q1
              exact ti_enA O.K g1 hm (hr _ _ h1) (star1 q2)
            · cases h
          · cases h
        · split at h
          · rename_i hx
            subst hx
            split at h
            · split at h
              · rename_i hq
                obtain ⟨q1, q2, q3⟩ := hq
                obtain ⟨c, h1, h2⟩ := bind_some h
                obtain ⟨d, h3, rfl⟩ := map_some h2
                obtain ⟨es, kk, p, rfl⟩ := isTup_ok q1
                exact ti_zip O.K g1 hm (hr _ _ h1) (hr _ _ h3) (star1 q2) (star1 q3) (by rw [star1 q3]; rfl)
              · cases h
            · cases h
          · split at h
            · rename_i hx
              subst hx
              split at h
              · split at h
                · rename_i hq
                  obtain ⟨c, h1, rfl⟩ := map_some h
                  exact ti_rev O.K g1 hm (hr _ _ h1) (star1 hq)
                · cases h
              · cases h
            · exact any h
    · exact any h
  · exact any h
theorem pg_B {X' : Cx} {tg : Expr} {t : List Nat × Bool} (h : ∀ P', SameB P P' → PG X' tg (TTg P' t.1 t.2)) : PG X' tg (TBG P t.1 t.2) := ⟨fun pins s σ H v u Q I r ⟨P', sb, q⟩ => (h P' sb).run pins s σ H v u Q I r q⟩
theorem pe_B {X' : Cx} {e : Expr} {c : CE} (h : ∀ P', SameB P P' → PE X' e (T P' c)) : PE X' e (TB P c) := ⟨fun pins s σ H Q I ⟨P', sb, q⟩ => (h P' sb).run pins s σ H Q I q⟩
theorem pts_B0 {X' : Cx} : PTs X' [] (TBT P none) := ⟨fun pins s σ H Q I ⟨P', sb, ρ, G, fm, h⟩ => pts_nil.run pins s σ H Q I (by
  simp only [evC] at h
  exact h true G H (Same.refl G) fm rfl)⟩
theorem pts_B1 {X' : Cx} {e : Expr} {c : CE} (h : ∀ P', SameB P P' → PT X' e (TT' P' c)) : PTs X' [e] (TBT P (some c)) := ⟨fun pins s σ H Q I ⟨P', sb, ρ, G, fm, hq⟩ => (pts_one (h P' sb)).run pins s σ H Q I ⟨ρ, G, fm, by
  simp only [evC] at hq
  exact hq⟩⟩
/-- what a comprehension wants -/
structure CompOk (P : Pm) (X : Cx) (elt : Expr) (gens : List Comprehension) (scope : Scope) (k : Kc) (tg it : Expr) (ifs : List Expr) : Prop where
  gens : gens = [⟨tg, it, ifs, 0⟩]
  hi : PI X tg it (TIt P k.kind k.its)
  ok : BlkOk X.N X.env.scope scope k.own
  hg : ∀ (s : Shared) (H : Hp) (C : Addr) (cl : List (Str × Addr)) (fp : List Addr), PG (X.blk s H scope (compEnvC scope cl C X.env) fp) tg (TBG P k.tgs k.one)
  ht : ∀ (s : Shared) (H : Hp) (C : Addr) (cl : List (Str × Addr)) (fp : List Addr), PTs (X.blk s H scope (compEnvC scope cl C X.env) fp) ifs (TBT P k.cnd)
  he : ∀ (s : Shared) (H : Hp) (C : Addr) (cl : List (Str × Addr)) (fp : List Addr), PE (X.blk s H scope (compEnvC scope cl C X.env) fp) elt (TB P k.elt)
  hs : ∀ x, foldedSetIterable it X.env x = pure x
theorem comp_ok (O : Ok C P X) {r rb : Expr → Option CE} {nf : Expr → Bool} {elt : Expr} {gens : List Comprehension} {scope : Scope} {k : Kc} (hr : ∀ e c, r e = some c → PE X e (T P c))
    (hrb : ∀ P' X', Ok (C.blk scope) P' X' → (∀ e c, rb e = some c → PE X' e (T P' c)) ∧ (∀ e c, rb e = some c → nf e = true → PT X' e (TT' P' c))) (h : cComp C r rb nf elt gens scope = some k) : ∃ tg it ifs, CompOk P X elt gens scope k tg it ifs := by
  unfold cComp at h
  split at h
  · split at h
    · rename_i hc
      obtain ⟨c1, c2, c3⟩ := hc
      obtain ⟨ki, h1, h2⟩ := bind_some h
      obtain ⟨t, h3, h4⟩ := bind_some h2
      obtain ⟨cnd, h5, h6⟩ := bind_some h4
      obtain ⟨e, h7, rfl⟩ := map_some h6
      refine ⟨_, _, _, by rw [c1], iter_ok O hr h1, by rw [O.N, O.sc]; exact blkOk_by c3, fun s H cc cl fp => pg_B fun P' sb => tg_ok (O.blk sb) h3, fun s H cc cl fp => ?_, fun s H cc cl fp => pe_B fun P' sb => (hrb _ _ (O.blk sb)).1 _ _ h7, noSet_ok c2⟩
      unfold cIf at h5
      split at h5
      · cases h5; exact pts_B0
      · split at h5
        · rename_i hn
          obtain ⟨c, h8, rfl⟩ := map_some h5
          exact pts_B1 fun P' sb => (hrb _ _ (O.blk sb)).2 _ _ h8 hn
        · cases h5
      · cases h5
    · cases h
  · cases h
theorem pi_B {X' : Cx} {tg e : Expr} {k : Nat × List CE} (h : ∀ P', SameB P P' → PI X' tg e (TIt P' k.1 k.2)) : PI X' tg e (TBI P k.1 k.2) := ⟨fun pins s σ H Q I ⟨P', sb, q⟩ => (h P' sb).run pins s σ H Q I q⟩
theorem cif_ok (O : Ok C P X) {rb : Expr → Option CE} {nf : Expr → Bool} {scope : Scope} {ifs : List Expr} {cnd : Option CE} (hrb : ∀ P' X', Ok (C.blk scope) P' X' → (∀ e c, rb e = some c → PE X' e (T P' c)) ∧ (∀ e c, rb e = some c → nf e = true → PT X' e (TT' P' c))) (h : cIf rb nf ifs = some cnd)
    (s : Shared) (H : Hp) (cc : Addr) (cl : List (Str × Addr)) (fp : List Addr) : PTs (X.blk s H scope (compEnvC scope cl cc X.env) fp) ifs (TBT P cnd) := by
  unfold cIf at h
  split at h
  · cases h; exact pts_B0
  · split at h
    · rename_i hn
      obtain ⟨c, h8, rfl⟩ := map_some h
      exact pts_B1 fun P' sb => (hrb _ _ (O.blk sb)).2 _ _ h8 hn
    · cases h
  · cases h
theorem comp2_ok (O : Ok C P X) {r rb : Expr → Option CE} {nf : Expr → Bool} {elt : Expr} {gens : List Comprehension} {scope : Scope} {pos : Pos} {c : CE} (hr : ∀ e c, r e = some c → PE X e (T P c))
    (hrb : ∀ P' X', Ok (C.blk scope) P' X' → (∀ e c, rb e = some c → PE X' e (T P' c)) ∧ (∀ e c, rb e = some c → nf e = true → PT X' e (TT' P' c))) (h : cComp2 C r rb nf elt gens scope = some c) : PE X (.ListComp elt gens scope pos) (T P c) := by
  unfold cComp2 at h
  split at h
  · split at h
    · rename_i hc
      obtain ⟨⟨rfl, rfl⟩, ⟨c3, c4⟩, c5⟩ := hc
      obtain ⟨ki, h1, h⟩ := bind_some h
      obtain ⟨t, h2, h⟩ := bind_some h
      obtain ⟨cnd, h3, h⟩ := bind_some h
      obtain ⟨kj, h4, h⟩ := bind_some h
      obtain ⟨t2, h5, h⟩ := bind_some h
      obtain ⟨cnd2, h6, h⟩ := bind_some h
      split at h
      · rename_i hv
        obtain ⟨e, h7, rfl⟩ := map_some h
        exact t_cmp2 O.calm O.nd (iter_ok O hr h1) (by rw [O.N, O.sc]; exact blkOk_by c5) (fun i hi => by simpa using List.all_eq_true.mp hv i hi) (fun s H cc cl fp => pg_B fun P' sb => tg_ok (O.blk sb) h2) (cif_ok O hrb h3)
          (fun s H cc cl fp => pi_B fun P' sb => iter_ok (O.blk sb) (hrb _ _ (O.blk sb)).1 h4) (fun s H cc cl fp => pg_B fun P' sb => tg_ok (O.blk sb) h5) (cif_ok O hrb h6)
          (fun s H cc cl fp => pe_B fun P' sb => (hrb _ _ (O.blk sb)).1 _ _ h7) (noSet_ok c3) (fun env => noSet_ok c4)
      · cases h
    · cases h
  · cases h
theorem boolT_ok {r : Expr → Option CE} {nf : Expr → Bool} (hr : ∀ e c, r e = some c → nf e = true → PT X e (TT' P c)) {op : BoolOp} {pos : Pos} : ∀ {es : List Expr} {c : CE}, es.all nf = true → cBool r op es = some c → PW X (.BoolOp op es pos) (TT' P c)
  | [], c, _, h => by cases h
  | [a], c, hn, h => by
    simp only [List.all_cons, List.all_nil, Bool.and_true] at hn
    exact tw_one (hr _ _ h hn)
  | a :: b :: es, c, hn, h => by
    rw [List.all_cons, Bool.and_eq_true] at hn
    unfold cBool at h
    obtain ⟨x, h1, h2⟩ := bind_some h
    obtain ⟨y, h3, h4⟩ := map_some h2
    cases op with
    | And => cases h4; exact tw_and (hr _ _ h1 hn.1) (boolT_ok hr hn.2 h3)
    | Or => cases h4; exact tw_or (hr _ _ h1 hn.1) (boolT_ok hr hn.2 h3)
end
theorem cE_ok : ∀ (n : Nat) (C : Cc) (P : Pm) (X : Cx), Ok C P X → (∀ e c, cE C n e = some c → PE X e (T P c)) ∧ (∀ e c, cE C n e = some c → noIf n e = true → PT X e (TT' P c))
  | 0, C, P, X, O => ⟨fun e c h => (by cases h), fun e c h => (by cases h)⟩
  | n + 1, C, P, X, O => by
    obtain ⟨hr, hrT⟩ := cE_ok n C P X O
    have hE : ∀ e c, cE C (n + 1) e = some c → PE X e (T P c) := by
      intro e c h
      unfold cE at h
      split at h
      · exact name_ok O h
      · obtain ⟨d, h1, rfl⟩ := map_some h
        exact cst_ok h1
      · obtain ⟨x, h1, h2⟩ := bind_some h
        obtain ⟨y, h3, rfl⟩ := map_some h2
        exact t_bin O.K (hr _ _ h1) (hr _ _ h3)
      · exact un_ok hr O h
      · exact (neq_ok hr O h).1
      · exact bool_ok hr h
      · split at h
        · rename_i hn
          obtain ⟨x, h1, h2⟩ := bind_some h
          obtain ⟨y, h3, h4⟩ := bind_some h2
          obtain ⟨z, h5, rfl⟩ := map_some h4
          exact t_ite (hrT _ _ h1 hn) (hr _ _ h3) (hr _ _ h5)
        · cases h
      · obtain ⟨cs, h1, rfl⟩ := map_some h
        exact t_tup (cL_ok hr h1)
      · obtain ⟨cs, h1, rfl⟩ := map_some h
        exact t_lst (cL_ok hr h1)
      · exact sub_ok hr O h
      · split at h
        · rename_i k h1
          cases h
          obtain ⟨tg, it, ifs, q⟩ := comp_ok O hr (fun P' X' O' => cE_ok n _ P' X' O') h1
          rw [q.gens]
          exact t_comp O.calm O.nd q.hi q.ok q.hg q.ht q.he q.hs
        · exact comp2_ok O hr (fun P' X' O' => cE_ok n _ P' X' O') h
      · exact call_ok hr (fun P' sw => (cE_ok n C P' X (O.sameW sw)).1) O h
      · cases h; exact t_dct
      · cases h
    refine ⟨hE, fun e c h hn => ?_⟩
    have hp := hE e c h
    by_cases ht : tstPlain e = true
    · exact tt_of O.K hp (tstPlain_ok ht)
    · cases e with
      | UnaryOp op a pos =>
        cases op with
        | Not =>
          have h' : cUn .Not (cE C n a) = some c := h
          have hn' : noIf n a = true := hn
          obtain ⟨x, h1, rfl⟩ := map_some h'
          exact tt_not (hrT _ _ h1 hn')
        | _ => exact absurd rfl ht
      | BoolOp op vs pos =>
        have h' : cBool (cE C n) op vs = some c := h
        have hn' : vs.all (noIf n) = true := hn
        exact (boolT_ok hrT hn' h').pt
      | IfExp a b c pos => cases hn
      | Compare a ops bs pos =>
        have h' : cNeq C (cCmp (cE C n) a ops bs) a ops bs = some c := h
        exact (neq_ok hr O h').2
      | _ => exact absurd rfl ht
end Ev


set_option Elab.async false
set_option linter.all false
set_option maxRecDepth 100000
set_option maxHeartbeats 2000000
namespace Ev
open PySem PySem.Spec PyProof.Rows L2

def noComp : Expr → Bool
  | .ListComp .. => false
  | .SetComp .. => false
  | .DictComp .. => false
  | _ => true
theorem noComp_ok {e : Expr} {t : Option Expr} {l : Nat} {env : PySem.Env} (h : noComp e = true) : swapsWith e t l env = pure false := by
  cases e <;> first | rfl | cases h
theorem soleT {e : Expr} {es : List Expr} {k : Nat} {p : Pos} {l : Nat} {env : PySem.Env} : swapsWithSole [.Tuple es k p] e l env = pure false := by
  cases e <;> rfl
theorem soleS {e a b : Expr} {p : Pos} {l : Nat} {env : PySem.Env} : swapsWithSole [.Subscript a b p] e l env = pure false := by
  cases e <;> rfl
theorem storesS {e a b : Expr} {p : Pos} {env : PySem.Env} : swappedStores [.Subscript a b p] e env = pure none := by
  cases e <;> rfl
def notTup : Expr → Bool
  | .Tuple .. => false
  | _ => true
theorem storesT {e : Expr} {es : List Expr} {k : Nat} {p : Pos} {env : PySem.Env} (h : notTup e = true) : swappedStores [.Tuple es k p] e env = pure none := by
  cases e <;> first | rfl | cases h
/-- where a comprehension's list goes straight to a name -/
def lcTo (sc scope : Scope) (t : Str) (p vp : Pos) : Bool := decide (sc.kind = .function) && decide (sc.names.lookup t = some .local) && decide (p.line = vp.line) && (scope.names.all fun y => decide (y.1 ≠ t) || !(decide (y.2 = .local) || decide (y.2 = .cell)))
def lcNo (sc : Scope) (t : Str) (p vp : Pos) : Bool := decide (sc.names.lookup t ≠ some .local) || decide (p.line ≠ vp.line)
theorem lcTo_ok {env : PySem.Env} {scope : Scope} {t : Str} {p vp : Pos} {elt : Expr} {gens : List Comprehension} {l : Nat} (h : lcTo env.scope scope t p vp = true) : swapsWith (.ListComp elt gens scope vp) (some (.Name t p)) l env = pure true := by
  unfold lcTo at h
  simp only [Bool.and_eq_true, decide_eq_true_eq] at h
  obtain ⟨⟨⟨h1, h2⟩, h3⟩, h4⟩ := h
  have e1 : env.blockKind = .function := by unfold PySem.Env.blockKind; rw [h1]; rfl
  have e2 : env.kindOf t = some .local := h2
  have e3 : (scope.names.any fun (n, k) => n == t && (k == .local || k == .cell)) = false := by
    rw [List.any_eq_false]
    rintro ⟨n, k⟩ hy
    have := List.all_eq_true.mp h4 _ hy
    simp only [Bool.or_eq_true, decide_eq_true_eq, Bool.not_eq_true'] at this
    rcases this with q | q
    · simp [q]
    · simp only [Bool.or_eq_false_iff, decide_eq_false_iff_not] at q
      simp [q.1, q.2]
  unfold swapsWith
  simp only [e1, e2, e3]
  simp [h3, PySem.Expr.pos]
theorem lcNo_ok {env : PySem.Env} {scope : Scope} {t : Str} {p vp : Pos} {elt : Expr} {gens : List Comprehension} {l : Nat} (h : lcNo env.scope t p vp = true) : swapsWith (.ListComp elt gens scope vp) (some (.Name t p)) l env = pure false := by
  unfold lcNo at h
  simp only [Bool.or_eq_true, decide_eq_true_eq] at h
  unfold swapsWith
  refine congrArg pure ?_
  rcases h with h | h
  · have e2 : env.kindOf t ≠ some .local := h
    simp [e2]
  · simp [h, PySem.Expr.pos]

theorem dcTo_ok {env : PySem.Env} {scope : Scope} {t : Str} {p vp : Pos} {kx vx : Expr} {gens : List Comprehension} {l : Nat} (h : lcTo env.scope scope t p vp = true) : swapsWith (.DictComp kx vx gens scope vp) (some (.Name t p)) l env = pure true := by
  unfold lcTo at h
  simp only [Bool.and_eq_true, decide_eq_true_eq] at h
  obtain ⟨⟨⟨h1, h2⟩, h3⟩, h4⟩ := h
  have e1 : env.blockKind = .function := by unfold PySem.Env.blockKind; rw [h1]; rfl
  have e2 : env.kindOf t = some .local := h2
  have e3 : (scope.names.any fun (n, k) => n == t && (k == .local || k == .cell)) = false := by
    rw [List.any_eq_false]
    rintro ⟨n, k⟩ hy
    have := List.all_eq_true.mp h4 _ hy
    simp only [Bool.or_eq_true, decide_eq_true_eq, Bool.not_eq_true'] at this
    rcases this with q | q
    · simp [q]
    · simp only [Bool.or_eq_false_iff, decide_eq_false_iff_not] at q
      simp [q.1, q.2]
  unfold swapsWith
  simp only [e1, e2, e3]
  simp [h3, PySem.Expr.pos]
theorem dcNo_ok {env : PySem.Env} {scope : Scope} {t : Str} {p vp : Pos} {kx vx : Expr} {gens : List Comprehension} {l : Nat} (h : lcNo env.scope t p vp = true) : swapsWith (.DictComp kx vx gens scope vp) (some (.Name t p)) l env = pure false := by
  unfold lcNo at h
  simp only [Bool.or_eq_true, decide_eq_true_eq] at h
  unfold swapsWith
  refine congrArg pure ?_
  rcases h with h | h
  · have e2 : env.kindOf t ≠ some .local := h
    simp [e2]
  · simp [h, PySem.Expr.pos]
theorem subA {o b : Expr} {pos : Pos} {env : PySem.Env} (h : plainIx b = true) : ∀ v, assign (.Subscript o b pos) env v = (do
      let ov ← holding [v] (eval o env)
      let iv ← holding [v, ov] (eval b env)
      standAt pos
      holding [v, ov, iv] (setItem ov iv v)
      release [v, ov, iv] []) := by
  cases b <;> first | exact fun _ => rfl | cases h
theorem augA {b : Expr} (h : plainIx b = true) : ∀ ov iv new, augStore b ov iv new = (do holding [new, ov, iv] (setItem ov iv new); release [new, ov, iv] []; pure .next) := by
  cases b <;> first | exact fun _ _ _ => rfl | cases h
/-- where a pair's values are stored from the right -/
def parTo (sc : Scope) (ts : List (Str × Pos)) (vs : List Expr) : Bool := decide (sc.kind = .function) && noStars vs && (ts.all fun y => decide (sc.names.lookup y.1 = some .local)) && (match ts with
  | [] => false
  | y :: ys => ys.all fun z => decide (z.2.line = y.2.line)) && !(vs.all (foldedForSure 8)) && !(vs.all (constantsAlone 8))
theorem noStar2 {e : Expr} (h : noStar e = true) : (match e with | .Starred _ _ => true | _ => false) = false := by
  cases e <;> first | rfl | cases h
theorem par2_ok {env : PySem.Env} {x y : Str} {px py pt pt2 : Pos} {kt k2 : Nat} {a b : Expr} (hxy : x ≠ y) (h : parTo env.scope [(x, px), (y, py)] [a, b] = true) : swappedStores [.Tuple [.Name x px, .Name y py] kt pt] (.Tuple [a, b] k2 pt2) env = pure (some [x, y]) := by
  unfold parTo at h
  simp only [Bool.and_eq_true, decide_eq_true_eq, Bool.not_eq_true', List.all_cons, List.all_nil, Bool.and_true] at h
  obtain ⟨⟨⟨⟨⟨h1, h2⟩, h3, h4⟩, h5⟩, h6⟩, h7⟩ := h
  have e1 : env.blockKind = .function := by unfold PySem.Env.blockKind; rw [h1]; rfl
  have e2 : env.kindOf x = some .local := h3
  have e3 : env.kindOf y = some .local := h4
  unfold noStars at h2
  simp only [List.all_cons, List.all_nil, Bool.and_true, Bool.and_eq_true] at h2
  unfold swappedStores
  simp [e1, e2, e3, h5, PySem.Expr.pos, List.eraseDups_cons, hxy, Ne.symm hxy, h6, h7, List.all_cons, List.all_nil]
  intro q
  exfalso
  obtain ⟨ha, hb⟩ := h2
  rcases q with q | q
  · revert q; clear h6 h7; cases a <;> first | (cases ha; done) | exact Bool.false_ne_true
  · revert q; clear h6 h7; cases b <;> first | (cases hb; done) | exact Bool.false_ne_true
theorem par3_ok {env : PySem.Env} {x y z : Str} {px py pz pt pt2 : Pos} {kt k2 : Nat} {a b c : Expr} (hxy : x ≠ y) (hxz : x ≠ z) (hyz : y ≠ z) (h : parTo env.scope [(x, px), (y, py), (z, pz)] [a, b, c] = true) :
    swappedStores [.Tuple [.Name x px, .Name y py, .Name z pz] kt pt] (.Tuple [a, b, c] k2 pt2) env = pure (some [x, y, z]) := by
  unfold parTo at h
  simp only [Bool.and_eq_true, decide_eq_true_eq, Bool.not_eq_true', List.all_cons, List.all_nil, Bool.and_true] at h
  obtain ⟨⟨⟨⟨⟨h1, h2⟩, h3, h4, h4'⟩, h5, h5'⟩, h6⟩, h7⟩ := h
  have e1 : env.blockKind = .function := by unfold PySem.Env.blockKind; rw [h1]; rfl
  have e2 : env.kindOf x = some .local := h3
  have e3 : env.kindOf y = some .local := h4
  have e4 : env.kindOf z = some .local := h4'
  unfold noStars at h2
  simp only [List.all_cons, List.all_nil, Bool.and_true, Bool.and_eq_true] at h2
  unfold swappedStores
  simp [e1, e2, e3, e4, h5, h5', PySem.Expr.pos, List.eraseDups_cons, hxy, Ne.symm hxy, hxz, Ne.symm hxz, hyz, Ne.symm hyz, h6, h7, List.all_cons, List.all_nil]
  intro q
  exfalso
  obtain ⟨ha, hb, hc⟩ := h2
  rcases q with q | q | q
  · revert q; clear h6 h7; cases a <;> first | (cases ha; done) | exact Bool.false_ne_true
  · revert q; clear h6 h7; cases b <;> first | (cases hb; done) | exact Bool.false_ne_true
  · revert q; clear h6 h7; cases c <;> first | (cases hc; done) | exact Bool.false_ne_true
/-- constants alone: no store is swapped -/
theorem parNo_ok {env : PySem.Env} {ts : List Expr} {pt pt2 : Pos} {kt k2 : Nat} {vs : List Expr} (h : vs.all (foldedForSure 8) = true) : swappedStores [.Tuple ts kt pt] (.Tuple vs k2 pt2) env = pure none := by
  unfold swappedStores
  simp only [h]
  repeat' split
  all_goals first | rfl | simp_all
/-- a name that is none of the block's own -/
theorem parNo2_ok {env : PySem.Env} {ts : List Expr} {pt pt2 : Pos} {kt k2 : Nat} {vs : List Expr} (h : (ts.length = 2 ∨ ts.length = 3) → vs.length ≠ ts.length) : swappedStores [.Tuple ts kt pt] (.Tuple vs k2 pt2) env = pure none := by
  unfold swappedStores
  by_cases hl : ts.length = 2 ∨ ts.length = 3
  · simp [h hl]
  · simp only [not_or] at hl
    simp [hl.1, hl.2]
/-- a pair of which a name is read by an inner block -/
theorem parCell2 {env : PySem.Env} {x y : Str} {px py pt pt2 : Pos} {kt k2 : Nat} {vs : List Expr} (h : env.scope.names.lookup x ≠ some .local ∨ env.scope.names.lookup y ≠ some .local) : swappedStores [.Tuple [.Name x px, .Name y py] kt pt] (.Tuple vs k2 pt2) env = pure none := by
  unfold swappedStores
  rcases h with h | h
  · have e : env.kindOf x ≠ some .local := h
    by_cases q : env.kindOf y = some .local <;> by_cases q2 : py.line = px.line <;> simp [e, q, q2, PySem.Expr.pos]
  · have e : env.kindOf y ≠ some .local := h
    by_cases q : env.kindOf x = some .local <;> simp [e, q, PySem.Expr.pos]
theorem parCell3 {env : PySem.Env} {x y z : Str} {px py pz pt pt2 : Pos} {kt k2 : Nat} {vs : List Expr} (h : env.scope.names.lookup x ≠ some .local ∨ env.scope.names.lookup y ≠ some .local ∨ env.scope.names.lookup z ≠ some .local) :
    swappedStores [.Tuple [.Name x px, .Name y py, .Name z pz] kt pt] (.Tuple vs k2 pt2) env = pure none := by
  unfold swappedStores
  rcases h with h | h | h
  · have e : env.kindOf x ≠ some .local := h
    by_cases q : env.kindOf y = some .local <;> by_cases q2 : py.line = px.line <;> by_cases q3 : env.kindOf z = some .local <;> by_cases q4 : pz.line = px.line <;> simp [e, q, q2, q3, q4, PySem.Expr.pos]
  · have e : env.kindOf y ≠ some .local := h
    by_cases q : env.kindOf x = some .local <;> by_cases q3 : env.kindOf z = some .local <;> by_cases q4 : pz.line = px.line <;> simp [e, q, q3, q4, PySem.Expr.pos]
  · have e : env.kindOf z ≠ some .local := h
    by_cases q : env.kindOf x = some .local <;> by_cases q3 : env.kindOf y = some .local <;> by_cases q4 : py.line = px.line <;> simp [e, q, q3, q4, PySem.Expr.pos]
end Ev


set_option Elab.async false
set_option linter.all false
set_option maxRecDepth 100000
set_option maxHeartbeats 2000000
namespace Ev
open PySem PySem.Spec PyProof.Rows L2

section
variable (C : Cc) (m : Nat)
def cOwn1 (e : Expr) : Option CE := match e with
  | .List es _ => (cL (cE C m) es).map .lst
  | .BinOp a op b _ => (match a with
    | .List _ _ => if op = .Mult then (cE C m a).bind fun x => (cE C m b).map fun y => .bin op x y else none
    | _ => (match b with
      | .List _ _ => if op = .Add then (cE C m a).bind fun x => (cE C m b).map fun y => .bin op x y else none
      | _ => none))
  | .ListComp elt gens scope _ => (cComp C (cE C m) (cE (C.blk scope) m) (noIf m) elt gens scope).map Kc.ce
  | .Call (.Name x _) args kws _ => if C.glb x = true then (match C.fns.lookup x with
    | some fi => if fi.ow = true then cDef C (cE C m) x fi args kws else none
    | none => if x = ("sorted" : Str) then (match args, kws with
      | [a], [] => if noStar a = true then (cE C m a).map fun c => .blt .sorted [c] else none
      | _, _ => none) else none) else none
  | _ => none
def cOwn (e : Expr) : Option CE := match e with
  | .IfExp c a b _ => if noIf m c = true then (cE C m c).bind fun x => (cOwn1 C m a).bind fun y => (cOwn1 C m b).map fun z => .ite x y z else none
  | e => cOwn1 C m e
def cRet (e : Expr) : Option CS := if C.ow = true then (match e with
    | .Name x _ => (C.slot x).map .retV
    | e => (cOwn C m e).map .retO) else (cE C m e).map .ret
def cPa : List Expr → Option (List (Bool × CE))
  | [] => some []
  | e :: es => if noStar e = true then (match cOwn C m e with
    | some c => (cPa es).map ((true, c) :: ·)
    | none => (cE C m e).bind fun c => (cPa es).map ((false, c) :: ·)) else none
/-- dict(a list of pairs) -/
def cDmk (e : Expr) : Option CE := match e with
  | .Call (.Name y _) [a] [] _ => if y = ("dict" : Str) ∧ C.glb y = true ∧ C.fns.lookup y = none ∧ noStar a = true then cE C m a else none
  | _ => none
def cOne (x : Str) (px : Pos) (e : Expr) (pos : Pos) : Option CS := (C.stor x).bind fun i => match e with
  | .DictComp kx vx gens scope p => if lcTo C.sc scope x px p = true ∨ lcNo C.sc x px p = true then (cComp C (cE C m) (cE (C.blk scope) m) (noIf m) kx gens scope).bind fun k => (cE (C.blk scope) m vx).map fun v => .dcp i k.kind k.its k.tgs k.one (k.own.map (·.2)) k.cnd k.elt v else none
  | .ListComp elt gens scope p => if lcTo C.sc scope x px p = true ∨ lcNo C.sc x px p = true then (cComp C (cE C m) (cE (C.blk scope) m) (noIf m) elt gens scope).map fun k => .own i k.ce else none
  | e => if noComp e = true then (match cDmk C m e with
    | some c => some (.dmk i c)
    | none => (match cOwn C m e with
      | some c => some (.own i c)
      | none => (cE C m e).map (.asg i))) else none
def cUnp (ts vs : List Expr) (e : Expr) : Option CS := (cNm C ts).bind fun is => match cPa C m vs with
  | some cs => if cs.any (·.1) = true ∧ is.length ≤ 100 then some (.par is cs) else (cE C m e).map (.unp is)
  | none => (cE C m e).map (.unp is)
def cPair (ts : List Expr) (e : Expr) : Option CS := match e with
  | .Tuple vs _ _ => (match ts with
    | [.Name x px, .Name y py] => (match vs with
      | [a, b] => if parTo C.sc [(x, px), (y, py)] [a, b] = true ∧ x ≠ y then (C.stor x).bind fun i => (C.stor y).bind fun j => if i ≠ j then (cPa C m [a, b]).map (.par [i, j]) else none
        else if [a, b].all (foldedForSure 8) = true ∨ (C.sc.names.lookup x ≠ some .local ∨ C.sc.names.lookup y ≠ some .local) then cUnp C m ts vs e else none
      | _ => none)
    | [.Name x px, .Name y py, .Name z pz] => (match vs with
      | [a, b, c] => if parTo C.sc [(x, px), (y, py), (z, pz)] [a, b, c] = true ∧ x ≠ y ∧ x ≠ z ∧ y ≠ z then (C.stor x).bind fun i => (C.stor y).bind fun j => (C.stor z).bind fun l => if i ≠ j ∧ i ≠ l ∧ j ≠ l then (cPa C m [a, b, c]).map (.par [i, j, l]) else none
        else if [a, b, c].all (foldedForSure 8) = true ∨ (C.sc.names.lookup x ≠ some .local ∨ C.sc.names.lookup y ≠ some .local ∨ C.sc.names.lookup z ≠ some .local) then cUnp C m ts vs e else none
      | _ => none)
    | [_, _, _, _] => cUnp C m ts vs e
    | _ => none)
  | e => if notTup e = true then (cNm C ts).bind fun is => (cE C m e).map (.unp is) else none
def cAsg (tg e : Expr) (pos : Pos) : Option CS := match tg with
  | .Name x px => cOne C m x px e pos
  | .Tuple ts _ _ => cPair C m ts e
  | .Subscript (.Name x _) b _ => if plainIx b = true then (C.slot x).bind fun i => (cE C m b).bind fun k => (cE C m e).map (.sub i k) else none
  | _ => none
def cAug (tg : Expr) (op : Operator) (e : Expr) : Option CS := match tg with
  | .Name x _ => (C.stor x).bind fun i => (cE C m e).map (.aug op i)
  | .Subscript (.Name x _) b _ => if plainIx b = true then (C.slot x).bind fun i => (cE C m b).bind fun k => (cE C m e).map (.aus op i k) else none
  | _ => none
def cExp (e : Expr) : Option CS := match e with
  | .Constant (.str _) _ _ => some .pas
  | .Call (.Attribute (.Name x _) nm apos) [a] [] cpos => if nm = ("append" : Str) then (if noStar a = true ∧ (apos.endLine == cpos.line) = true then (C.slot x).bind fun i => (cE C m a).map (.app i) else none) else (cE C m e).map .exp
  | e => if noComp e = true then (cE C m e).map .exp else none
def cRai (e : Expr) : CS := match e with
  | .Call (.Name x _) [.Constant (.str _) _ _] [] _ => if C.glb x = true ∧ C.pl x = true then .rai x else .nev
  | .Call (.Name x _) [a] [] _ => if C.glb x = true ∧ noStar a = true then (match C.fl x with
    | some f => (match cE C m a with
      | some c => .rax x f c
      | none => .nev)
    | none => .nev) else .nev
  | _ => .nev
/-- an except suite with a name -/
def cSu (n : Str) (su : List Stmt) : Option SU := match su with
  | [.Assign [.Tuple [.Name t pt, .Name u pu] _ _] (.Tuple [.Constant (.str z) j1 p2, .Call (.Name f pf) [.Name e pe, .Name x pd] [] pc] _ _) _] =>
    if (f = ("isinstance" : Str) ∧ C.glb f = true) ∧ e = n ∧ (C.glb x = true ∧ C.ex x = true) ∧ parTo C.sc [(t, pt), (u, pu)] [.Constant (.str z) j1 p2, .Call (.Name f pf) [.Name e pe, .Name x pd] [] pc] = true ∧ t ≠ u then
      (C.stor t).bind fun j => (C.stor u).bind fun k => if j ≠ k then some (.par j k (.str z) x) else none
    else none
  | _ => none
/-- .. without one -/
def cSuN (st : Stmt) : Option SU := match st with
  | .Assign [.Name t _] (.Constant c _ _) _ => (C.stor t).bind fun j => (cstD c).map fun d => .asC j d
  | .Return (some (.Constant c _ _)) _ => (cstD c).map .retC
  | _ => none
def cHd (h : ExceptHandler) : Option Hd := match h with
  | .ExceptHandler (some (.Name x _)) (some n) (b :: su) _ => if (C.glb x = true ∧ C.ex x = true) ∧ plainN n = true ∧ C.sc.names.lookup n = some .local then (idx C.N n).bind fun i => (cSu C n (b :: su)).map fun s => ⟨x, some i, s⟩ else none
  | .ExceptHandler (some (.Name x _)) none [st] _ => if C.glb x = true ∧ C.ex x = true then (cSuN C st).map fun s => ⟨x, none, s⟩ else none
  | _ => none
def cHs : List ExceptHandler → Option (List Hd)
  | [] => some []
  | h :: r => (cHd C h).bind fun x => (cHs r).map (x :: ·)
mutual
def cS : Nat → Stmt → Option CS
  | 0, _ => none
  | n + 1, st => match st with
    | .Assign [tg] e pos => cAsg C m tg e pos
    | .AugAssign tg op e _ => cAug C m tg op e
    | .Expr e _ => cExp C m e
    | .If c a b _ => if noIf m c = true then (cE C m c).bind fun x => (cB n a).bind fun y => (cB n b).map fun z => .iff x y z else none
    | .For tg it body [] _ => if noSet it = true then (cIter C (cE C m) tg it).bind fun k => (cTg C tg).bind fun t => (cB n body).map fun b => .fr k.1 k.2 t.1 t.2 b else none
    | .While c body [] _ => if noIf m c = true then (cE C m c).bind fun x => (cB n body).map fun b => .wh x b else none
    | .Return (some e) _ => cRet C m e
    | .Return none _ => some .retN
    | .Pass _ => some .pas
    | .Break _ => some .brk
    | .Continue _ => some .ctn
    | .Raise (some e) none _ => some (cRai C m e)
    | .Raise _ _ _ => some .nev
    | .Try body (h :: hs) [] [] _ => (cB n body).bind fun b => (cHs C (h :: hs)).bind fun l => if l.all (fun x => x.slot.isSome) = true ∨ l.all (fun x => x.slot.isNone) = true then some (.tra (exN C.gvs) b l) else none
    | _ => none
def cB : Nat → List Stmt → Option (List CS)
  | 0, _ => none
  | n + 1, [] => some []
  | n + 1, s :: ss => (cS n s).bind fun c => (cB n ss).map (c :: ·)
end
end
section
variable {C : Cc} {P P' : Pm} {X : Cx} {m : Nat}
theorem own1_ok (O : Ok C P X) {e : Expr} {c : CE} (h : cOwn1 C m e = some c) : PE X e (TOwn P (evOwn P.cal P.b0 c)) := by
  obtain ⟨hr, hrT⟩ := cE_ok m C P X O
  unfold cOwn1 at h
  split at h
  · obtain ⟨cs, h1, rfl⟩ := map_some h
    exact own_lst (cL_ok hr h1)
  · split at h
    · split at h
      · rename_i ho
        obtain ⟨x, h1, h2⟩ := bind_some h
        obtain ⟨y, h3, rfl⟩ := map_some h2
        exact own_rep O.K ho (hr _ _ h1) (hr _ _ h3)
      · cases h
    · split at h
      · split at h
        · rename_i ho
          obtain ⟨x, h1, h2⟩ := bind_some h
          obtain ⟨y, h3, rfl⟩ := map_some h2
          exact own_cat O.K ho (hr _ _ h1) (hr _ _ h3)
        · cases h
      · cases h
  · obtain ⟨k, h1, rfl⟩ := map_some h
    obtain ⟨tg, it, ifs, q⟩ := comp_ok O hr (fun P' X' O' => cE_ok m _ P' X' O') h1
    rw [q.gens]
    exact own_comp O.calm O.nd q.hi q.ok q.hg q.ht q.he q.hs
  · split at h
    · rename_i hg
      split at h
      · rename_i fi hf
        split at h
        · exact (def_ok hr O hg hf h).2
        · cases h
      · split at h
        · rename_i hx
          subst hx
          split at h
          · split at h
            · rename_i hs
              obtain ⟨c', h1, rfl⟩ := map_some h
              obtain ⟨g1, g2, g3⟩ := glb_ok O hg
              exact own_srt O.K g1 (O.bl _ (by decide +kernel)) (boot_bi .sorted) (hr _ _ h1) (star1 hs)
            · cases h
          · cases h
        · cases h
    · cases h
  · cases h
theorem own_ok (O : Ok C P X) {e : Expr} {c : CE} (h : cOwn C m e = some c) : PE X e (TOwn P (evOwn P.cal P.b0 c)) := by
  obtain ⟨hr, hrT⟩ := cE_ok m C P X O
  unfold cOwn at h
  split at h
  · split at h
    · rename_i hn
      obtain ⟨x, h1, h2⟩ := bind_some h
      obtain ⟨y, h3, h4⟩ := bind_some h2
      obtain ⟨z, h5, rfl⟩ := map_some h4
      exact own_ite (hrT _ _ h1 hn) (own1_ok O h3) (own1_ok O h5)
    · cases h
  · exact own1_ok O h
theorem ret_ok (O : Ok C P X) {e : Expr} {pos : Pos} {c : CS} (h : cRet C m e = some c) : PS X (.Return (some e) pos) (TSt P c) := by
  obtain ⟨hr, hrT⟩ := cE_ok m C P X O
  unfold cRet at h
  split at h
  · split at h
    · obtain ⟨i, h1, rfl⟩ := map_some h
      obtain ⟨q1, q2, q3, q4⟩ := slot_ok O h1
      exact s_retV q1 q2 q3 q4
    · obtain ⟨ce, h1, rfl⟩ := map_some h
      exact s_retO (own_ok O h1)
  · obtain ⟨ce, h1, rfl⟩ := map_some h
    exact s_ret (hr _ _ h1)
theorem pa_ok : ∀ {es : List Expr} {cs : List (Bool × CE)} {P : Pm}, Ok C P X → cPa C m es = some cs → PA X es (TPa P cs)
  | [], cs, P, O, h => by cases h; exact pa_nilP
  | e :: es, cs, P, O, h => by
    unfold cPa at h
    split at h
    · rename_i hs
      split at h
      · rename_i c hc
        obtain ⟨cs', h1, rfl⟩ := map_some h
        exact pa_ownP (own_ok O hc) (fun P' sw => pa_ok (O.sameW sw) h1) (star1 hs)
      · obtain ⟨c, h1, h2⟩ := bind_some h
        obtain ⟨cs', h3, rfl⟩ := map_some h2
        exact pa_valP ((cE_ok m C P X O).1 _ _ h1) (pa_ok O h3) (star1 hs)
    · cases h
theorem one_ok (O : Ok C P X) {x : Str} {px pos : Pos} {e : Expr} {c : CS} (h : cOne C m x px e pos = some c) : PS X (.Assign [.Name x px] e pos) (TSt P c) := by
  obtain ⟨hr, hrT⟩ := cE_ok m C P X O
  unfold cOne at h
  obtain ⟨i, h1, h2⟩ := bind_some h
  obtain ⟨q1, q2, q3⟩ := stor_ok O h1
  split at h2
  · split at h2
    · rename_i hc
      obtain ⟨k, h3, h4⟩ := bind_some h2
      obtain ⟨v, h5, rfl⟩ := map_some h4
      obtain ⟨tg, it, ifs, q⟩ := comp_ok O hr (fun P' X' O' => cE_ok m _ P' X' O') h3
      rw [q.gens]
      have hv := fun (s : Shared) (H : Hp) (cc : Addr) (cl : List (Str × Addr)) (fp : List Addr) => pe_B (P := P) (X' := X.blk s H _ (compEnvC _ cl cc X.env) fp) fun P' sb => (cE_ok m _ _ _ (O.blk sb)).1 _ _ h5
      rcases hc with hc | hc
      · have hl : X.env.scope.names.lookup x = some .local := by
          rw [O.sc]
          unfold lcTo at hc
          simp only [Bool.and_eq_true, decide_eq_true_eq] at hc
          exact hc.1.1.2
        exact s_dcp O.calm O.nd q1 hl (dcTo_ok (by rw [O.sc]; exact hc)) q.hi q.ok q.hg q.ht q.he hv q.hs
      · exact s_dcpN O.nd q1 q2 (own_dcp O.calm O.nd q.hi q.ok q.hg q.ht q.he hv q.hs) (dcNo_ok (by rw [O.sc]; exact hc)) q3
    · cases h2
  · split at h2
    · rename_i hc
      obtain ⟨k, h3, rfl⟩ := map_some h2
      obtain ⟨tg, it, ifs, q⟩ := comp_ok O hr (fun P' X' O' => cE_ok m _ P' X' O') h3
      rw [q.gens]
      rcases hc with hc | hc
      · have hl : X.env.scope.names.lookup x = some .local := by
          rw [O.sc]
          unfold lcTo at hc
          simp only [Bool.and_eq_true, decide_eq_true_eq] at hc
          exact hc.1.1.2
        exact s_ownLc O.calm O.nd q1 hl (lcTo_ok (by rw [O.sc]; exact hc)) q.hi q.ok q.hg q.ht q.he q.hs
      · exact s_own O.nd q1 q2 (own_comp O.calm O.nd q.hi q.ok q.hg q.ht q.he q.hs) (lcNo_ok (by rw [O.sc]; exact hc)) q3
    · cases h2
  · split at h2
    · rename_i hn
      split at h2
      · rename_i c' hc
        cases h2
        unfold cDmk at hc
        split at hc
        · split at hc
          · rename_i hd
            obtain ⟨rfl, d2, d3, d4⟩ := hd
            exact s_dmk O.K O.calm O.nd q1 q2 (glb_ok O d2).1 (O.bl _ (by decide +kernel)) (hr _ _ hc) (star1 d4) q3
          · cases hc
        · cases hc
      · split at h2
        · rename_i c' hc
          cases h2
          exact s_own O.nd q1 q2 (own_ok O hc) (noComp_ok hn) q3
        · obtain ⟨c', h3, rfl⟩ := map_some h2
          exact s_asg O.nd q1 q2 (hr _ _ h3) (noComp_ok hn) q3
    · cases h2
theorem each1 {es : List Expr} {k : Nat} {p : Pos} {env : PySem.Env} : (assignEach [.Tuple es k p] env).map (·.2) = [assign (.Tuple es k p) env] := rfl
theorem parTo2 {sc : Scope} {x y : Str} {px py : Pos} {vs : List Expr} (h : parTo sc [(x, px), (y, py)] vs = true) : sc.names.lookup x = some .local ∧ sc.names.lookup y = some .local := by
  unfold parTo at h
  simp only [Bool.and_eq_true, decide_eq_true_eq, Bool.not_eq_true', List.all_cons, List.all_nil, Bool.and_true] at h
  exact h.1.1.1.2
theorem parTo3 {sc : Scope} {x y z : Str} {px py pz : Pos} {vs : List Expr} (h : parTo sc [(x, px), (y, py), (z, pz)] vs = true) : sc.names.lookup x = some .local ∧ sc.names.lookup y = some .local ∧ sc.names.lookup z = some .local := by
  unfold parTo at h
  simp only [Bool.and_eq_true, decide_eq_true_eq, Bool.not_eq_true', List.all_cons, List.all_nil, Bool.and_true] at h
  exact h.1.1.1.2
theorem unp_ok (O : Ok C P X) {ts vs : List Expr} {kt k2 : Nat} {pt p2 pos : Pos} {c : CS} (h : cUnp C m ts vs (.Tuple vs k2 p2) = some c) (hs : swapsWithSole [.Tuple ts kt pt] (.Tuple vs k2 p2) pos.line X.env = pure false)
    (hw : swappedStores [.Tuple ts kt pt] (.Tuple vs k2 p2) X.env = pure none) (h1 : (assignEach [.Tuple ts kt pt] X.env).map (·.2) = [assign (.Tuple ts kt pt) X.env]) : PS X (.Assign [.Tuple ts kt pt] (.Tuple vs k2 p2) pos) (TSt P c) := by
  obtain ⟨hr, hrT⟩ := cE_ok m C P X O
  unfold cUnp at h
  obtain ⟨is, e1, h⟩ := bind_some h
  split at h
  · rename_i cs hcs
    split at h
    · rename_i hc
      cases h
      exact s_upo O.calm O.nd (nm_ok O e1) hc.2 (pa_ok O hcs) hs hw h1
    · obtain ⟨ce, h3, rfl⟩ := map_some h
      exact s_unp O.K O.calm O.nd (nm_ok O e1) (hr _ _ h3) hs hw h1
  · obtain ⟨ce, h3, rfl⟩ := map_some h
    exact s_unp O.K O.calm O.nd (nm_ok O e1) (hr _ _ h3) hs hw h1
theorem pair_ok (O : Ok C P X) {ts : List Expr} {kt : Nat} {pt pos : Pos} {e : Expr} {c : CS} (h : cPair C m ts e = some c) : PS X (.Assign [.Tuple ts kt pt] e pos) (TSt P c) := by
  obtain ⟨hr, hrT⟩ := cE_ok m C P X O
  unfold cPair at h
  split at h
  · split at h
    · split at h
      · split at h
        · rename_i hc
          obtain ⟨i, h1, h2⟩ := bind_some h
          obtain ⟨j, h3, h4⟩ := bind_some h2
          split at h4
          · rename_i hij
            obtain ⟨cs, h5, rfl⟩ := map_some h4
            obtain ⟨q1, q2, q3⟩ := stor_ok O h1
            obtain ⟨w1, w2, w3⟩ := stor_ok O h3
            have hp := hc.1
            have hl := parTo2 (sc := X.env.scope) (by rw [O.sc]; exact hp)
            exact s_par2 O.calm O.nd q1 w1 hij hl.1 hl.2 (pa_ok O h5) (par2_ok hc.2 (by rw [O.sc]; exact hp)) soleT
          · cases h4
        · split at h
          · rename_i hf
            exact unp_ok O h soleT (by
              rcases hf with hf | hf
              · exact parNo_ok hf
              · exact parCell2 (by rw [O.sc]; exact hf)) each1
          · cases h
      · cases h
    · split at h
      · split at h
        · rename_i hc
          obtain ⟨i, h1, h2⟩ := bind_some h
          obtain ⟨j, h3, h4⟩ := bind_some h2
          obtain ⟨l, h3', h4'⟩ := bind_some h4
          split at h4'
          · rename_i hij
            obtain ⟨cs, h5, rfl⟩ := map_some h4'
            obtain ⟨q1, q2, q3⟩ := stor_ok O h1
            obtain ⟨w1, w2, w3⟩ := stor_ok O h3
            obtain ⟨v1, v2, v3⟩ := stor_ok O h3'
            have hp := hc.1
            have hl := parTo3 (sc := X.env.scope) (by rw [O.sc]; exact hp)
            exact s_par3 O.calm O.nd q1 w1 v1 hij.1 hij.2.1 hij.2.2 hl.1 hl.2.1 hl.2.2 (pa_ok O h5) (par3_ok hc.2.1 hc.2.2.1 hc.2.2.2 (by rw [O.sc]; exact hp)) soleT
          · cases h4'
        · split at h
          · rename_i hf
            exact unp_ok O h soleT (by
              rcases hf with hf | hf
              · exact parNo_ok hf
              · exact parCell3 (by rw [O.sc]; exact hf)) each1
          · cases h
      · cases h
    · exact unp_ok O h soleT (parNo2_ok (by simp)) each1
    · cases h
  · split at h
    · rename_i hn
      obtain ⟨is, h1, h2⟩ := bind_some h
      obtain ⟨ce, h3, rfl⟩ := map_some h2
      exact s_unp O.K O.calm O.nd (nm_ok O h1) (hr _ _ h3) soleT (storesT hn) each1
    · cases h
theorem asg_ok (O : Ok C P X) {tg e : Expr} {pos : Pos} {c : CS} (h : cAsg C m tg e pos = some c) : PS X (.Assign [tg] e pos) (TSt P c) := by
  obtain ⟨hr, hrT⟩ := cE_ok m C P X O
  unfold cAsg at h
  split at h
  · exact one_ok O h
  · exact pair_ok O h
  · split at h
    · rename_i hp
      obtain ⟨i, h1, h2⟩ := bind_some h
      obtain ⟨k, h3, h4⟩ := bind_some h2
      obtain ⟨ce, h5, rfl⟩ := map_some h4
      obtain ⟨q1, q2, q3, q4⟩ := slot_ok O h1
      exact s_sub O.un q1 q2 q3 q4 (hr _ _ h3) (hr _ _ h5) (subA hp) soleS storesS rfl
    · cases h
  · cases h
theorem aug_ok (O : Ok C P X) {tg e : Expr} {op : Operator} {pos : Pos} {c : CS} (h : cAug C m tg op e = some c) : PS X (.AugAssign tg op e pos) (TSt P c) := by
  obtain ⟨hr, hrT⟩ := cE_ok m C P X O
  unfold cAug at h
  split at h
  · obtain ⟨i, h1, h2⟩ := bind_some h
    obtain ⟨ce, h3, rfl⟩ := map_some h2
    obtain ⟨q1, q2, q3⟩ := stor_ok O h1
    exact s_aug O.nd q1 q2 (hr _ _ h3) q3
  · split at h
    · rename_i hp
      obtain ⟨i, h1, h2⟩ := bind_some h
      obtain ⟨k, h3, h4⟩ := bind_some h2
      obtain ⟨ce, h5, rfl⟩ := map_some h4
      obtain ⟨q1, q2, q3, q4⟩ := slot_ok O h1
      exact s_aus O.un q1 q2 q3 q4 (hr _ _ h3) (hr _ _ h5) (augA hp)
    · cases h
  · cases h
theorem exp_ok (O : Ok C P X) {e : Expr} {pos : Pos} {c : CS} (h : cExp C m e = some c) : PS X (.Expr e pos) (TSt P c) := by
  obtain ⟨hr, hrT⟩ := cE_ok m C P X O
  unfold cExp at h
  split at h
  · cases h; exact s_doc
  · split at h
    · rename_i hn
      subst hn
      split at h
      · rename_i hc
        obtain ⟨c1, c2⟩ := hc
        obtain ⟨i, h1, h2⟩ := bind_some h
        obtain ⟨ce, h3, rfl⟩ := map_some h2
        obtain ⟨q1, q2, q3, q4⟩ := slot_ok O h1
        exact s_app q1 q2 q3 q4 (hr _ _ h3) rfl (by rw [star1 c1]; rfl) c2 (star1 c1) rfl rfl
      · cases h
    · obtain ⟨ce, h3, rfl⟩ := map_some h
      exact s_expr (hr _ _ h3) rfl
  · split at h
    · rename_i hn
      obtain ⟨ce, h3, rfl⟩ := map_some h
      exact s_expr (hr _ _ h3) (noComp_ok hn)
    · cases h
theorem rai_ok (O : Ok C P X) {e : Expr} {pos : Pos} : PS X (.Raise (some e) none pos) (TSt P (cRai C m e)) := by
  unfold cRai
  split
  · split
    · rename_i hc
      obtain ⟨g1, g2, g3⟩ := glb_ok O hc.1
      refine s_rai O.calm O.K O.mg O.tk ?_ g1 g2
      have hp := hc.2
      unfold Cc.pl at hp
      split at hp
      · rename_i d hd
        exact O.exq _ d hd hp
      · cases hp
    · exact s_nev
  · split
    · rename_i hc
      split
      · rename_i f hf
        split
        · rename_i c hcE
          obtain ⟨g1, g2, g3⟩ := glb_ok O hc.1
          obtain ⟨d, q1, q2⟩ := bind_some hf
          exact s_rax O.calm O.K O.mg O.tk O.rm (O.exi _ d f q1 q2) g1 g2 ((cE_ok m C P X O).1 _ _ hcE) (by rw [star1 hc.2])
        · exact s_nev
      · exact s_nev
    · exact s_nev
  · exact s_nev
theorem su_facts {n : Str} {su : List Stmt} {s : SU} (h : cSu C n su = some s) : ∀ j k z y, s = .par j k z y → (∃ t, z = .str t) ∧ y ∈ exN C.gvs := by
  unfold cSu at h
  split at h
  · split at h
    · rename_i hc
      obtain ⟨j, h1, h2⟩ := bind_some h
      obtain ⟨k, h3, h4⟩ := bind_some h2
      split at h4
      · cases h4
        intro j k z y e
        cases e
        exact ⟨⟨_, rfl⟩, List.contains_iff_mem.mp hc.2.2.1.2⟩
      · cases h4
    · cases h
  · cases h
theorem hd_facts {h : ExceptHandler} {x : Hd} (e : cHd C h = some x) : x.cls ∈ exN C.gvs ∧ ∀ j k z y, x.su = .par j k z y → (∃ t, z = .str t) ∧ y ∈ exN C.gvs := by
  unfold cHd at e
  split at e
  · split at e
    · rename_i hc
      obtain ⟨i, h1, h2⟩ := bind_some e
      obtain ⟨s, h3, rfl⟩ := map_some h2
      exact ⟨List.contains_iff_mem.mp hc.1.2, su_facts h3⟩
    · cases e
  · split at e
    · rename_i hc
      obtain ⟨s, h3, rfl⟩ := map_some e
      refine ⟨List.contains_iff_mem.mp hc.2, fun j k z y q => ?_⟩
      have q' : s = .par j k z y := q
      subst q'
      unfold cSuN at h3
      split at h3
      · obtain ⟨_, _, h4⟩ := bind_some h3
        obtain ⟨_, _, h5⟩ := map_some h4
        cases h5
      · obtain ⟨_, _, h5⟩ := map_some h3
        cases h5
      · cases h3
    · cases e
  · cases e
theorem hs_facts : ∀ {hs : List ExceptHandler} {l : List Hd}, cHs C hs = some l → ∀ x ∈ l, x.cls ∈ exN C.gvs ∧ ∀ j k z y, x.su = .par j k z y → (∃ t, z = .str t) ∧ y ∈ exN C.gvs
  | [], l, h => by cases h; exact fun _ m => nomatch m
  | a :: r, l, h => by
    simp only [cHs] at h
    obtain ⟨x, h1, h2⟩ := bind_some h
    obtain ⟨y, h3, rfl⟩ := map_some h2
    intro z hz
    rcases List.mem_cons.mp hz with e | e
    · rw [e]; exact hd_facts h1
    · exact hs_facts h3 z e
theorem nm_of (O : Ok C P X) {x : Str} (g : C.glb x = true) (e : C.ex x = true) : Names X x (adr P.mg x) := by
  obtain ⟨g1, g2, g3⟩ := glb_ok O g
  obtain ⟨a, h1, h2⟩ := O.ex _ (List.contains_iff_mem.mp e)
  refine ⟨g1, g2, .inl ?_⟩
  unfold adr
  rw [← O.mg, h1]
  rfl
theorem parTo_loc {sc : Scope} {t u : Str} {pt pu : Pos} {vs : List Expr} (h : parTo sc [(t, pt), (u, pu)] vs = true) : sc.names.lookup t = some .local ∧ sc.names.lookup u = some .local := by
  unfold parTo at h
  simp only [Bool.and_eq_true, decide_eq_true_eq, Bool.not_eq_true', List.all_cons, List.all_nil, Bool.and_true] at h
  exact ⟨h.1.1.1.2.1, h.1.1.1.2.2⟩
theorem suA_ok (O : Ok C P X) {n : Str} {i : Nat} {su : List Stmt} {s : SU} {c : Str} (hi : idx C.N n = some i) (hp : plainN n = true) (hl : C.sc.names.lookup n = some .local) (h : cSu C n su = some s) : MA.SuOk X su (tsu P.K P.mg ⟨c, some i, s⟩) := by
  obtain ⟨p1, p2, p3⟩ := plainN_ok hp
  unfold cSu at h
  split at h
  · split at h
    · rename_i hc
      obtain ⟨⟨rfl, gf⟩, rfl, ⟨gx, ex⟩, hpar, htu⟩ := hc
      obtain ⟨j, h1, h2⟩ := bind_some h
      obtain ⟨k, h3, h4⟩ := bind_some h2
      split at h4
      · rename_i hjk
        cases h4
        obtain ⟨g1, g2, g3⟩ := glb_ok O gf
        obtain ⟨w1, w2, w3⟩ := glb_ok O gx
        obtain ⟨a, e1, e2⟩ := O.ex _ (List.contains_iff_mem.mp ex)
        obtain ⟨q1, q2, q3⟩ := stor_ok O h1
        obtain ⟨r1, r2, r3⟩ := stor_ok O h3
        have hlo := parTo_loc hpar
        rw [← O.sc] at hlo
        rw [← O.K, ← O.mg]
        exact su_par (D0 := a) O.nd (by rw [O.N]; exact idx_get hi) (.inl (by rw [O.sc]; exact hl)) p1 p2 q1 r1 hjk hlo.1 hlo.2 g1 (O.bl _ (by decide +kernel)) w1 w2 e1 (par2_ok htu (by rw [O.sc]; exact hpar)) fun l => soleT
      · cases h4
    · cases h
  · cases h
theorem hsA_ok (O : Ok C P X) : ∀ {hs : List ExceptHandler} {l : List Hd}, cHs C hs = some l → l.all (fun x => x.slot.isSome) = true → MA.Hs X hs (l.map fun h => (adr P.mg h.cls, h.slot.getD 0, tsu P.K P.mg h))
  | [], l, h, _ => by cases h; exact .nil
  | a :: r, l, h, ha => by
    simp only [cHs] at h
    obtain ⟨x, h1, h2⟩ := bind_some h
    obtain ⟨y, h3, rfl⟩ := map_some h2
    rw [List.all_cons, Bool.and_eq_true] at ha
    have ih := hsA_ok O h3 ha.2
    unfold cHd at h1
    split at h1
    · split at h1
      · rename_i hc
        obtain ⟨⟨c1, c2⟩, c3, c4⟩ := hc
        obtain ⟨i, e1, e2⟩ := bind_some h1
        obtain ⟨s, e3, rfl⟩ := map_some e2
        exact .cons (nm_of O c1 c2) (by rw [O.N]; exact idx_get e1) (by show X.env.scope.names.lookup _ = _; rw [O.sc]; exact c4) (suA_ok O e1 c3 c4 e3) ih
      · cases h1
    · split at h1
      · obtain ⟨s, e3, rfl⟩ := map_some h1
        cases ha.1
      · cases h1
    · cases h1
theorem hsN_ok (O : Ok C P X) : ∀ {hs : List ExceptHandler} {l : List Hd}, cHs C hs = some l → l.all (fun x => x.slot.isNone) = true → L2N.HdsOk X hs (l.map fun h => (adr P.mg h.cls, tsn P h))
  | [], l, h, _ => by cases h; exact .nil
  | a :: r, l, h, ha => by
    simp only [cHs] at h
    obtain ⟨x, h1, h2⟩ := bind_some h
    obtain ⟨y, h3, rfl⟩ := map_some h2
    rw [List.all_cons, Bool.and_eq_true] at ha
    have ih := hsN_ok O h3 ha.2
    unfold cHd at h1
    split at h1
    · split at h1
      · obtain ⟨i, e1, e2⟩ := bind_some h1
        obtain ⟨s, e3, rfl⟩ := map_some e2
        cases ha.1
      · cases h1
    · split at h1
      · rename_i hc
        obtain ⟨s, e3, rfl⟩ := map_some h1
        refine .cons (nm_of O hc.1 hc.2) (fun a oe cls d pn hz hf => pss_one ?_) ih
        unfold cSuN at e3
        split at e3
        · obtain ⟨j, q1, q2⟩ := bind_some e3
          obtain ⟨dd, q3, rfl⟩ := map_some q2
          obtain ⟨w1, w2, w3⟩ := stor_ok O q1
          exact s_asg (X := X.suite a ((a, oe) :: pn)) O.nd w1 w2 (cst_ok q3) (noComp_ok rfl) w3
        · obtain ⟨dd, q3, rfl⟩ := map_some e3
          exact s_ret (X := X.suite a ((a, oe) :: pn)) (cst_ok q3)
        · cases e3
      · cases h1
    · cases h1
theorem cSB_ok : ∀ (n : Nat) {P : Pm} {X : Cx}, Ok C P X → PassesOwn (model X.prog X.w) X.A X.env X.xe → X.stack = X.env :: X.outer → X.env.frame = some X.env.locals → (∀ st c, cS C m n st = some c → PS X st (TSt P c)) ∧ (∀ ss cs, cB C m n ss = some cs → PSs X ss (TSs P cs))
  | 0, _, _, _, _, _, _ => ⟨fun st c h => by simp [cS] at h, fun st c h => by simp [cB] at h⟩
  | n + 1, P, X, O, hp, es, ef => by
    obtain ⟨hr, hrT⟩ := cE_ok m C P X O
    obtain ⟨hS, hB⟩ := cSB_ok n O hp es ef
    refine ⟨fun st c h => ?_, fun ss cs h => ?_⟩
    · unfold cS at h
      split at h
      · exact asg_ok O h
      · exact aug_ok O h
      · exact exp_ok O h
      · split at h
        · rename_i hn
          obtain ⟨x, h1, h2⟩ := bind_some h
          obtain ⟨y, h3, h4⟩ := bind_some h2
          obtain ⟨z, h5, rfl⟩ := map_some h4
          exact s_if (hrT _ _ h1 hn) (hB _ _ h3) (hB _ _ h5)
        · cases h
      · split at h
        · rename_i hn
          obtain ⟨k, h1, h2⟩ := bind_some h
          obtain ⟨t, h3, h4⟩ := bind_some h2
          obtain ⟨b, h5, rfl⟩ := map_some h4
          exact s_for hp O.calm (iter_ok O hr h1) (tg_ok O h3) (hB _ _ h5) (noSet_ok hn)
        · cases h
      · split at h
        · rename_i hn
          obtain ⟨x, h1, h2⟩ := bind_some h
          obtain ⟨b, h3, rfl⟩ := map_some h2
          exact s_wh hp (hrT _ _ h1 hn) (hB _ _ h3)
        · cases h
      · exact ret_ok O h
      · cases h; exact s_retN
      · cases h; exact s_pas
      · cases h; exact s_brk
      · cases h; exact s_ctn
      · cases h
        exact rai_ok O
      · cases h; exact s_nev
      · obtain ⟨b, h1, h2⟩ := bind_some h
        obtain ⟨l, h3, h4⟩ := bind_some h2
        split at h4
        · rename_i hl
          cases h4
          have fa := hs_facts h3
          have hb : ∀ (W : WX) (pn : List (Addr × Obj)) (xe : Value → Shared → Prop), L2N.Takes (X.tr pn xe) W → PassesOwn (model X.prog X.w) X.A X.env xe → PSs (X.tr pn xe) _ (TSs { P with W := W } b) := fun W pn xe tk hp' => (cSB_ok n (O.tr tk) hp' es ef).2 _ _ h1
          rcases hl with hl | hl
          · refine s_tra es ef O.nd O.K O.mg O.tk hb (fun c hc => ⟨by have := O.ex c hc; rwa [O.K, O.mg] at this, fun x hx => ?_⟩) (hsA_ok O h3 hl)
            obtain ⟨q1, q2⟩ := fa x hx
            refine ⟨Option.isSome_iff_exists.mp (List.all_eq_true.mp hl x hx), by have := O.ex _ q1; rwa [O.K, O.mg] at this, by have := O.exx c hc _ q1; rwa [O.K, O.mg] at this, fun j k z y e => ?_⟩
            obtain ⟨w1, w2⟩ := q2 j k z y e
            exact ⟨w1, by have := O.ex _ w2; rwa [O.K, O.mg] at this, by have := O.exx c hc _ w2; rwa [O.K, O.mg] at this⟩
          · refine s_tro es ef O.K O.mg O.tk hb (fun c hc x hx => ?_) (hsN_ok O h3 hl)
            obtain ⟨q1, q2⟩ := fa x hx
            exact ⟨Option.isNone_iff_eq_none.mp (List.all_eq_true.mp hl x hx), by have := O.ex _ q1; rwa [O.K, O.mg] at this, by have := O.exx c hc _ q1; rwa [O.K, O.mg] at this⟩
        · cases h4
      · cases h
    · cases ss with
      | nil => simp only [cB] at h; cases h; exact s_nil
      | cons s ss =>
        simp only [cB] at h
        obtain ⟨x, h1, h2⟩ := bind_some h
        obtain ⟨y, h3, rfl⟩ := map_some h2
        exact s_cons (hS _ _ h1) (hB _ _ h3)
end
end Ev


set_option Elab.async false
set_option linter.all false
set_option maxRecDepth 100000
set_option maxHeartbeats 2000000
namespace Ev
open PySem PySem.Spec PyProof.Rows L2

/-! ## a table of defs -/
structure De where
  N : List Str
  fi : Fi
  cs : List CS
def nons (n : Nat) : Ro := List.replicate n none
def oldR (ds : List D) : Ro := ds.map fun d => some (d, false)
def ini (N : List Str) (io : Bool) (ds : List D) : Ro := (match io, ds with
  | true, d :: r => some (d, true) :: oldR r
  | _, ds => oldR ds) ++ nons (N.length - ds.length)
def lent (io : Bool) (ρ : Ro) (f : Option D → CR) : CR := if io = true then (match ρ[0]? with
  | some (some (PyData.list e, true)) => f (some (PyData.list e))
  | _ => .bad) else f none
def runD (cal : Cal) (N : List Str) (io : Bool) (cs : List CS) (ds : List D) : CR := match evB cal io cs (ini N io ds) with
  | .nx ρ => lent io ρ (.ok .none)
  | .rt d ρ => lent io ρ (.ok d)
  | .ro ds ρ => lent io ρ (.ow ds)
  | .er c f ρ => lent io ρ (.er c f)
  | _ => .bad
def calN (tbl : List (Str × De)) : Nat → Cal
  | 0, _, _ => .bad
  | n + 1, x, ds => match tbl.lookup x with
    | some e => if ds.length = e.fi.ps.length then runD (calN tbl n) e.N e.fi.io e.cs ds else .bad
    | none => .bad
def fnsOf (tbl : List (Str × De)) : List (Str × Fi) := tbl.map fun y => (y.1, y.2.fi)
theorem fnsOf_lookup {x : Str} {fi : Fi} : ∀ {tbl : List (Str × De)}, (fnsOf tbl).lookup x = some fi → ∃ e, tbl.lookup x = some e ∧ e.fi = fi
  | [], h => by cases h
  | (y, e) :: tbl, h => by
    have h' : List.lookup x ((y, e.fi) :: fnsOf tbl) = some fi := h
    rw [List.lookup_cons] at h' ⊢
    cases hb : x == y with
    | true => rw [hb] at h'; exact ⟨e, rfl, Option.some.inj h'⟩
    | false => rw [hb] at h'; exact fnsOf_lookup h'
/-- a def of the table, as it stands in the written part -/
def DefAt (tbl : List (Str × De)) (gvs : List (Str × D)) (K : PySem.W.Frag) (mg : Str → Option Value) (x : Str) (e : De) (f : Addr) (fd : FuncData) : Prop := ∃ (qual : Str) (st : Stmt) (m n : Nat), mg x = some (.ref f) ∧ Fun K x qual st f fd ∧ FnScope e.N e.fi.ps (defScope st) ∧
    cB ⟨e.N, defScope st, fun _ => true, fnsOf tbl, gvs, e.fi.ow⟩ m n (defBody st) = some e.cs ∧ Binds K fd e.fi.ps [] ∧ (∀ ks perm, e.fi.kws.lookup ks = some perm → KwB K fd e.fi.ps ks perm)
structure TabOk (P : Program) (tbl : List (Str × De)) (gvs : List (Str × D)) (K : PySem.W.Frag) (mg : Str → Option Value) : Prop where
  defs : ∀ x e, tbl.lookup x = some e → ∃ (f : Addr) (fd : FuncData), DefAt tbl gvs K mg x e f fd
  bl : ∀ x, bltN x = true → mg x = none
  gc : gvs.lookup ("gcd" : Str) ≠ none → mg "gcd" = some (.builtin "math.gcd")
  ex : ∀ x ∈ exN gvs, ExOk K mg x
  exx : ∀ x ∈ exN gvs, ∀ y ∈ exN gvs, ExPr K mg x y
  exq : ∀ x d, gvs.lookup x = some d → isPl d = true → ExQ K mg x
  exi : ∀ x d f, gvs.lookup x = some d → exFl d = some f → ExI P K mg x f
  gvs : ∀ x d, x ≠ ("gcd" : Str) → isEx d = false → gvs.lookup x = some d → ∃ u v, mg x = some u ∧ RelV v u ∧ ∀ G, Rp K G v d
section
variable {P : Program} {w : World} {K : PySem.W.Frag} {mg : Str → Option Value} {base : Heap} {tbl : List (Str × De)} {gvs : List (Str × D)}
theorem deeper_guards {A : Around} {env : PySem.Env} (h : A.guards = some []) : (A.deeper env).guards = some [] := h
theorem oldR_get {ds : List D} {n i : Nat} {d : D} {w : Bool} (h : (oldR ds ++ nons n)[i]? = some (some (d, w))) : ds[i]? = some d ∧ w = false := by
  unfold oldR nons at h
  by_cases hi : i < ds.length
  · rw [List.getElem?_append_left (by simpa using hi), List.getElem?_map, List.getElem?_eq_getElem hi] at h
    cases h
    exact ⟨List.getElem?_eq_getElem hi, rfl⟩
  · rw [List.getElem?_append_right (by simpa using hi), List.getElem?_replicate] at h
    split at h <;> cases h
theorem start_get {N : List Str} {vs : List V} {i : Nat} {v : V} (h : vs[i]? = some v) : (start N vs)[i]? = some (some v) := by
  unfold L2.start
  obtain ⟨h1, h2⟩ := List.getElem?_eq_some_iff.mp h
  rw [List.getElem?_append_left (by simpa using h1), List.getElem?_map, h]
  rfl
def PmD (K : PySem.W.Frag) (mg : Str → Option Value) (G H : Hp) (io : Option Addr) (cal : Cal) (E : XK) : Pm := ⟨K, mg, fun b => H b ≠ none ∧ G b = none ∧ io ≠ some b, H, io, cal, fun cls dx _ H' => E cls dx H'⟩
theorem fm_start {G H : Hp} {io : Option Addr} {cal : Cal} {E : XK} {N : List Str} {vs : List V} {ds : List D} (s : Same G H) (ha : ArgC K G H io vs ds) : (PmD K mg G H io cal E).Fm (ini N io.isSome ds) G (start N vs) H := by
  cases io with
  | none =>
    have r : RpAll K G vs ds := ha
    have hl := r.length
    refine ⟨s, ?_, fun i d h => ?_, fun i d h => ?_, fun i j d e a h => ?_, fun b hb => ⟨hb.2.1, rfl, hb.1⟩, fun a h => by cases h⟩
    · show (oldR ds ++ nons _).length = _
      unfold oldR nons L2.start
      simp [hl]
    · obtain ⟨h1, _⟩ := oldR_get (show (oldR ds ++ nons (N.length - ds.length))[i]? = _ from h)
      obtain ⟨v, h2, h3⟩ := r.get h1
      exact ⟨v, start_get h2, h3⟩
    · exact absurd (oldR_get (show (oldR ds ++ nons (N.length - ds.length))[i]? = _ from h)).2 (by decide)
    · exact absurd (oldR_get (show (oldR ds ++ nons (N.length - ds.length))[i]? = _ from h)).2 (by decide)
  | some a =>
    obtain ⟨us, xs, es, rs, rfl, rfl, h1, h2, h3, h4⟩ := ha
    have hl := h4.length
    have ini_eq : ini N (Option.isSome (some a)) (.list es :: rs) = some (.list es, true) :: (oldR rs ++ nons (N.length - (rs.length + 1))) := rfl
    have own0 : ∀ {i : Nat} {d : D}, (ini N (Option.isSome (some a)) (.list es :: rs))[i]? = some (some (d, true)) → i = 0 ∧ d = .list es := fun {i d} h => by
      rw [ini_eq] at h
      cases i with
      | zero => cases h; exact ⟨rfl, rfl⟩
      | succ i => exact absurd (oldR_get (show (oldR rs ++ nons (N.length - (rs.length + 1)))[i]? = _ from h)).2 (by decide)
    refine ⟨s, ?_, fun i d h => ?_, fun i d h => ?_, fun i j d e b h h' _ _ => by rw [(own0 h).1, (own0 h').1], fun b hb => ⟨hb.2.1, rfl, hb.1⟩, fun b h => ?_⟩
    · rw [ini_eq]
      unfold oldR nons L2.start
      simp [hl]
    · rw [ini_eq] at h
      cases i with
      | zero => cases h
      | succ i =>
        obtain ⟨q1, _⟩ := oldR_get (show (oldR rs ++ nons (N.length - (rs.length + 1)))[i]? = _ from h)
        obtain ⟨v, q2, q3⟩ := h4.get q1
        exact ⟨v, start_get (by simpa using q2), q3⟩
    · obtain ⟨rfl, rfl⟩ := own0 h
      exact ⟨a, .lst xs, rfl, h1, h2, fun z => z.2.2 rfl, h3⟩
    · cases h
      rfl
theorem stay_of {G H G' H' : Hp} {io : Option Addr} {cal : Cal} {E : XK} {ρ : Ro} {σ : L2.St} (fm : (PmD K mg G H io cal E).Fm ρ G' σ H') : Stay G H io G' H' := fun b h1 h2 h3 => by
  obtain ⟨q1, q2, _⟩ := fm.zg b ⟨h1, h2, h3⟩
  exact ⟨q2, q1⟩
theorem lent_of {G H G' H' : Hp} {io : Option Addr} {cal : Cal} {E : XK} {ρ : Ro} {σ : L2.St} {f : Option D → CR} (fm : (PmD K mg G H io cal E).Fm ρ G' σ H') {r : CR} (e : lent io.isSome ρ f = r) (hb : r ≠ .bad) : ∃ d0, r = f d0 ∧ Lent K io d0 G' H' := by
  cases io with
  | none => exact ⟨none, e.symm, trivial⟩
  | some a =>
    unfold lent at e
    rw [if_pos (show Option.isSome (some a) = true from rfl)] at e
    split at e
    · rename_i d hd
      obtain ⟨b, xs, q1, q3, q4, q5, q6⟩ := fm.owL hd
      have q7 := fm.at0 a rfl
      rw [q7] at q1
      cases q1
      exact ⟨_, e.symm, q4, xs, q3, q6⟩
    · exact absurd e.symm hb
theorem end_bad {G H : Hp} {io : Option Addr} {r : CR} {Q : VK} {E : XK} (h : EndC K mg G H io r Q E) : r ≠ .bad := fun z => by rw [z] at h; exact h
/-- what a body gives, as what a call gives -/
theorem end_body {G H : Hp} {io : Option Addr} {cal : Cal} {Q : VK} {E : XK} {N : List Str} {cs : List CS} {ds : List D} (h : EndC K mg G H io (runD cal N io.isSome cs ds) Q E) :
    OutS (PmD K mg G H io cal E) G (evB cal io.isSome cs (ini N io.isSome ds)) { nx := fun _ H' => Q .non H', rt := Q } := by
  have hb := end_bad h
  unfold runD at h hb
  cases hq : evB cal io.isSome cs (ini N io.isSome ds) with
  | nx ρ =>
    rw [hq] at h hb
    intro σ G' H' s fm
    obtain ⟨d0, e, ln⟩ := lent_of fm rfl hb
    simp only at h
    rw [e] at h
    exact h .non G' H' s fm.sub (stay_of fm) .non ln
  | rt d ρ =>
    rw [hq] at h hb
    intro σ v G' H' s fm rp
    obtain ⟨d0, e, ln⟩ := lent_of fm rfl hb
    simp only at h
    rw [e] at h
    exact h v G' H' s fm.sub (stay_of fm) rp ln
  | ro ds ρ =>
    rw [hq] at h hb
    intro σ p xs G' H' s fm hp gp zp np rp
    have hH : H p = none := by
      apply Classical.byContradiction
      intro hn
      have gp0 : G p = none := by
        cases q : G p with
        | none => rfl
        | some o => rw [s _ _ q] at gp; cases gp
      have hio : io = some p := by
        apply Classical.byContradiction
        intro z
        exact zp ⟨hn, gp0, z⟩
      subst hio
      simp only [lent] at hb
      rw [if_pos (show Option.isSome (some p) = true from rfl)] at hb
      split at hb
      · rename_i d hd
        exact np 0 _ hd (fm.at0 p rfl)
      · exact hb rfl
    obtain ⟨d0, e, ln⟩ := lent_of fm rfl hb
    simp only at h
    rw [e] at h
    exact h p xs G' H' s fm.sub (stay_of fm) hH gp hp rp ln
  | er c f ρ =>
    rw [hq] at h hb
    intro σ cls dx G' H' s fm er
    obtain ⟨d0, e, ln⟩ := lent_of fm rfl hb
    simp only at h
    rw [e] at h
    exact h cls dx G' H' s fm.sub (stay_of fm) er ln
  | bk ρ => rw [hq] at hb; exact absurd rfl hb
  | ct ρ => rw [hq] at hb; exact absurd rfl hb
  | bad => rw [hq] at hb; exact absurd rfl hb
theorem argC_len {G H : Hp} {io : Option Addr} {vs : List V} {ds : List D} (h : ArgC K G H io vs ds) : vs.length = ds.length := by
  cases io with
  | none => exact RpAll.length h
  | some a =>
    obtain ⟨us, xs, es, rs, rfl, rfl, _, _, _, h4⟩ := h
    rw [List.length_cons, List.length_cons, h4.length]
/-- THE RULE: every def of the table, at every depth -/
theorem tab_all (T : TabOk P tbl gvs K mg) : ∀ (n : Nat) (x : Str) (e : De) (f : Addr) (fd : FuncData), tbl.lookup x = some e → DefAt tbl gvs K mg x e f fd → FnG P w K mg base n f fd e.fi.ps (spD K mg (calN tbl n) x e.fi.io e.fi.ps.length)
  | 0, x, e, f, fd, he, _ => ⟨fun vs H Q E ⟨G, ds, io, hl, _⟩ => hl, fun A outer s H args us vs Q E _ _ _ _ _ ⟨G, ds, io, _, _, _, _, h⟩ => absurd rfl (end_bad h)⟩
  | n + 1, x, e, f, fd, he, ⟨qual, st, m, n', h1, h2, h3, h4, h5, h6⟩ => by
    refine fnG_of h2 h3 (fun vs H Q E ⟨G, ds, io, hl, _⟩ => hl) (fun cdv A outer s H vs Q E hr hg ⟨G, ds, io, hl, sg, hio, ha, h⟩ => ?_)
    have hne := end_bad h
    have e1 : calN tbl (n + 1) x ds = runD (calN tbl n) e.N e.fi.io e.cs ds := by
      show (match tbl.lookup x with | some e => _ | none => CR.bad) = _
      rw [he]
      exact if_pos (by rw [← argC_len ha]; exact hl)
    rw [e1, ← hio] at h
    have O : Ok ⟨e.N, defScope st, fun _ => true, fnsOf tbl, gvs, e.fi.ow⟩ (PmD K mg G H io (calN tbl n) E) (cxOf (L2N.CX P w) P w K mg base e.N qual (defScope st) f cdv A outer s H E) :=
      ⟨rfl, h3.nd, rfl, fun _ _ => rfl, rfl, rfl, rfl, deeper_guards hg, by have := hr.un; show (A.deeper _).units + 100 < cLine; omega,
        L2N.takes_of (X := cxOf (L2N.CX P w) P w K mg base e.N qual (defScope st) f cdv A outer s H E) rfl rfl rfl rfl, fun y fi hy => by
          obtain ⟨e', he', rfl⟩ := fnsOf_lookup hy
          obtain ⟨f', fd', D'⟩ := T.defs y e' he'
          obtain ⟨_, _, _, _, q1, q2, _, _, q5, q6⟩ := id D'
          exact ⟨f', fd', n, hr, q1, q2.kp, tab_all T n y e' f' fd' he' D', q5, q6⟩, T.bl, T.gvs, T.gc, T.ex, T.exx, T.exq, T.exi, hr.mono (Nat.zero_le n)⟩
    refine ⟨_, (cSB_ok (m := m) n' O (passes_of rfl) rfl rfl).2 _ _ h4, ini e.N io.isSome ds, G, fm_start sg ha, ?_⟩
    exact end_body h
end
end Ev


set_option Elab.async false
set_option linter.all false
set_option maxRecDepth 100000
set_option maxHeartbeats 2000000
namespace Ev
open PySem PySem.Spec PyProof.Rows L2 PySem.W

/-! ## the law's own call -/
section
variable {P : Program} {w : World} {K : PySem.W.Frag} {gm bm : Str → Option Value} {k : Nat} {fa l : Addr} {fd : FuncData} {x : Str} {sp : Sp} {s0 : Shared} {items : List Value} {nums : List Int}
theorem run_core {H : Hp} (inK : K.In s0.heap) (glo : s0.heap.Ns mainGlobals gm) (blo : s0.heap.Ns builtinsNs bm) (bas : ∀ y : Str, y ≠ "__name__" → bm y = bootBuiltins y) (nol : s0.heap.NoLimit) (gen0 : s0.gens = #[])
    (obj : s0.heap.get? l = some { cls := .type "list", data := .seq items.toArray }) (room : Room k callerA)
    (F : ∀ base : Heap, K.In base → base.Ns mainGlobals gm → FnG P w K gm base k fa fd [x] sp) (bind : ∀ (s : Shared) (u : Value), K.In s.heap → BindsTo s fd ⟨[u], []⟩ [(x, u)])
    (spc : sp [.ref l] H (fun v _ => v = .bl true) fun _ _ _ => False) (only : Only H) (hok : HOk P w H s0.heap) (alone : ∀ b, H b ≠ none → b = l) (notK : H l ≠ none → K.lookup l = none) :
    codeAny (model P w) callerA (.call (.ref fa) ⟨[.ref l], []⟩) (fun r s' => r = .ok (.ret (.bool true)) ∧ OldK s0.heap s'.heap ∧ s'.os = s0.os ∧ AllBare s'.gens) s0 := by
  let B : Heap := hidT s0.heap H
  have toB : ∀ {b : Addr} {o : Obj}, s0.heap.get? b = some o → H b = none → B.get? b = some o := fun q z => hidT_get q z
  have dictFree : ∀ {b : Addr} {o : Obj} {es : Array DictEntry} {ep : Nat}, s0.heap.get? b = some o → o.data = .dict es ep → H b = none := fun {b o es ep} q d => by
    apply Classical.byContradiction
    intro z
    have e := alone b z
    subst e
    rw [obj] at q
    cases q
    cases d
  have nsB : ∀ {b : Addr} {m : Str → Option Value}, s0.heap.Ns b m → B.Ns b m := fun {b m} ⟨o, es, ep, q, d, r⟩ => ⟨o, es, ep, toB q (dictFree q d), d, r⟩
  have KB : K.In B := fun b o q => toB (inK b o q) (by
    apply Classical.byContradiction
    intro z
    have e := alone b z
    subst e
    rw [notK z] at q
    cases q)
  have modB : Mod K gm B := ⟨KB, nsB glo, ⟨bm, nsB blo, bas⟩, let ⟨mc, q1, q2⟩ := nol; ⟨mc, nsB q1, q2⟩⟩
  have none_in : ∀ {b : Addr}, ¬ b ∈ frs ([] : List PySem.Env) := fun {b} z => by cases z
  have env0 : Env0 P w K gm B callerA [] s0 H := ⟨rfl, modB, fun b o q => of_hidT q, Nat.le_of_eq (hidT_size _ _), trivial, fun b z => absurd z none_in, hok, .of_eq gen0⟩
  refine codeAny_mono ((F B KB (nsB glo)).run callerA [] s0 H ⟨[.ref l], []⟩ [.ref l] [.ref l] _ _ room rfl env0 (bind s0 (.ref l) inK) (.cons rfl .nil) spc) fun r s' fin => ?_
  cases r with
  | error e =>
    obtain ⟨a, B', H', cls, d, _, _, _, _, _, _, _, z⟩ := fin
    exact z.elim
  | ok fl =>
    cases fl with
    | ret u =>
      obtain ⟨v, H', os, bare, un, hok', rel, z⟩ := fin
      have z' : v = .bl true := z
      subst z'
      obtain rfl : u = Value.bool true := rel
      refine ⟨rfl, OldK.of_keep fun b o q => ?_, os, bare⟩
      cases hb : H b with
      | none => exact un.keep b o q hb none_in (by simp)
      | some t =>
        rcases only b with z | ⟨ob, xs, z⟩
        · rw [hb] at z; cases z
        · obtain ⟨e1, _⟩ := hok b _ z
          obtain ⟨e2, _⟩ := hok' b _ (un.frzs b ob _ z)
          rw [q] at e1
          cases e1
          exact e2
    | _ => exact fin.elim
theorem run_law (inK : K.In s0.heap) (glo : s0.heap.Ns mainGlobals gm) (blo : s0.heap.Ns builtinsNs bm) (bas : ∀ y : Str, y ≠ "__name__" → bm y = bootBuiltins y) (nol : s0.heap.NoLimit) (gen0 : s0.gens = #[])
    (obj : s0.heap.get? l = some { cls := .type "list", data := .seq items.toArray }) (sInts : IntsAre items nums) (small : nums.length ≤ sizeLine) (room : Room k callerA)
    (F : ∀ base : Heap, K.In base → base.Ns mainGlobals gm → FnG P w K gm base k fa fd [x] sp) (bind : ∀ (s : Shared) (u : Value), K.In s.heap → BindsTo s fd ⟨[u], []⟩ [(x, u)])
    (spc : ∀ H : Hp, Ls K H l (nums.map V.int) → sp [.ref l] H (fun v _ => v = .bl true) fun _ _ _ => False) :
    codeAny (model P w) callerA (.call (.ref fa) ⟨[.ref l], []⟩) (fun r s' => r = .ok (.ret (.bool true)) ∧ OldK s0.heap s'.heap ∧ s'.os = s0.os ∧ AllBare s'.gens) s0 := by
  have rel := vals_ints sInts
  have len := sInts.length
  let frz : HO := .frz { cls := .type "list", data := .seq items.toArray } (.lst (nums.map V.int))
  by_cases inside : K.lookup l = none
  · have at0 : (fun b => if b = l then some frz else none : Hp) l = some frz := if_pos rfl
    refine run_core (H := fun b => if b = l then some frz else none) inK glo blo bas nol gen0 obj room F bind (spc _ (.inl (.inr ⟨_, at0⟩))) (fun b => ?_) (fun b u z => ?_) (fun b z => ?_) fun _ => inside
    · by_cases e : b = l
      · exact .inr ⟨_, _, if_pos e⟩
      · exact .inl (if_neg e)
    · by_cases e : b = l
      · subst e
        rw [at0] at z
        cases z
        exact ⟨obj, by rw [List.length_map]; exact small, items, _, rel, obj⟩
      · rw [show (fun b => if b = l then some frz else none : Hp) b = none from if_neg e] at z
        cases z
    · by_cases e : b = l
      · exact e
      · exact absurd (if_neg e) z
  · obtain ⟨o, ho⟩ : ∃ o, K.lookup l = some o := by
      cases q : K.lookup l with
      | none => exact absurd q inside
      | some o => exact ⟨o, rfl⟩
    have q := inK l o ho
    rw [obj] at q
    cases q
    exact run_core (H := fun _ => none) inK glo blo bas nol gen0 obj room F bind (spc _ (.inr ⟨items, _, ho, by rw [len]; exact small, rel⟩)) (fun _ => .inl rfl) (fun b u z => by cases z) (fun b z => absurd rfl z) fun z => absurd rfl z
end
theorem row_of {l : PySem.W.OpenLaw} {n k : Nat} {q : Program} {loose : List Str} {XP : (Str → Option Value) → Heap → Prop} {YP : World → Heap → Prop} {d : DefRec} {K : Params → PySem.W.Frag} {x : Str}
    (most : l.most = some n) (small : n ≤ sizeLine) (plain : d.params.defaults = []) (room : Room k callerA) (hY : ∀ (w : World) (h : Heap), YP w h → (K w.params).In h)
    (F : ∀ (w : World) (mg : Str → Option Value) (fa : Addr) (h : Heap), (K w.params).In h → h.Ns mainGlobals mg → mg d.name = some (.ref fa) →
      ∃ (fd : FuncData) (sp : Sp), (∀ (s : Shared) (u : Value), (K w.params).In s.heap → BindsTo s fd ⟨[u], []⟩ [(x, u)]) ∧ (∀ base : Heap, (K w.params).In base → base.Ns mainGlobals mg → FnG l.prog w (K w.params) mg base k fa fd [x] sp) ∧
        ∀ (H : Hp) (a : Addr) (ns : List Int), ns.length ≤ n → Ls (K w.params) H a (ns.map V.int) → sp [.ref a] H (fun v _ => v = .bl true) fun _ _ _ => False) :
    PySem.W.WalkO q loose XP YP l.row.toRowW d [] (fun f vs => PySem.call f vs) := by
  refine Att.attach_call most plain fun w t₀ t mg mb fa o pm cd doc a vs ns G Y ho hd hcd hmg hobj hints hlen hgens => ?_
  have inK := hY w _ Y
  obtain ⟨fd, sp, bind, hF, hsp⟩ := F w mg fa _ inK G.T.g hmg
  exact run_law inK G.T.g G.T.b G.T.builtins G.T.nolimit hgens hobj hints (Nat.le_trans hlen small) room hF bind fun H hS => hsp H a ns hlen hS
end Ev


set_option Elab.async false
set_option linter.all false
set_option maxRecDepth 100000
set_option maxHeartbeats 2000000
namespace Ev
open PySem PySem.Spec PyProof.Rows L2 PySem.W

/-! ## the table, def by def -/
/-- what the written part holds of a def -/
def InK (K : PySem.W.Frag) (x : Str) (st : Stmt) : Prop := ∃ (f : Addr) (oc : Value) (od an : Option Addr) (osl : Array (Option Value)) (kV doc pm cdv ct : Value), PySem.W.nsIn K mainGlobals x = some (some (.ref f)) ∧
  K.lookup f = some ⟨oc, od, .func (PySem.W.fnOf x x (defArgs st) (defBody st) (defScope st) .none kV doc pm an cdv ct), osl⟩ ∧ PySem.W.codeIn K cdv x = true ∧ PySem.W.keepIn K (.ref f) = true
theorem inK_mk {K : PySem.W.Frag} {x : Str} {st : Stmt} {f : Addr} {oc : Value} {od an : Option Addr} {osl : Array (Option Value)} {kV doc pm cdv ct : Value} (a : PySem.W.nsIn K mainGlobals x = some (some (.ref f)))
    (l : K.lookup f = some ⟨oc, od, .func (PySem.W.fnOf x x (defArgs st) (defBody st) (defScope st) .none kV doc pm an cdv ct), osl⟩) (c : PySem.W.codeIn K cdv x = true) (k : PySem.W.keepIn K (.ref f) = true) : InK K x st :=
  ⟨f, oc, od, an, osl, kV, doc, pm, cdv, ct, a, l, c, k⟩
/-- what is checked of a def's text -/
structure TxOk (fns : List (Str × Fi)) (gvs : List (Str × D)) (x : Str) (e : De) (st : Stmt) : Prop where
  sc : FnScope e.N e.fi.ps (defScope st)
  code : cB ⟨e.N, defScope st, fun _ => true, fns, gvs, e.fi.ow⟩ 60 60 (defBody st) = some e.cs
  pos : ∀ (kV doc pm : Value) (an : Option Addr) (cdv ct : Value) (us : List Value), us.length = e.fi.ps.length → bindArgs (PySem.W.fnOf x x (defArgs st) (defBody st) (defScope st) .none kV doc pm an cdv ct) ⟨us, []⟩ = pure (e.fi.ps.zip us)
  kws : ∀ ks perm, e.fi.kws.lookup ks = some perm → ∀ (kV doc pm : Value) (an : Option Addr) (cdv ct : Value) (ws us : List Value), ws.length = ks.length → perm.mapM (fun i => ws[i]?) = some us →
    bindArgs (PySem.W.fnOf x x (defArgs st) (defBody st) (defScope st) .none kV doc pm an cdv ct) ⟨[], ks.zip ws⟩ = pure (e.fi.ps.zip us)
def AllTx (fns : List (Str × Fi)) (gvs : List (Str × D)) : List (Str × De) → List Stmt → Prop
  | [], [] => True
  | (x, e) :: r, st :: sts => TxOk fns gvs x e st ∧ AllTx fns gvs r sts
  | _, _ => False
def AllK (K : PySem.W.Frag) : List (Str × De) → List Stmt → Prop
  | [], [] => True
  | (x, e) :: r, st :: sts => InK K x st ∧ AllK K r sts
  | _, _ => False
theorem all_at {fns : List (Str × Fi)} {gvs : List (Str × D)} {K : PySem.W.Frag} {x : Str} {e : De} : ∀ {tbl : List (Str × De)} {sts : List Stmt}, AllTx fns gvs tbl sts → AllK K tbl sts → tbl.lookup x = some e → ∃ st, TxOk fns gvs x e st ∧ InK K x st
  | [], sts, _, _, h => by cases h
  | (y, e') :: tbl, [], h1, _, _ => h1.elim
  | (y, e') :: tbl, st :: sts, h1, h2, h => by
    rw [List.lookup_cons] at h
    cases hb : x == y with
    | true =>
      rw [hb] at h
      cases h
      have e : x = y := by simpa using hb
      subst e
      exact ⟨st, h1.1, h2.1⟩
    | false =>
      rw [hb] at h
      exact all_at h1.2 h2.2 h
/-- what the written part says of two classes of errors -/
def PrK (K : PySem.W.Frag) (x y : Str) : Prop := ∃ a b, PySem.W.nsIn K mainGlobals x = some (some (.ref a)) ∧ PySem.W.nsIn K mainGlobals y = some (some (.ref b)) ∧ PySem.W.exmOne K (.ref a) (.ref b) = some (exM x y) ∧ PySem.W.kitOne K (.ref a) (.ref b) = some (exM x y)
theorem pr_mk {K : PySem.W.Frag} {x y : Str} {a b : Addr} (h1 : PySem.W.nsIn K mainGlobals x = some (some (.ref a))) (h2 : PySem.W.nsIn K mainGlobals y = some (some (.ref b))) (h3 : PySem.W.subIn K (.ref a) (.ref b) = some (exM x y)) (k1 : PySem.W.subIn K (.ref b) (.type "BaseException") = some true) (k2 : PySem.W.hasDictIn K b = true) (k3 : PySem.W.typeIn K (.ref b) = some (.type "type"))
    (h4 : decide (a = b) = false ∨ exM x y = true) : PrK K x y := by
  have e := PySem.W.exm_ref (cls := .ref a) k1 k2 k3 h3
  refine ⟨a, b, h1, h2, e, ?_⟩
  by_cases hab : (Value.ref a == Value.ref b) = true
  · have ab : a = b := Value.ref.inj (beq_iff_eq.mp hab)
    rcases h4 with q | q
    · exact absurd ab (of_decide_eq_false q)
    · show (if _ then _ else _) = _
      rw [if_pos hab, q]
  · show (if _ then _ else _) = _
    rw [if_neg hab]
    unfold PySem.W.exmOne at e
    split at e
    · exact e
    · cases e
def PrRow (K : PySem.W.Frag) (x : Str) : List Str → Prop
  | [] => True
  | y :: r => PrK K x y ∧ PrRow K x r
def PrAll (K : PySem.W.Frag) (l : List Str) : List Str → Prop
  | [] => True
  | x :: r => PrRow K x l ∧ PrAll K l r
theorem prRow_at {K : PySem.W.Frag} {x y : Str} : ∀ {l : List Str}, PrRow K x l → y ∈ l → PrK K x y
  | [], _, h => by cases h
  | z :: r, p, h => by
    rcases List.mem_cons.mp h with e | e
    · rw [e]; exact p.1
    · exact prRow_at p.2 e
theorem prAll_at {K : PySem.W.Frag} {x : Str} {l : List Str} : ∀ {m : List Str}, PrAll K l m → x ∈ m → PrRow K x l
  | [], _, h => by cases h
  | z :: r, p, h => by
    rcases List.mem_cons.mp h with e | e
    · rw [e]; exact p.1
    · exact prAll_at p.2 e
def bltL : List Str := biL.map biN ++ othL
theorem bltN_in {x : Str} (h : bltN x = true) : x ∈ bltL := by
  unfold bltN at h
  unfold bltL
  rw [Bool.or_eq_true, List.any_eq_true, List.any_eq_true] at h
  rcases h with ⟨f, h1, h2⟩ | ⟨y, h1, h2⟩
  · exact List.mem_append_left _ (List.mem_map.mpr ⟨f, h1, of_decide_eq_true h2⟩)
  · exact List.mem_append_right _ (by rw [← of_decide_eq_true h2]; exact h1)
theorem tab_mk {P : Program} {fns : List (Str × Fi)} {gvs : List (Str × D)} {K : PySem.W.Frag} {tbl : List (Str × De)} {sts : List Stmt} {h : Heap} {mg : Str → Option Value} (hf : fns = fnsOf tbl) (KX : K.In h) (G : h.Ns mainGlobals mg) (A : AllTx fns gvs tbl sts) (B : AllK K tbl sts)
    (bl : ∀ x ∈ bltL, PySem.W.nsIn K mainGlobals x = some none) (gv : ∀ x d, x ≠ ("gcd" : Str) → isEx d = false → gvs.lookup x = some d → ∃ u v, PySem.W.nsIn K mainGlobals x = some (some u) ∧ RelV v u ∧ ∀ G, Rp K G v d) (gc : gvs.lookup ("gcd" : Str) ≠ none → PySem.W.nsIn K mainGlobals "gcd" = some (some (.builtin "math.gcd"))) (ex : ∀ x ∈ exN gvs, ∃ a, PySem.W.nsIn K mainGlobals x = some (some (.ref a)) ∧ ExA K a)
    (exx : ∀ x ∈ exN gvs, ∀ y ∈ exN gvs, PrK K x y) (exq : ∀ x d, gvs.lookup x = some d → isPl d = true → ∃ a, PySem.W.nsIn K mainGlobals x = some (some (.ref a)) ∧ ExA K a ∧ PySem.W.excIn K a bmV "ValueError.__new__" = true)
    (exi : ∀ x d f, gvs.lookup x = some d → exFl d = some f → ∃ a, PySem.W.nsIn K mainGlobals x = some (some (.ref a)) ∧ IN.IniC P K a f) : TabOk P tbl gvs K mg where
  defs := fun x e he => by
    subst hf
    obtain ⟨st, t, f, oc, od, an, osl, kV, doc, pm, cdv, ct, a, l, c, k⟩ := all_at A B he
    have F := fun_mk (st := st) l c k
    exact ⟨f, _, x, st, 60, 60, PySem.W.mg_of KX G a, F, t.sc, t.code, F.binds t.pos, fun ks perm q s ws us _ h1 h2 => .of_eq (t.kws ks perm q kV doc pm an cdv ct ws us h1 h2)⟩
  bl := fun x hx => PySem.W.mg_none_of KX G (bl x (bltN_in hx))
  gvs := fun x d hx hi hd => let ⟨u, v, q1, q2, q3⟩ := gv x d hx hi hd; ⟨u, v, PySem.W.mg_of KX G q1, q2, q3⟩
  gc := fun h => PySem.W.mg_of KX G (gc h)
  ex := fun x hx => let ⟨a, q1, q2⟩ := ex x hx; ⟨a, PySem.W.mg_of KX G q1, q2⟩
  exq := fun x d h1 h2 => let ⟨a, q1, q2⟩ := exq x d h1 h2; ⟨a, PySem.W.mg_of KX G q1, q2⟩
  exi := fun x d f h1 h2 => let ⟨a, q1, q2⟩ := exi x d f h1 h2; ⟨a, PySem.W.mg_of KX G q1, q2⟩
  exx := fun x hx y hy a b ha hb => by
    obtain ⟨a', b', q1, q2, q3, q4⟩ := exx x hx y hy
    have e1 := (PySem.W.mg_of KX G q1).symm.trans ha
    have e2 := (PySem.W.mg_of KX G q2).symm.trans hb
    cases e1
    cases e2
    exact ⟨q3, q4⟩
theorem ints_rp {K : PySem.W.Frag} {H : Hp} : ∀ ns : List Int, RpAll K H (ns.map V.int) (ns.map PyData.int)
  | [] => .nil
  | n :: ns => .cons (.int n) (ints_rp ns)
/-- the law's row, from what the evaluator says of it -/
theorem law_F {P : Program} {w : World} {gvs : List (Str × D)} {K : PySem.W.Frag} {tbl : List (Str × De)} {mg : Str → Option Value} {n : Nat} {e : De} {fa : Addr} {k : Nat} (T : TabOk P tbl gvs K mg) (he : tbl.lookup (Str.ofString "law") = some e) (hp : e.fi = ⟨false, false, ["script"], []⟩) (hmg : mg "law" = some (.ref fa))
    (hl : ∀ ns : List Int, ns.length ≤ n → calN tbl k "law" [.list (ns.map .int)] = .ok (.bool true) none) :
    ∃ (fd : FuncData) (sp : Sp), (∀ (s : Shared) (u : Value), K.In s.heap → BindsTo s fd ⟨[u], []⟩ [(("script" : Str), u)]) ∧ (∀ base : Heap, K.In base → base.Ns mainGlobals mg → FnG P w K mg base k fa fd ["script"] sp) ∧
      ∀ (H : Hp) (a : Addr) (ns : List Int), ns.length ≤ n → Ls K H a (ns.map V.int) → sp [.ref a] H (fun v _ => v = .bl true) fun _ _ _ => False := by
  obtain ⟨f, fd, D⟩ := T.defs "law" e he
  obtain ⟨qual, st, m, n', h1, h2, h3, h4, h5, h6⟩ := id D
  rw [hp] at h5
  have ef : f = fa := by rw [hmg] at h1; cases h1; rfl
  subst ef
  refine ⟨fd, spD K mg (calN tbl k) "law" false 1, fun s u ks => h5 s [u] ks rfl, fun base _ _ => ?_, fun H a ns hn hs => ⟨H, [.list (ns.map .int)], none, rfl, Same.refl H, rfl, .cons (.lst hs (ints_rp ns)) .nil, ?_⟩⟩
  · have q := tab_all (P := P) (w := w) (base := base) T k "law" e f fd he D
    rw [hp] at q
    exact q
  · rw [hl ns hn]
    intro v G' H' _ _ _ rp _
    cases rp
    rfl
/-! what the written part says, fact by fact -/
def bltS : List Str := ["abs", "max", "min", "int", "len", "str", "list", "tuple", "divmod", "sum", "all", "repr", "sorted", "isinstance", "bool", "range", "enumerate", "zip", "reversed", "set", "any", "dict"]
theorem bltS_all : ∀ x ∈ bltL, x ∈ bltS := by decide +kernel
def BlK (K : PySem.W.Frag) : List Str → Prop
  | [] => True
  | x :: xs => PySem.W.nsIn K mainGlobals x = some none ∧ BlK K xs
theorem blK_at {K : PySem.W.Frag} {x : Str} : ∀ {xs : List Str}, BlK K xs → x ∈ xs → PySem.W.nsIn K mainGlobals x = some none
  | [], _, h => by cases h
  | y :: ys, b, h => by
    rcases List.mem_cons.mp h with e | e
    · rw [e]; exact b.1
    · exact blK_at b.2 e
def GvK0 (K : PySem.W.Frag) (x : Str) (d : D) : Prop := ∃ u v, PySem.W.nsIn K mainGlobals x = some (some u) ∧ RelV v u ∧ ∀ G, Rp K G v d
def ExK (P : Program) (K : PySem.W.Frag) (x : Str) (d : D) : Prop := ∃ a, PySem.W.nsIn K mainGlobals x = some (some (.ref a)) ∧ ExA K a ∧ (isPl d = true → PySem.W.excIn K a bmV "ValueError.__new__" = true) ∧ ∀ f, exFl d = some f → IN.IniC P K a f
def GvK (P : Program) (K : PySem.W.Frag) (x : Str) (d : D) : Prop := (x ≠ ("gcd" : Str) → if isEx d = true then ExK P K x d else GvK0 K x d) ∧ (x = ("gcd" : Str) → PySem.W.nsIn K mainGlobals "gcd" = some (some (.builtin "math.gcd")))
theorem gv_of {P : Program} {K : PySem.W.Frag} {x : Str} {d : D} (h : GvK0 K x d) (hx : x ≠ ("gcd" : Str) := by decide) (hd : isEx d = false := by rfl) : GvK P K x d := ⟨fun _ => by rw [if_neg (by rw [hd]; exact Bool.false_ne_true)]; exact h, fun z => absurd z hx⟩
def exD : D := .dict [(.none, .none)]
theorem gv_ex {P : Program} {K : PySem.W.Frag} {x : Str} {a : Addr} (h : PySem.W.nsIn K mainGlobals x = some (some (.ref a))) (q : PySem.W.excIn K a bmV "ValueError.__new__" = true) (kp : PySem.W.keepIn K (.ref a) = true) (ty : PySem.W.typeIn K (.ref a) = some (.type "type"))
    (c1 : PySem.W.findIn K (.ref a) "__getattribute__" = some (some (.builtin "BaseException.__getattribute__"))) (c2 : PySem.W.findIn K (.ref a) "__getattr__" = some none) (c3 : PySem.W.subIn K (.ref a) (.type "BaseException") = some true) (c4 : PySem.W.hasDictIn K a = true)
    (c5 : PySem.W.findIn K (.ref a) "__class__" = some (some (.builtin "object.__class__"))) (c6 : PySem.W.specialIn K (.builtin "object.__class__") "__get__" = some (some (.builtin "getset_descriptor.__get__"))) (c7 : PySem.W.takesIn K (.builtin "object.__class__") = some true) (c8 : PySem.W.mroIn K a (.type "object") = some true)
    (hx : x ≠ ("gcd" : Str) := by decide) : GvK P K x exD := ⟨fun _ => ⟨a, h, ⟨kp, ty, c1, c2, c3, c4, c5, c6, c7, c8⟩, fun _ => q, (fun f z => by cases z)⟩, fun z => absurd z hx⟩
/-- a class with an __init__ of its own -/
def exI (f : Str) : D := .dict [(.none, .str f)]
def initOf : Stmt → Stmt
  | .ClassDef _ _ _ body _ _ _ _ _ _ _ => (body.find? fun s => match s with
    | .FunctionDef n .. => decide (n = ("__init__" : Str))
    | _ => false).getD (.Pass ⟨0, 0, 0, 0⟩)
  | s => s
theorem ini_mk {prog : Program} {K : PySem.W.Frag} {C : Addr} {fld : Str} (st : Stmt) (q : Str) {fI cc cda : Addr} {name qual file : Str} {tf : Tok} {oc kV doc pm ct ccl cl : Value} {an od cdd cld : Option Addr} {osl ccs csl : Array (Option Value)} {vs : Array Value} {nm qn : Str} {N : Addr} {bs bm : List Value} {sn : List Str} {sub : List Value} {ab : Bool} {col : Option Bool} {dd : Option Addr} {k0 k1 k2 k3 k5 : Option Value}
    (i9 : IN.IniT st q fld) (i10 : ∀ (name qual : Str) (cc : Addr) (kV doc pm : Value) (an : Option Addr) (cdv ct u v : Value), bindArgs (fnX name qual (defArgs st) (defBody st) (defScope st) [("__class__", cc)] .none kV doc pm an cdv ct) ⟨[u, v], []⟩ = pure [(("self" : Str), u), (q, v)])
    (i1 : PySem.W.findIn K (.ref C) "__init__" = some (some (.ref fI))) (i2 : PySem.W.typeIn K (.ref fI) = some (.type "function")) (i3 : K.lookup fI = some ⟨oc, od, .func (fnX name qual (defArgs st) (defBody st) (defScope st) [("__class__", cc)] .none kV doc pm an (.ref cda) ct), osl⟩)
    (i4 : PySem.W.codeIn K (.ref cda) qual = true) (i5 : K.lookup cda = some ⟨ccl, cdd, .fields vs, ccs⟩) (i6 : vs[2]? = some (.str file tf)) (i7 : ((prog.main.file : Str) == file) = true) (i8 : K.lookup cc = some ⟨cl, cld, .cell (some (.ref C)), csl⟩)
    (o1 : K.lookup C = some (excClassObj nm qn C N bs bm true sn sub ab col dd k0 k1 k2 k3 k5 "ValueError.__new__")) (o2 : PySem.HandSPX.refsVE bm = true) (o3 : PySem.W.findIn K (.ref C) "__setattr__" = some (some (.builtin "object.__setattr__"))) (o4 : PySem.W.subIn K (.ref C) (.type "BaseException") = some true)
    (o5 : PySem.W.typeIn K (.ref C) = some (.type "type")) (o6 : PySem.W.keepIn K (.ref C) = true) (t1 : (prog.main.scope.names.lookup ("super" : Str)).isSome = false) (t2 : PySem.W.nsIn K cStatics "thirdparty.any" = some none) (t3 : PySem.W.nsIn K mainGlobals "super" = some none)
    (t4 : PySem.W.ks_superIn K C C "__init__" = some (some (.builtin "ValueError.__init__"))) (t5 : PySem.W.subIn K (.ref C) (.type "ValueError") = some true) (t6 : PySem.W.mroIn K C (.ref C) = some true) (t7 : PySem.W.findIn K (.ref C) fld = some none) : IN.IniC prog K C fld :=
  ⟨⟨⟨nm, qn, N, bs, bm, sn, sub, ab, col, dd, k0, k1, k2, k3, k5, o1, o2⟩, o3, o4, o5, o6⟩, t1, t2, t3, t4, t5, t6, t7, fI, cc, cda, st, name, qual, q, file, tf, oc, .none, kV, doc, pm, ct, ccl, cl, an, od, cdd, cld, osl, ccs, csl, vs, i1, i2, i3, i4, i5, i6, i7, i8, i9,
    fun s u v => .of_eq (i10 name qual cc kV doc pm an (.ref cda) ct u v)⟩
theorem gv_exi {P : Program} {K : PySem.W.Frag} {x f : Str} {a : Addr} (h : PySem.W.nsIn K mainGlobals x = some (some (.ref a))) (I : IN.IniC P K a f) (kp : PySem.W.keepIn K (.ref a) = true) (ty : PySem.W.typeIn K (.ref a) = some (.type "type"))
    (c1 : PySem.W.findIn K (.ref a) "__getattribute__" = some (some (.builtin "BaseException.__getattribute__"))) (c2 : PySem.W.findIn K (.ref a) "__getattr__" = some none) (c3 : PySem.W.subIn K (.ref a) (.type "BaseException") = some true) (c4 : PySem.W.hasDictIn K a = true)
    (c5 : PySem.W.findIn K (.ref a) "__class__" = some (some (.builtin "object.__class__"))) (c6 : PySem.W.specialIn K (.builtin "object.__class__") "__get__" = some (some (.builtin "getset_descriptor.__get__"))) (c7 : PySem.W.takesIn K (.builtin "object.__class__") = some true) (c8 : PySem.W.mroIn K a (.type "object") = some true)
    (hx : x ≠ ("gcd" : Str) := by decide) : GvK P K x (exI f) := ⟨fun _ => ⟨a, h, ⟨kp, ty, c1, c2, c3, c4, c5, c6, c7, c8⟩, (fun z => by cases z), (fun g z => by cases z; exact I)⟩, fun z => absurd z hx⟩
theorem gv_gcd {P : Program} {K : PySem.W.Frag} {d : D} (h : PySem.W.nsIn K mainGlobals "gcd" = some (some (.builtin "math.gcd"))) : GvK P K "gcd" d := ⟨fun z => absurd rfl z, fun _ => h⟩
def GvAll (P : Program) (K : PySem.W.Frag) : List (Str × D) → Prop
  | [] => True
  | (x, d) :: r => GvK P K x d ∧ GvAll P K r
theorem gv_at {P : Program} {K : PySem.W.Frag} {x : Str} {d : D} : ∀ {l : List (Str × D)}, GvAll P K l → l.lookup x = some d → GvK P K x d
  | [], _, h => by cases h
  | (y, e) :: r, g, h => by
    rw [List.lookup_cons] at h
    cases hb : x == y with
    | true =>
      rw [hb] at h
      cases h
      have e : x = y := by simpa using hb
      subst e
      exact g.1
    | false =>
      rw [hb] at h
      exact gv_at g.2 h
theorem gv_str {K : PySem.W.Frag} {x s : Str} {t : Tok} (h : PySem.W.nsIn K mainGlobals x = some (some (.str s t))) : GvK0 K x (.str s) := ⟨_, .str s, h, ⟨t, rfl⟩, fun _ => .str s⟩
theorem gv_int {K : PySem.W.Frag} {x : Str} {i : Int} {t : Tok} (h : PySem.W.nsIn K mainGlobals x = some (some (.int i t))) : GvK0 K x (.int i) := ⟨_, .int i, h, ⟨t, rfl⟩, fun _ => .int i⟩
def strsD (zs : List Str) : D := .tuple (zs.map .str)
theorem strs_rp {K : PySem.W.Frag} {G : Hp} : ∀ zs : List Str, RpAll K G (zs.map V.str) (zs.map PyData.str)
  | [] => .nil
  | z :: zs => .cons (.str z) (strs_rp zs)
theorem gv_tup {K : PySem.W.Frag} {x : Str} {a : Addr} {od : Option Addr} {its : Array Value} {n : Nat} {sl : Array (Option Value)} (zs : List Str) (h : PySem.W.nsIn K mainGlobals x = some (some (.ref a))) (l : K.lookup a = some ⟨.type "tuple", od, .seq its n, sl⟩) (z : its.size ≤ sizeLine) (r : Vals (zs.map V.str) its.toList) : GvK0 K x (strsD zs) :=
  ⟨_, .ref a, h, rfl, fun G => .tup (.inr ⟨_, its, n, l, rfl, rfl, z, r⟩) (strs_rp zs)⟩
theorem gv_in {P : Program} {K : PySem.W.Frag} {x : Str} : ∀ {l : List (Str × D)}, GvAll P K l → x ∈ exN l → x ≠ ("gcd" : Str) → ∃ d, ExK P K x d
  | [], _, h, _ => by cases h
  | (y, e) :: r, g, h, hx => by
    unfold exN at h
    by_cases he : isEx e = true
    · rw [List.filter_cons_of_pos (p := fun y : Str × D => isEx y.2) (a := (y, e)) he, List.map_cons] at h
      rcases List.mem_cons.mp h with q | q
      · have q' : x = y := q
        subst q'
        have := g.1.1 hx
        rw [if_pos he] at this
        exact ⟨_, this⟩
      · exact gv_in g.2 q hx
    · rw [List.filter_cons_of_neg (p := fun y : Str × D => isEx y.2) (a := (y, e)) he] at h
      exact gv_in g.2 h hx
theorem gcd_ne {gvs : List (Str × D)} {x : Str} (ng : (exN gvs).contains ("gcd" : Str) = false) (hx : x ∈ exN gvs) : x ≠ ("gcd" : Str) := fun z => by
  rw [z] at hx
  rw [List.contains_iff_mem.mpr hx] at ng
  cases ng
theorem ex_mem {gvs : List (Str × D)} {x : Str} {d : D} (h : gvs.lookup x = some d) (he : isEx d = true) : x ∈ exN gvs := List.mem_map.mpr ⟨(x, d), List.mem_filter.mpr ⟨PySem.mem_of_lookup h, he⟩, rfl⟩
theorem pl_ex {d : D} (h : isPl d = true) : isEx d = true := by
  unfold isPl at h
  split at h
  · rfl
  · cases h
theorem fl_ex {d : D} {f : Str} (h : exFl d = some f) : isEx d = true := by
  unfold exFl at h
  split at h
  · rfl
  · cases h
theorem gv_all {P : Program} {K : PySem.W.Frag} {gvs : List (Str × D)} (gv : GvAll P K gvs) (ng : (exN gvs).contains ("gcd" : Str) = false) {x : Str} {d : D} (h : gvs.lookup x = some d) (he : isEx d = true) : ExK P K x d := by
  have := (gv_at gv h).1 (gcd_ne ng (ex_mem h he))
  rwa [if_pos he] at this
theorem tab_go {P : Program} {fns : List (Str × Fi)} {gvs : List (Str × D)} {K : PySem.W.Frag} {tbl : List (Str × De)} {sts : List Stmt} {h : Heap} {mg : Str → Option Value} (hf : fns = fnsOf tbl) (A : AllTx fns gvs tbl sts) (KX : K.In h) (G : h.Ns mainGlobals mg) (B : AllK K tbl sts) (bl : BlK K bltS) (gv : GvAll P K gvs)
    (px : PrAll K (exN gvs) (exN gvs)) (ng : (exN gvs).contains ("gcd" : Str) = false) : TabOk P tbl gvs K mg :=
  tab_mk hf KX G A B (fun x hx => blK_at bl (bltS_all x hx)) (fun x d hx hi hd => by
      have := (gv_at gv hd).1 hx
      rwa [if_neg (by rw [hi]; exact Bool.false_ne_true)] at this) (fun h => by
    cases q : gvs.lookup ("gcd" : Str) with
    | none => exact absurd q h
    | some d => exact (gv_at gv q).2 rfl) (fun x hx => let ⟨d, a, q1, q2, _⟩ := gv_in gv hx (gcd_ne ng hx); ⟨a, q1, q2⟩) (fun x hx y hy => prRow_at (prAll_at px hx) hy)
    (fun x d h1 h2 => let ⟨a, q1, q2, q3, _⟩ := gv_all gv ng h1 (pl_ex h2); ⟨a, q1, q2, q3 h2⟩) (fun x d f h1 h2 => let ⟨a, q1, _, _, q4⟩ := gv_all gv ng h1 (fl_ex h2); ⟨a, q1, q4 f h2⟩)
end Ev


namespace Ev
open PySem
theorem lookup_mem {β : Type} {x : List Str} {y : β} : ∀ {l : List (List Str × β)}, l.lookup x = some y → (x, y) ∈ l
  | [], h => by cases h
  | (k, v) :: l, h => by
    rw [List.lookup_cons] at h
    cases hb : x == k with
    | true =>
      rw [hb] at h
      cases h
      have e : x = k := by simpa using hb
      subst e
      exact List.mem_cons_self
    | false =>
      rw [hb] at h
      exact List.mem_cons_of_mem _ (lookup_mem h)
end Ev


set_option Elab.async false
set_option linter.all false
set_option maxRecDepth 100000
set_option maxHeartbeats 4000000
namespace K05
open PySem PySem.Spec PyProof.Rows L2 PySem.W Ev
def top (i : Nat) : Stmt := PySem.Challenge.pw_litdigits_k05_displays_and_lit_ticks.main.body.getD i (.Pass ⟨0, 0, 0, 0⟩)
abbrev s_is_integer : Stmt := top 6
abbrev s_is_from : Stmt := top 7
abbrev s_is_within : Stmt := top 8
abbrev s_check_tick : Stmt := top 9
abbrev s_check_display : Stmt := top 14
abbrev s_is_place : Stmt := top 15
abbrev s_check_place : Stmt := top 16
abbrev s_is_display : Stmt := top 17
abbrev s_round_of : Stmt := top 18
abbrev s_is_lit : Stmt := top 19
abbrev s_place_at : Stmt := top 20
abbrev s_lit_place : Stmt := top 21
abbrev s_lit_ahead : Stmt := top 22
abbrev s_lit_between : Stmt := top 23
abbrev s_lit_ticks : Stmt := top 24
abbrev s__law_source : Stmt := top 26
abbrev s__law_draw : Stmt := top 27
abbrev s__law_pane : Stmt := top 28
abbrev s__law_is_lit : Stmt := top 29
abbrev s__law_things : Stmt := top 30
abbrev s__law_is_right : Stmt := top 31
abbrev s__law_ticks_right : Stmt := top 32
abbrev s__law_windows_right : Stmt := top 33
abbrev s_law : Stmt := top 34
def gvs : List (Str × PyData) := [("MOST_PLACES", .int 8), ("NOW", .str "now"), ("ROUND", .str "round"), ("LitError", exD), ("InvalidPlace", exD), ("InvalidTick", exD), ("InvalidDisplay", exI "index")]
def f_is_integer : Fi := ⟨false, false, ["value"], []⟩
def n_is_integer : List Str := ["value"]
def f_is_from : Fi := ⟨false, false, ["value", "least"], []⟩
def n_is_from : List Str := ["value", "least"]
def f_is_within : Fi := ⟨false, false, ["value", "least", "greatest"], []⟩
def n_is_within : List Str := ["value", "least", "greatest"]
def f_check_tick : Fi := ⟨false, false, ["value"], []⟩
def n_check_tick : List Str := ["value"]
def f_check_display : Fi := ⟨false, false, ["value"], []⟩
def n_check_display : List Str := ["value", "places", "slot", "lit", "driver"]
def f_is_place : Fi := ⟨false, false, ["display", "value"], []⟩
def n_is_place : List Str := ["display", "value"]
def f_check_place : Fi := ⟨false, false, ["display", "value"], []⟩
def n_check_place : List Str := ["display", "value"]
def f_is_display : Fi := ⟨false, false, ["value"], [(["value"], [0])]⟩
def n_is_display : List Str := ["value"]
def f_round_of : Fi := ⟨false, false, ["display"], [(["display"], [0])]⟩
def n_round_of : List Str := ["display"]
def f_is_lit : Fi := ⟨false, false, ["display", "place", "tick"], [(["tick", "place", "display"], [2, 1, 0])]⟩
def n_is_lit : List Str := ["display", "place", "tick", "places", "slot", "lit", "_"]
def f_place_at : Fi := ⟨false, false, ["display", "tick"], []⟩
def n_place_at : List Str := ["display", "tick", "places", "slot", "lit", "_", "place", "past"]
def f_lit_place : Fi := ⟨false, false, ["display", "tick"], [(["tick", "display"], [1, 0])]⟩
def n_lit_place : List Str := ["display", "tick"]
def f_lit_ahead : Fi := ⟨false, false, ["display", "place", "tick"], []⟩
def n_lit_ahead : List Str := ["display", "place", "tick", "places", "slot", "lit", "_", "turns", "past"]
def f_lit_between : Fi := ⟨false, false, ["display", "place", "begin", "end"], []⟩
def n_lit_between : List Str := ["display", "place", "begin", "end"]
def f_lit_ticks : Fi := ⟨false, false, ["display", "place", "begin", "end"], [(["end", "begin", "place", "display"], [3, 2, 1, 0])]⟩
def n_lit_ticks : List Str := ["display", "place", "begin", "end"]
def f__law_source : Fi := ⟨false, true, ["script", "at"], []⟩
def n__law_source : List Str := ["script", "at", "cell", "left"]
def f__law_draw : Fi := ⟨true, false, ["source", "many"], []⟩
def n__law_draw : List Str := ["source", "many", "mixed", "drawn"]
def f__law_pane : Fi := ⟨true, false, ["source", "most", "far"], []⟩
def n__law_pane : List Str := ["source", "most", "far", "slot", "lit"]
def f__law_is_lit : Fi := ⟨false, false, ["pane", "spot", "moment"], []⟩
def n__law_is_lit : List Str := ["pane", "spot", "moment", "rest"]
def f__law_things : Fi := ⟨false, false, ["pane"], []⟩
def n__law_things : List Str := ["pane", "found", "word", "part", "places", "slot", "lit", "driver"]
def f__law_is_right : Fi := ⟨false, false, ["thing"], []⟩
def n__law_is_right : List Str := ["thing", "part"]
def f__law_ticks_right : Fi := ⟨false, false, ["pane"], []⟩
def n__law_ticks_right : List Str := ["pane", "size", "moment", "rows", "told", "due", "spot", "one"]
def f__law_windows_right : Fi := ⟨true, false, ["source", "pane"], []⟩
def n__law_windows_right : List Str := ["source", "pane", "size", "lap", "stop", "due", "spot", "start", "moment"]
def f_law : Fi := ⟨false, false, ["script"], []⟩
def n_law : List Str := ["script", "at", "pane", "told", "source", "lap", "thing", "moment"]
def fns : List (Str × Fi) := [(("is_integer" : Str), f_is_integer), (("is_from" : Str), f_is_from), (("is_within" : Str), f_is_within), (("check_tick" : Str), f_check_tick), (("check_display" : Str), f_check_display), (("is_place" : Str), f_is_place), (("check_place" : Str), f_check_place), (("is_display" : Str), f_is_display), (("round_of" : Str), f_round_of), (("is_lit" : Str), f_is_lit), (("place_at" : Str), f_place_at), (("lit_place" : Str), f_lit_place), (("lit_ahead" : Str), f_lit_ahead), (("lit_between" : Str), f_lit_between), (("lit_ticks" : Str), f_lit_ticks), (("_law_source" : Str), f__law_source), (("_law_draw" : Str), f__law_draw), (("_law_pane" : Str), f__law_pane), (("_law_is_lit" : Str), f__law_is_lit), (("_law_things" : Str), f__law_things), (("_law_is_right" : Str), f__law_is_right), (("_law_ticks_right" : Str), f__law_ticks_right), (("_law_windows_right" : Str), f__law_windows_right), (("law" : Str), f_law)]
def c_is_integer : List CS := [.ret (.and (.isi (.var 0) "int") (.not (.isi (.var 0) "bool")))]
def d_is_integer : De := ⟨n_is_integer, f_is_integer, c_is_integer⟩
def c_is_from : List CS := [.ret (.and (.isi (.var 0) "int") (.and (.not (.isi (.var 0) "bool")) (.cmp .GtE (.var 0) (.var 1))))]
def d_is_from : De := ⟨n_is_from, f_is_from, c_is_from⟩
def c_is_within : List CS := [.ret (.and (.isi (.var 0) "int") (.and (.not (.isi (.var 0) "bool")) (.chn .LtE .LtE (.var 1) (.var 0) (.var 2))))]
def d_is_within : De := ⟨n_is_within, f_is_within, c_is_within⟩
def c_check_tick : List CS := [.iff (.not (.call "is_integer" [0] [(.var 0)])) [.rai "InvalidTick"] []]
def d_check_tick : De := ⟨n_check_tick, f_check_tick, c_check_tick⟩
def c_check_display : List CS := [.iff (.or (.not (.isi (.var 0) "tuple")) (.cmp .NotEq (.blt .len [(.var 0)]) (.cst (PyData.int 4)))) [.rax "InvalidDisplay" "index" (.cst PyData.none)] [], .unp [1, 2, 3, 4] (.var 0), .iff (.not (.call "is_within" [0, 1, 2] [(.var 1), (.cst (PyData.int 1)), (.gcn "MOST_PLACES" (PyData.int 8))])) [.rax "InvalidDisplay" "index" (.cst (PyData.int 0))] [], .iff (.not (.call "is_from" [0, 1] [(.var 2), (.cst (PyData.int 1))])) [.rax "InvalidDisplay" "index" (.cst (PyData.int 1))] [], .iff (.not (.call "is_within" [0, 1, 2] [(.var 3), (.cst (PyData.int 1)), (.var 2)])) [.rax "InvalidDisplay" "index" (.cst (PyData.int 2))] [], .iff (.or (.not (.isi (.var 4) "str")) (.cmp .NotIn (.var 4) (.tup [(.gcn "NOW" (PyData.str "now")), (.gcn "ROUND" (PyData.str "round"))]))) [.rax "InvalidDisplay" "index" (.cst (PyData.int 3))] []]
def d_check_display : De := ⟨n_check_display, f_check_display, c_check_display⟩
def c_is_place : List CS := [.ret (.call "is_within" [0, 1, 2] [(.var 1), (.cst (PyData.int 0)), (.bin .Sub (.idv 0 (.cst (PyData.int 0))) (.cst (PyData.int 1)))])]
def d_is_place : De := ⟨n_is_place, f_is_place, c_is_place⟩
def c_check_place : List CS := [.iff (.not (.call "is_place" [0, 1] [(.var 0), (.var 1)])) [.rai "InvalidPlace"] []]
def d_check_place : De := ⟨n_check_place, f_check_place, c_check_place⟩
def c_is_display : List CS := [.tra ["LitError", "InvalidPlace", "InvalidTick", "InvalidDisplay"] [.exp (.call "check_display" [0] [(.var 0)])] [⟨"InvalidDisplay", none, (.retC (PyData.bool false))⟩], .ret (.cst (PyData.bool true))]
def d_is_display : De := ⟨n_is_display, f_is_display, c_is_display⟩
def c_round_of : List CS := [.exp (.call "check_display" [0] [(.var 0)]), .ret (.bin .Mult (.idv 0 (.cst (PyData.int 0))) (.idv 0 (.cst (PyData.int 1))))]
def d_round_of : De := ⟨n_round_of, f_round_of, c_round_of⟩
def c_is_lit : List CS := [.exp (.call "check_display" [0] [(.var 0)]), .exp (.call "check_place" [0, 1] [(.var 0), (.var 1)]), .exp (.call "check_tick" [0] [(.var 2)]), .unp [3, 4, 5, 6] (.var 0), .ret (.cmp .Lt (.bin .Mod (.bin .Sub (.var 2) (.bin .Mult (.var 1) (.var 4))) (.bin .Mult (.var 3) (.var 4))) (.var 5))]
def d_is_lit : De := ⟨n_is_lit, f_is_lit, c_is_lit⟩
def c_place_at : List CS := [.unp [2, 3, 4, 5] (.var 0), .unp [6, 7] (.blt .divmod [(.bin .Mod (.var 1) (.bin .Mult (.var 2) (.var 3))), (.var 3)]), .ret (.ite (.cmp .Lt (.var 7) (.var 4)) (.var 6) (.cst PyData.none))]
def d_place_at : De := ⟨n_place_at, f_place_at, c_place_at⟩
def c_lit_place : List CS := [.exp (.call "check_display" [0] [(.var 0)]), .exp (.call "check_tick" [0] [(.var 1)]), .ret (.call "place_at" [0, 1] [(.var 0), (.var 1)])]
def d_lit_place : De := ⟨n_lit_place, f_lit_place, c_lit_place⟩
def c_lit_ahead : List CS := [.unp [3, 4, 5, 6] (.var 0), .unp [7, 8] (.blt .divmod [(.bin .Sub (.var 2) (.bin .Mult (.var 1) (.var 4))), (.bin .Mult (.var 3) (.var 4))]), .ret (.bin .Add (.bin .Mult (.var 7) (.var 5)) (.blt .min [(.var 8), (.var 5)]))]
def d_lit_ahead : De := ⟨n_lit_ahead, f_lit_ahead, c_lit_ahead⟩
def c_lit_between : List CS := [.ret (.bin .Sub (.call "lit_ahead" [0, 1, 2] [(.var 0), (.var 1), (.var 3)]) (.call "lit_ahead" [0, 1, 2] [(.var 0), (.var 1), (.var 2)]))]
def d_lit_between : De := ⟨n_lit_between, f_lit_between, c_lit_between⟩
def c_lit_ticks : List CS := [.exp (.call "check_display" [0] [(.var 0)]), .exp (.call "check_place" [0, 1] [(.var 0), (.var 1)]), .exp (.call "check_tick" [0] [(.var 2)]), .exp (.call "check_tick" [0] [(.var 3)]), .ret (.ite (.cmp .Lt (.var 2) (.var 3)) (.call "lit_between" [0, 1, 2, 3] [(.var 0), (.var 1), (.var 2), (.var 3)]) (.cst (PyData.int 0)))]
def d_lit_ticks : De := ⟨n_lit_ticks, f_lit_ticks, c_lit_ticks⟩
def c__law_source : List CS := [.asg 2 (.ite (.cmp .Lt (.var 1) (.blt .len [(.var 0)])) (.idv 0 (.var 1)) (.cst (PyData.int 0))), .asg 3 (.ite (.cmp .GtE (.blt .abs [(.var 2)]) (.bin .Pow (.cst (PyData.int 10)) (.cst (PyData.int 18)))) (.bin .Sub (.blt .abs [(.var 2)]) (.bin .Pow (.cst (PyData.int 10)) (.cst (PyData.int 18)))) (.cst (PyData.int 0))), .retO (.lst [(.var 3), (.bin .Add (.bin .Mod (.blt .int [(.var 2)]) (.cst (PyData.int 2305843009213693951))) (.bin .Mult (.cst (PyData.int 1000003)) (.var 1))), (.cst (PyData.int 0))])]
def d__law_source : De := ⟨n__law_source, f__law_source, c__law_source⟩
def c__law_draw : List CS := [.iff (.cmp .Gt (.idv 0 (.cst (PyData.int 0))) (.cst (PyData.int 0))) [.asg 3 (.bin .Mod (.blt .int [(.idv 0 (.cst (PyData.int 0)))]) (.var 1)), .sub 0 (.cst (PyData.int 0)) (.bin .FloorDiv (.idv 0 (.cst (PyData.int 0))) (.var 1)), .ret (.var 3)] [], .sub 0 (.cst (PyData.int 2)) (.bin .Add (.idv 0 (.cst (PyData.int 2))) (.cst (PyData.int 1))), .asg 2 (.bin .Add (.idv 0 (.cst (PyData.int 1))) (.bin .Mult (.cst (PyData.int 2750159)) (.idv 0 (.cst (PyData.int 2))))), .asg 2 (.bin .Add (.bin .Mod (.blt .int [(.bin .Pow (.var 2) (.cst (PyData.int 3)))]) (.bin .Add (.bin .Pow (.cst (PyData.int 10)) (.cst (PyData.int 38))) (.cst (PyData.int 133)))) (.bin .Mult (.cst (PyData.int 7368787)) (.idv 0 (.cst (PyData.int 2))))), .asg 2 (.bin .Mod (.blt .int [(.bin .Pow (.var 2) (.cst (PyData.int 3)))]) (.bin .Add (.bin .Pow (.cst (PyData.int 10)) (.cst (PyData.int 41))) (.cst (PyData.int 217)))), .ret (.bin .Mod (.blt .int [(.bin .FloorDiv (.var 2) (.cst (PyData.int 1000003)))]) (.var 1))]
def d__law_draw : De := ⟨n__law_draw, f__law_draw, c__law_draw⟩
def c__law_pane : List CS := [.asg 3 (.bin .Add (.cst (PyData.int 1)) (.cio "_law_draw" 0 [(.idx (.lst [(.cst (PyData.int 4)), (.cst (PyData.int 12)), (.var 2)]) (.cio "_law_draw" 0 [(.cst (PyData.int 3))]))])), .asg 4 (.idx (.lst [(.cst (PyData.int 1)), (.var 3), (.bin .Add (.cst (PyData.int 1)) (.cio "_law_draw" 0 [(.var 3)]))]) (.cio "_law_draw" 0 [(.cst (PyData.int 3))])), .ret (.tup [(.bin .Add (.cst (PyData.int 1)) (.cio "_law_draw" 0 [(.var 1)])), (.var 3), (.var 4), (.idx (.lst [(.cst (PyData.str "now")), (.cst (PyData.str "round"))]) (.cio "_law_draw" 0 [(.cst (PyData.int 2))]))])]
def d__law_pane : De := ⟨n__law_pane, f__law_pane, c__law_pane⟩
def c__law_is_lit : List CS := [.asg 3 (.bin .Mod (.blt .int [(.bin .Sub (.var 2) (.bin .Mult (.var 1) (.idv 0 (.cst (PyData.int 1)))))]) (.bin .Mult (.idv 0 (.cst (PyData.int 0))) (.idv 0 (.cst (PyData.int 1))))), .ret (.cmp .Lt (.var 3) (.idv 0 (.cst (PyData.int 2))))]
def d__law_is_lit : De := ⟨n__law_is_lit, f__law_is_lit, c__law_is_lit⟩
def c__law_things : List CS := [.unp [4, 5, 6, 7] (.var 0), .own 1 (.lst [(.var 0), (.tup [(.var 4), (.var 5), (.var 5), (.var 7)]), (.tup [(.var 4), (.var 5), (.bin .Add (.var 5) (.cst (PyData.int 1))), (.var 7)]), (.tup [(.var 4), (.var 5), (.cst (PyData.int 0)), (.var 7)])]), .own 1 (.bin .Add (.var 1) (.lst [(.tup [(.cst (PyData.int 8)), (.var 5), (.var 6), (.cst (PyData.str "now"))]), (.tup [(.cst (PyData.int 9)), (.var 5), (.var 6), (.cst (PyData.str "now"))]), (.tup [(.cst (PyData.int 0)), (.var 5), (.var 6), (.var 7)]), (.tup [(.neg (.cst (PyData.int 1))), (.var 5), (.var 6), (.var 7)])])), .own 1 (.bin .Add (.var 1) (.lst [(.tup [(.var 4), (.cst (PyData.int 0)), (.cst (PyData.int 0)), (.var 7)]), (.tup [(.var 4), (.neg (.cst (PyData.int 3))), (.neg (.cst (PyData.int 4))), (.var 7)]), (.tup [(.var 4), (.var 5), (.neg (.cst (PyData.int 1))), (.var 7)]), (.tup [(.cst (PyData.int 1)), (.cst (PyData.int 1)), (.cst (PyData.int 1)), (.cst (PyData.str "round"))])])), .fr 9 [(.lst [(.cst (PyData.str "Now")), (.cst (PyData.str "")), (.cst (PyData.str "rounds")), (.cst (PyData.str "now ")), (.cst PyData.none), (.cst (PyData.int 0)), (.cst (PyData.bool true)), (.tup [(.cst (PyData.str "now"))]), (.lst [(.cst (PyData.str "now"))]), (.cst (PyData.str "NOW"))])] [2] true [.app 1 (.tup [(.var 4), (.var 5), (.var 6), (.var 2)])], .fr 9 [(.lst [(.cst (PyData.bool true)), (.cst PyData.none), (.cst (PyData.str "1")), (.lst [(.cst (PyData.int 1))]), (.tup [(.cst (PyData.int 1))]), (.cst (PyData.bool false))])] [3] true [.own 1 (.bin .Add (.var 1) (.lst [(.tup [(.var 3), (.var 5), (.var 6), (.var 7)]), (.tup [(.var 4), (.var 3), (.cst (PyData.int 1)), (.var 7)]), (.tup [(.var 4), (.var 5), (.var 3), (.var 7)])]))], .own 1 (.bin .Add (.var 1) (.lst [(.blt .list [(.var 0)]), (.slc (.var 0) none (some (.cst (PyData.int 3)))), (.bin .Add (.var 0) (.tup [(.cst (PyData.int 1))])), (.tup []), (.lst []), (.cst PyData.none), (.cst (PyData.int 3)), (.cst (PyData.str "3x10/8 now")), .dct, (.cst (PyData.bool true)), (.tup [(.var 0)])])), .ret (.bin .Add (.var 1) (.lst [(.tup [(.var 4), (.bin .Pow (.cst (PyData.int 10)) (.cst (PyData.int 29))), (.var 6), (.var 7)]), (.tup [(.var 4), (.bin .Pow (.cst (PyData.int 10)) (.cst (PyData.int 29))), (.bin .Pow (.cst (PyData.int 10)) (.cst (PyData.int 29))), (.var 7)])]))]
def d__law_things : De := ⟨n__law_things, f__law_things, c__law_things⟩
def c__law_is_right : List CS := [.iff (.or (.not (.isi (.var 0) "tuple")) (.cmp .NotEq (.blt .len [(.var 0)]) (.cst (PyData.int 4)))) [.ret (.cst (PyData.bool false))] [], .iff (.cmp .NotEq (.comp 9 [(.slc (.var 0) none (some (.cst (PyData.int 3))))] [1] true [1] (some (.or (.not (.isi (.var 1) "int")) (.isi (.var 1) "bool"))) (.cst (PyData.int 1))) (.lst [])) [.ret (.cst (PyData.bool false))] [], .iff (.or (.not (.isi (.idv 0 (.cst (PyData.int 3))) "str")) (.cmp .NotIn (.idv 0 (.cst (PyData.int 3))) (.tup [(.cst (PyData.str "now")), (.cst (PyData.str "round"))]))) [.ret (.cst (PyData.bool false))] [], .ret (.and (.chn .LtE .LtE (.cst (PyData.int 1)) (.idv 0 (.cst (PyData.int 0))) (.cst (PyData.int 8))) (.chn .LtE .LtE (.cst (PyData.int 1)) (.idv 0 (.cst (PyData.int 2))) (.idv 0 (.cst (PyData.int 1)))))]
def d__law_is_right : De := ⟨n__law_is_right, f__law_is_right, c__law_is_right⟩
def c__law_ticks_right : List CS := [.asg 1 (.bin .Mult (.idv 0 (.cst (PyData.int 0))) (.idv 0 (.cst (PyData.int 1)))), .iff (.cmp .NotEq (.blt .repr [(.call "round_of" [0] [(.var 0)])]) (.rpo 1)) [.ret (.cst (PyData.bool false))] [], .fr 1 [(.bin .Sub (.bin .Sub (.cst (PyData.int 0)) (.var 1)) (.cst (PyData.int 1))), (.bin .Add (.bin .Mult (.cst (PyData.int 2)) (.var 1)) (.cst (PyData.int 1)))] [2] true [.own 3 (.comp 1 [(.idv 0 (.cst (PyData.int 0)))] [6] true [6] none (.call "_law_is_lit" [0, 1, 2] [(.var 0), (.var 6), (.var 2)])), .own 4 (.comp 1 [(.idv 0 (.cst (PyData.int 0)))] [6] true [6] none (.call "is_lit" [2, 1, 0] [(.var 2), (.var 6), (.var 0)])), .asg 5 (.ite (.cmp .In (.cst (PyData.bool true)) (.var 3)) (.mth .index (.var 3) [(.cst (PyData.bool true))]) (.cst PyData.none)), .iff (.or (.cmp .NotEq (.rpo 4) (.rpo 3)) (.cmp .NotEq (.blt .repr [(.call "lit_place" [1, 0] [(.var 2), (.var 0)])]) (.rpo 5))) [.ret (.cst (PyData.bool false))] [], .iff (.cmp .Gt (.blt .len [(.comp 9 [(.var 3)] [7] true [7] (some (.var 7)) (.var 7))]) (.cst (PyData.int 1))) [.ret (.cst (PyData.bool false))] []], .ret (.cst (PyData.bool true))]
def d__law_ticks_right : De := ⟨n__law_ticks_right, f__law_ticks_right, c__law_ticks_right⟩
def c__law_windows_right : List CS := [.asg 2 (.bin .Mult (.idv 1 (.cst (PyData.int 0))) (.idv 1 (.cst (PyData.int 1)))), .fr 1 [(.cst (PyData.int 12))] [3] true [.unp [6, 7] (.tup [(.cio "_law_draw" 0 [(.idv 1 (.cst (PyData.int 0)))]), (.bin .Sub (.cio "_law_draw" 0 [(.bin .Mult (.cst (PyData.int 3)) (.var 2))]) (.bin .Mult (.cst (PyData.int 2)) (.var 2)))]), .asg 4 (.bin .Sub (.bin .Add (.var 7) (.cio "_law_draw" 0 [(.bin .Add (.bin .Mult (.cst (PyData.int 4)) (.var 2)) (.cst (PyData.int 1)))])) (.idx (.lst [(.cst (PyData.int 0)), (.cst (PyData.int 0)), (.var 2)]) (.cio "_law_draw" 0 [(.cst (PyData.int 3))]))), .asg 5 (.blt .len [(.comp 1 [(.var 7), (.var 4)] [8] true [8] (some (.call "_law_is_lit" [0, 1, 2] [(.var 1), (.var 6), (.var 8)])) (.var 8))]), .iff (.cmp .NotEq (.blt .repr [(.call "lit_ticks" [3, 2, 1, 0] [(.var 4), (.var 7), (.var 6), (.var 1)])]) (.rpo 5)) [.ret (.cst (PyData.bool false))] []], .ret (.cst (PyData.bool true))]
def d__law_windows_right : De := ⟨n__law_windows_right, f__law_windows_right, c__law_windows_right⟩
def c_law : List CS := [.fr 1 [(.blt .max [(.cst (PyData.int 1)), (.blt .min [(.cst (PyData.int 5)), (.blt .len [(.var 0)])])])] [1] true [.own 4 (.call "_law_source" [0, 1] [(.var 0), (.var 1)]), .fr 1 [(.cst (PyData.int 3))] [5] true [.asg 2 (.cio "_law_pane" 4 [(.cst (PyData.int 8)), (.idx (.lst [(.cst (PyData.int 3)), (.cst (PyData.int 9)), (.cst (PyData.int 12))]) (.var 5))]), .iff (.or (.not (.call "_law_ticks_right" [0] [(.var 2)])) (.not (.cio "_law_windows_right" 4 [(.var 2)]))) [.ret (.cst (PyData.bool false))] []], .fr 9 [(.call "_law_things" [0] [(.cio "_law_pane" 4 [(.cst (PyData.int 8)), (.bin .Pow (.cst (PyData.int 10)) (.cst (PyData.int 29)))])])] [6] true [.iff (.cmp .NotEq (.blt .repr [(.call "is_display" [0] [(.var 6)])]) (.blt .repr [(.call "_law_is_right" [0] [(.var 6)])])) [.ret (.cst (PyData.bool false))] []]], .asg 2 (.tup [(.cst (PyData.int 3)), (.cst (PyData.int 10)), (.cst (PyData.int 8)), (.cst (PyData.str "now"))]), .own 3 (.comp 9 [(.tup [(.cst (PyData.int 0)), (.cst (PyData.int 8)), (.cst (PyData.int 25)), (.cst (PyData.int 29)), (.neg (.cst (PyData.int 1))), (.neg (.cst (PyData.int 5)))])] [7] true [7] none (.call "lit_place" [0, 1] [(.var 2), (.var 7)])), .ret (.and (.cmp .Eq (.var 3) (.lst [(.cst (PyData.int 0)), (.cst PyData.none), (.cst (PyData.int 2)), (.cst PyData.none), (.cst PyData.none), (.cst (PyData.int 2))])) (.cmp .Eq (.lst [(.call "lit_ticks" [0, 1, 2, 3] [(.var 2), (.cst (PyData.int 1)), (.cst (PyData.int 0)), (.cst (PyData.int 15))]), (.call "lit_ticks" [0, 1, 2, 3] [(.var 2), (.cst (PyData.int 1)), (.cst (PyData.int 12)), (.cst (PyData.int 45))])]) (.lst [(.cst (PyData.int 5)), (.cst (PyData.int 11))])))]
def d_law : De := ⟨n_law, f_law, c_law⟩
def tbl : List (Str × De) := [(("is_integer" : Str), d_is_integer), (("is_from" : Str), d_is_from), (("is_within" : Str), d_is_within), (("check_tick" : Str), d_check_tick), (("check_display" : Str), d_check_display), (("is_place" : Str), d_is_place), (("check_place" : Str), d_check_place), (("is_display" : Str), d_is_display), (("round_of" : Str), d_round_of), (("is_lit" : Str), d_is_lit), (("place_at" : Str), d_place_at), (("lit_place" : Str), d_lit_place), (("lit_ahead" : Str), d_lit_ahead), (("lit_between" : Str), d_lit_between), (("lit_ticks" : Str), d_lit_ticks), (("_law_source" : Str), d__law_source), (("_law_draw" : Str), d__law_draw), (("_law_pane" : Str), d__law_pane), (("_law_is_lit" : Str), d__law_is_lit), (("_law_things" : Str), d__law_things), (("_law_is_right" : Str), d__law_is_right), (("_law_ticks_right" : Str), d__law_ticks_right), (("_law_windows_right" : Str), d__law_windows_right), (("law" : Str), d_law)]
def sts : List Stmt := [s_is_integer, s_is_from, s_is_within, s_check_tick, s_check_display, s_is_place, s_check_place, s_is_display, s_round_of, s_is_lit, s_place_at, s_lit_place, s_lit_ahead, s_lit_between, s_lit_ticks, s__law_source, s__law_draw, s__law_pane, s__law_is_lit, s__law_things, s__law_is_right, s__law_ticks_right, s__law_windows_right, s_law]
theorem tx_is_integer : TxOk fns gvs "is_integer" d_is_integer s_is_integer := ⟨⟨rfl, rfl, rfl, by decide +kernel, rfl, by decide +kernel, by decide +kernel⟩, by kernel_rfl, fun _ _ _ _ _ _ us hl => match us, hl with | [_], _ => rfl, fun ks perm h => by
  unfold d_is_integer f_is_integer at h
  simp only [List.lookup_nil, reduceCtorEq] at h⟩
theorem tx_is_from : TxOk fns gvs "is_from" d_is_from s_is_from := ⟨⟨rfl, rfl, rfl, by decide +kernel, rfl, by decide +kernel, by decide +kernel⟩, by kernel_rfl, fun _ _ _ _ _ _ us hl => match us, hl with | [_, _], _ => rfl, fun ks perm h => by
  unfold d_is_from f_is_from at h
  simp only [List.lookup_nil, reduceCtorEq] at h⟩
theorem tx_is_within : TxOk fns gvs "is_within" d_is_within s_is_within := ⟨⟨rfl, rfl, rfl, by decide +kernel, rfl, by decide +kernel, by decide +kernel⟩, by kernel_rfl, fun _ _ _ _ _ _ us hl => match us, hl with | [_, _, _], _ => rfl, fun ks perm h => by
  unfold d_is_within f_is_within at h
  simp only [List.lookup_nil, reduceCtorEq] at h⟩
theorem tx_check_tick : TxOk fns gvs "check_tick" d_check_tick s_check_tick := ⟨⟨rfl, rfl, rfl, by decide +kernel, rfl, by decide +kernel, by decide +kernel⟩, by kernel_rfl, fun _ _ _ _ _ _ us hl => match us, hl with | [_], _ => rfl, fun ks perm h => by
  unfold d_check_tick f_check_tick at h
  simp only [List.lookup_nil, reduceCtorEq] at h⟩
theorem tx_check_display : TxOk fns gvs "check_display" d_check_display s_check_display := ⟨⟨rfl, rfl, rfl, by decide +kernel, rfl, by decide +kernel, by decide +kernel⟩, by kernel_rfl, fun _ _ _ _ _ _ us hl => match us, hl with | [_], _ => rfl, fun ks perm h => by
  unfold d_check_display f_check_display at h
  simp only [List.lookup_nil, reduceCtorEq] at h⟩
theorem tx_is_place : TxOk fns gvs "is_place" d_is_place s_is_place := ⟨⟨rfl, rfl, rfl, by decide +kernel, rfl, by decide +kernel, by decide +kernel⟩, by kernel_rfl, fun _ _ _ _ _ _ us hl => match us, hl with | [_, _], _ => rfl, fun ks perm h => by
  unfold d_is_place f_is_place at h
  simp only [List.lookup_nil, reduceCtorEq] at h⟩
theorem tx_check_place : TxOk fns gvs "check_place" d_check_place s_check_place := ⟨⟨rfl, rfl, rfl, by decide +kernel, rfl, by decide +kernel, by decide +kernel⟩, by kernel_rfl, fun _ _ _ _ _ _ us hl => match us, hl with | [_, _], _ => rfl, fun ks perm h => by
  unfold d_check_place f_check_place at h
  simp only [List.lookup_nil, reduceCtorEq] at h⟩
theorem tx_is_display : TxOk fns gvs "is_display" d_is_display s_is_display := ⟨⟨rfl, rfl, rfl, by decide +kernel, rfl, by decide +kernel, by decide +kernel⟩, by kernel_rfl, fun _ _ _ _ _ _ us hl => match us, hl with | [_], _ => rfl, fun ks perm h => by
  have h0 := lookup_mem h
  simp only [d_is_display, f_is_display, List.mem_cons, Prod.mk.injEq, List.mem_nil_iff, or_false] at h0
  rcases h0 with ⟨rfl, rfl⟩
  all_goals
    intro _ _ _ _ _ _ ws us hl hm
    match ws, hl, hm with
    | [_], _, hm => cases hm; rfl⟩
theorem tx_round_of : TxOk fns gvs "round_of" d_round_of s_round_of := ⟨⟨rfl, rfl, rfl, by decide +kernel, rfl, by decide +kernel, by decide +kernel⟩, by kernel_rfl, fun _ _ _ _ _ _ us hl => match us, hl with | [_], _ => rfl, fun ks perm h => by
  have h0 := lookup_mem h
  simp only [d_round_of, f_round_of, List.mem_cons, Prod.mk.injEq, List.mem_nil_iff, or_false] at h0
  rcases h0 with ⟨rfl, rfl⟩
  all_goals
    intro _ _ _ _ _ _ ws us hl hm
    match ws, hl, hm with
    | [_], _, hm => cases hm; rfl⟩
theorem tx_is_lit : TxOk fns gvs "is_lit" d_is_lit s_is_lit := ⟨⟨rfl, rfl, rfl, by decide +kernel, rfl, by decide +kernel, by decide +kernel⟩, by kernel_rfl, fun _ _ _ _ _ _ us hl => match us, hl with | [_, _, _], _ => rfl, fun ks perm h => by
  have h0 := lookup_mem h
  simp only [d_is_lit, f_is_lit, List.mem_cons, Prod.mk.injEq, List.mem_nil_iff, or_false] at h0
  rcases h0 with ⟨rfl, rfl⟩
  all_goals
    intro _ _ _ _ _ _ ws us hl hm
    match ws, hl, hm with
    | [_, _, _], _, hm => cases hm; rfl⟩
theorem tx_place_at : TxOk fns gvs "place_at" d_place_at s_place_at := ⟨⟨rfl, rfl, rfl, by decide +kernel, rfl, by decide +kernel, by decide +kernel⟩, by kernel_rfl, fun _ _ _ _ _ _ us hl => match us, hl with | [_, _], _ => rfl, fun ks perm h => by
  unfold d_place_at f_place_at at h
  simp only [List.lookup_nil, reduceCtorEq] at h⟩
theorem tx_lit_place : TxOk fns gvs "lit_place" d_lit_place s_lit_place := ⟨⟨rfl, rfl, rfl, by decide +kernel, rfl, by decide +kernel, by decide +kernel⟩, by kernel_rfl, fun _ _ _ _ _ _ us hl => match us, hl with | [_, _], _ => rfl, fun ks perm h => by
  have h0 := lookup_mem h
  simp only [d_lit_place, f_lit_place, List.mem_cons, Prod.mk.injEq, List.mem_nil_iff, or_false] at h0
  rcases h0 with ⟨rfl, rfl⟩
  all_goals
    intro _ _ _ _ _ _ ws us hl hm
    match ws, hl, hm with
    | [_, _], _, hm => cases hm; rfl⟩
theorem tx_lit_ahead : TxOk fns gvs "lit_ahead" d_lit_ahead s_lit_ahead := ⟨⟨rfl, rfl, rfl, by decide +kernel, rfl, by decide +kernel, by decide +kernel⟩, by kernel_rfl, fun _ _ _ _ _ _ us hl => match us, hl with | [_, _, _], _ => rfl, fun ks perm h => by
  unfold d_lit_ahead f_lit_ahead at h
  simp only [List.lookup_nil, reduceCtorEq] at h⟩
theorem tx_lit_between : TxOk fns gvs "lit_between" d_lit_between s_lit_between := ⟨⟨rfl, rfl, rfl, by decide +kernel, rfl, by decide +kernel, by decide +kernel⟩, by kernel_rfl, fun _ _ _ _ _ _ us hl => match us, hl with | [_, _, _, _], _ => rfl, fun ks perm h => by
  unfold d_lit_between f_lit_between at h
  simp only [List.lookup_nil, reduceCtorEq] at h⟩
theorem tx_lit_ticks : TxOk fns gvs "lit_ticks" d_lit_ticks s_lit_ticks := ⟨⟨rfl, rfl, rfl, by decide +kernel, rfl, by decide +kernel, by decide +kernel⟩, by kernel_rfl, fun _ _ _ _ _ _ us hl => match us, hl with | [_, _, _, _], _ => rfl, fun ks perm h => by
  have h0 := lookup_mem h
  simp only [d_lit_ticks, f_lit_ticks, List.mem_cons, Prod.mk.injEq, List.mem_nil_iff, or_false] at h0
  rcases h0 with ⟨rfl, rfl⟩
  all_goals
    intro _ _ _ _ _ _ ws us hl hm
    match ws, hl, hm with
    | [_, _, _, _], _, hm => cases hm; rfl⟩
theorem tx__law_source : TxOk fns gvs "_law_source" d__law_source s__law_source := ⟨⟨rfl, rfl, rfl, by decide +kernel, rfl, by decide +kernel, by decide +kernel⟩, by kernel_rfl, fun _ _ _ _ _ _ us hl => match us, hl with | [_, _], _ => rfl, fun ks perm h => by
  unfold d__law_source f__law_source at h
  simp only [List.lookup_nil, reduceCtorEq] at h⟩
theorem tx__law_draw : TxOk fns gvs "_law_draw" d__law_draw s__law_draw := ⟨⟨rfl, rfl, rfl, by decide +kernel, rfl, by decide +kernel, by decide +kernel⟩, by kernel_rfl, fun _ _ _ _ _ _ us hl => match us, hl with | [_, _], _ => rfl, fun ks perm h => by
  unfold d__law_draw f__law_draw at h
  simp only [List.lookup_nil, reduceCtorEq] at h⟩
theorem tx__law_pane : TxOk fns gvs "_law_pane" d__law_pane s__law_pane := ⟨⟨rfl, rfl, rfl, by decide +kernel, rfl, by decide +kernel, by decide +kernel⟩, by kernel_rfl, fun _ _ _ _ _ _ us hl => match us, hl with | [_, _, _], _ => rfl, fun ks perm h => by
  unfold d__law_pane f__law_pane at h
  simp only [List.lookup_nil, reduceCtorEq] at h⟩
theorem tx__law_is_lit : TxOk fns gvs "_law_is_lit" d__law_is_lit s__law_is_lit := ⟨⟨rfl, rfl, rfl, by decide +kernel, rfl, by decide +kernel, by decide +kernel⟩, by kernel_rfl, fun _ _ _ _ _ _ us hl => match us, hl with | [_, _, _], _ => rfl, fun ks perm h => by
  unfold d__law_is_lit f__law_is_lit at h
  simp only [List.lookup_nil, reduceCtorEq] at h⟩
theorem tx__law_things : TxOk fns gvs "_law_things" d__law_things s__law_things := ⟨⟨rfl, rfl, rfl, by decide +kernel, rfl, by decide +kernel, by decide +kernel⟩, by kernel_rfl, fun _ _ _ _ _ _ us hl => match us, hl with | [_], _ => rfl, fun ks perm h => by
  unfold d__law_things f__law_things at h
  simp only [List.lookup_nil, reduceCtorEq] at h⟩
theorem tx__law_is_right : TxOk fns gvs "_law_is_right" d__law_is_right s__law_is_right := ⟨⟨rfl, rfl, rfl, by decide +kernel, rfl, by decide +kernel, by decide +kernel⟩, by kernel_rfl, fun _ _ _ _ _ _ us hl => match us, hl with | [_], _ => rfl, fun ks perm h => by
  unfold d__law_is_right f__law_is_right at h
  simp only [List.lookup_nil, reduceCtorEq] at h⟩
theorem tx__law_ticks_right : TxOk fns gvs "_law_ticks_right" d__law_ticks_right s__law_ticks_right := ⟨⟨rfl, rfl, rfl, by decide +kernel, rfl, by decide +kernel, by decide +kernel⟩, by kernel_rfl, fun _ _ _ _ _ _ us hl => match us, hl with | [_], _ => rfl, fun ks perm h => by
  unfold d__law_ticks_right f__law_ticks_right at h
  simp only [List.lookup_nil, reduceCtorEq] at h⟩
theorem tx__law_windows_right : TxOk fns gvs "_law_windows_right" d__law_windows_right s__law_windows_right := ⟨⟨rfl, rfl, rfl, by decide +kernel, rfl, by decide +kernel, by decide +kernel⟩, by kernel_rfl, fun _ _ _ _ _ _ us hl => match us, hl with | [_, _], _ => rfl, fun ks perm h => by
  unfold d__law_windows_right f__law_windows_right at h
  simp only [List.lookup_nil, reduceCtorEq] at h⟩
theorem tx_law : TxOk fns gvs "law" d_law s_law := ⟨⟨rfl, rfl, rfl, by decide +kernel, rfl, by decide +kernel, by decide +kernel⟩, by kernel_rfl, fun _ _ _ _ _ _ us hl => match us, hl with | [_], _ => rfl, fun ks perm h => by
  unfold d_law f_law at h
  simp only [List.lookup_nil, reduceCtorEq] at h⟩
abbrev s_InvalidDisplay : Stmt := initOf (top 4)
theorem it_InvalidDisplay : IN.IniT s_InvalidDisplay "index" "index" := ⟨⟨_, _, _, _, _, _, _, _, _, _, _, _, _, _, _, by decide +kernel, fun env => ⟨_, rfl⟩, rfl⟩, rfl, rfl, rfl, by decide +kernel, rfl, rfl, rfl, rfl, by decide +kernel, rfl, ⟨_, rfl, rfl⟩⟩
theorem ib_InvalidDisplay : ∀ (name qual : Str) (cc : Addr) (kV doc pm : Value) (an : Option Addr) (cdv ct u v : Value), bindArgs (PySem.W.fnX name qual (defArgs s_InvalidDisplay) (defBody s_InvalidDisplay) (defScope s_InvalidDisplay) [("__class__", cc)] .none kV doc pm an cdv ct) ⟨[u, v], []⟩ = pure [(("self" : Str), u), (("index" : Str), v)] := fun _ _ _ _ _ _ _ _ _ _ _ => rfl
theorem tx : AllTx fns gvs tbl sts := ⟨tx_is_integer, tx_is_from, tx_is_within, tx_check_tick, tx_check_display, tx_is_place, tx_check_place, tx_is_display, tx_round_of, tx_is_lit, tx_place_at, tx_lit_place, tx_lit_ahead, tx_lit_between, tx_lit_ticks, tx__law_source, tx__law_draw, tx__law_pane, tx__law_is_lit, tx__law_things, tx__law_is_right, tx__law_ticks_right, tx__law_windows_right, tx_law, trivial⟩
end K05


set_option Elab.async false
set_option linter.all false
set_option maxRecDepth 100000
set_option maxHeartbeats 2000000
namespace Ev
open PySem PySem.Spec PyProof.Rows L2
/-! ## words about codes -/
theorem comp_filter {st : D → Ro → Option Ro} {own : List Nat} {cnd : Ro → Rs Bool} {elt : Ro → Rs D} {p : D → Bool} {g : D → D} {ρ0 : Ro} : ∀ {xs acc : List D}, (∀ x ∈ xs, ∃ ρ1 ρ2, st x ρ0 = some ρ1 ∧ cnd ρ1 = .ok (p x) ρ2 ∧ (p x = true → ∃ ρ3, elt ρ2 = .ok (g x) ρ3 ∧ wipeR ρ3 own = ρ0) ∧ (p x = false → wipeR ρ2 own = ρ0)) →
    acc.length + xs.length ≤ lim → compL st own cnd elt xs ρ0 acc = .ok (acc ++ (xs.filter p).map g) ρ0
  | [], acc, _, _ => by simp [compL]
  | x :: xs, acc, h, hl => by
    obtain ⟨ρ1, ρ2, h1, h2, h3, h4⟩ := h x List.mem_cons_self
    rw [List.length_cons] at hl
    unfold compL
    rw [h1]
    simp only [h2, noEr, Rs.bind_ok]
    cases hp : p x with
    | true =>
      obtain ⟨ρ3, h5, h6⟩ := h3 hp
      rw [if_pos rfl, h5]
      simp only [noEr, Rs.bind_ok]
      rw [if_pos (by omega), h6, comp_filter (fun y hy => h y (List.mem_cons_of_mem _ hy)) (by rw [List.length_append, List.length_singleton]; omega)]
      rw [List.filter_cons, if_pos hp]
      simp
    | false =>
      rw [if_neg Bool.false_ne_true, h4 hp, comp_filter (fun y hy => h y (List.mem_cons_of_mem _ hy)) (by omega)]
      rw [List.filter_cons, if_neg (by rw [hp]; exact Bool.false_ne_true)]
theorem for_inv {st : D → Ro → Option Ro} {body : Ro → SR} (I : Nat → Ro → Prop) : ∀ {xs : List D} {k : Nat} {ρ : Ro}, (∀ i x ρ, xs[i]? = some x → I (k + i) ρ → ∃ ρ1 ρ2, st x ρ = some ρ1 ∧ body ρ1 = .nx ρ2 ∧ I (k + i + 1) ρ2) → I k ρ → ∃ ρ', forL st body xs ρ = .nx ρ' ∧ I (k + xs.length) ρ'
  | [], k, ρ, _, h0 => ⟨ρ, rfl, h0⟩
  | x :: xs, k, ρ, h, h0 => by
    obtain ⟨ρ1, ρ2, h1, h2, h3⟩ := h 0 x ρ rfl h0
    obtain ⟨ρ', h4, h5⟩ := for_inv I (xs := xs) (k := k + 1) (ρ := ρ2) (fun i y σ hy hi => by
      have := h (i + 1) y σ (by simpa using hy) (by rw [show k + (i + 1) = k + 1 + i by omega]; exact hi)
      rwa [show k + (i + 1) + 1 = k + 1 + i + 1 by omega] at this) h3
    refine ⟨ρ', ?_, by rw [List.length_cons, show k + (xs.length + 1) = k + 1 + xs.length by omega]; exact h5⟩
    unfold forL
    rw [h1]
    simp only [h2]
    exact h4
end Ev


set_option Elab.async false
set_option linter.all false
set_option maxRecDepth 100000
set_option maxHeartbeats 4000000
namespace Ev
set_option exponentiation.threshold 5000
open PySem PySem.Spec PyProof.Rows L2
def drawC : List CS := [.iff (.cmp .Gt (.idv 0 (.cst (PyData.int 0))) (.cst (PyData.int 0))) [.asg 3 (.bin .Mod (.blt .int [(.idv 0 (.cst (PyData.int 0)))]) (.var 1)), .sub 0 (.cst (PyData.int 0)) (.bin .FloorDiv (.idv 0 (.cst (PyData.int 0))) (.var 1)), .ret (.var 3)] [], .sub 0 (.cst (PyData.int 2)) (.bin .Add (.idv 0 (.cst (PyData.int 2))) (.cst (PyData.int 1))), .asg 2 (.bin .Add (.idv 0 (.cst (PyData.int 1))) (.bin .Mult (.cst (PyData.int 2750159)) (.idv 0 (.cst (PyData.int 2))))), .asg 2 (.bin .Add (.bin .Mod (.blt .int [(.bin .Pow (.var 2) (.cst (PyData.int 3)))]) (.bin .Add (.bin .Pow (.cst (PyData.int 10)) (.cst (PyData.int 38))) (.cst (PyData.int 133)))) (.bin .Mult (.cst (PyData.int 7368787)) (.idv 0 (.cst (PyData.int 2))))), .asg 2 (.bin .Mod (.blt .int [(.bin .Pow (.var 2) (.cst (PyData.int 3)))]) (.bin .Add (.bin .Pow (.cst (PyData.int 10)) (.cst (PyData.int 41))) (.cst (PyData.int 217)))), .ret (.bin .Mod (.blt .int [(.bin .FloorDiv (.var 2) (.cst (PyData.int 1000003)))]) (.var 1))]
def SrcOk (C : Nat) (s : List D) : Prop := ∃ a b c : Int, s = [.int a, .int b, .int c] ∧ 0 ≤ a ∧ 0 ≤ b ∧ b < 2 ^ 80 ∧ 0 ≤ c ∧ c ≤ C
theorem at3_0 {a b c : D} : atI [a, b, c] 0 = some a := rfl
theorem at3_1 {a b c : D} : atI [a, b, c] 1 = some b := rfl
theorem at3_2 {a b c : D} : atI [a, b, c] 2 = some c := rfl
theorem ix3_0 : ixN 3 0 = some 0 := rfl
theorem ix3_2 : ixN 3 2 = some 2 := rfl
theorem bigG_of {i : Int} (h : i.natAbs < 2 ^ 4096) : bigG i = true := decide_eq_true h
theorem smG_c {i : Int} (h : i.natAbs < 2 ^ 64) : smG i = true := decide_eq_true h
theorem opD_mul {i j : Int} (h : i.natAbs < 2 ^ 64) : opD .Mult (.int i) (.int j) = some (.int (i * j)) := by
  show (if (smG i || smG j || (bigG i && bigG j)) = true then _ else _) = _
  rw [smG_c h]
  rfl
theorem opD_pow3 {i : Int} (h : i.natAbs < 2 ^ 4096) : opD .Pow (.int i) (.int 3) = some (.int (i ^ 3)) := by
  show (if 0 ≤ (3 : Int) ∧ (3 : Int) ≤ 100 ∧ bigG i = true then _ else _) = _
  rw [if_pos ⟨by decide, by decide, bigG_of h⟩]
  rfl
theorem opD_pow {i : Int} {n : Nat} (hn : n ≤ 100) (h : i.natAbs < 2 ^ 4096) : opD .Pow (.int i) (.int n) = some (.int (i ^ n)) := by
  show (if 0 ≤ (n : Int) ∧ (n : Int) ≤ 100 ∧ bigG i = true then _ else _) = _
  rw [if_pos ⟨by omega, by omega, bigG_of h⟩]
  rfl
theorem opD_mod {i j : Int} (h : 0 < j) : opD .Mod (.int i) (.int j) = some (.int (i % j)) := if_pos h
theorem opD_fdiv {i j : Int} (h : 0 < j) (h2 : j.natAbs < 2 ^ 4096) : opD .FloorDiv (.int i) (.int j) = some (.int (i / j)) := if_pos ⟨h, bigG_of h2⟩
theorem lt4096 {i : Int} {k : Nat} (h0 : 0 ≤ i) (h1 : i < 2 ^ k) (hk : k ≤ 4096) : i.natAbs < 2 ^ 4096 := by
  have : i.natAbs < 2 ^ k := by
    have e : ((i.natAbs : Int)) = i := Int.natAbs_of_nonneg h0
    have : (i.natAbs : Int) < ((2 ^ k : Nat) : Int) := by rw [e]; simpa using h1
    exact_mod_cast this
  exact Nat.lt_of_lt_of_le this (Nat.pow_le_pow_right (by decide) hk)
theorem draw_val {cal : Cal} {N : List Str} (hN : N.length = 4) {C : Nat} (hC : C < 2 ^ 60) {s : List D} {many : Int} (h : SrcOk C s) (hm : 0 < many) (hm2 : many.natAbs < 2 ^ 4096) :
    ∃ r s', runD cal N true drawC [.list s, .int many] = .ok (.int r) (some (.list s')) ∧ 0 ≤ r ∧ r < many ∧ SrcOk (C + 1) s' := by
  obtain ⟨a, b, c, rfl, ha, hb, hb2, hc, hc2⟩ := h
  have e0 : ini N true [.list [.int a, .int b, .int c], .int many] = [some (.list [.int a, .int b, .int c], true), some (.int many, false), none, none] := by
    unfold ini oldR nons
    rw [hN]
    rfl
  unfold runD
  rw [e0]
  by_cases hp : 0 < a
  · refine ⟨a % many, [.int (a / many), .int b, .int c], ?_, Int.emod_nonneg _ (by omega), Int.emod_lt_of_pos _ hm, ⟨_, _, _, rfl, Int.ediv_nonneg ha (by omega), hb, hb2, hc, by omega⟩⟩
    simp [drawC, evB, evS, evT, ev, evA, idxD, at3_0, cmpD, hp, truR, truD, Rs.st, Rs.bind, ofO, SR.seq, bltD, intD, opD_mod hm, opD_fdiv hm hm2, set0, ofS, ix3_0, lent]
  · have ha0 : ¬ (0 < a) := hp
    have k1 : (b + 2750159 * (c + 1)).natAbs < 2 ^ 4096 := lt4096 (k := 100) (by omega) (by omega) (by decide)
    have k2 := Int.emod_nonneg ((b + 2750159 * (c + 1)) ^ 3) (show (100000000000000000000000000000000000133 : Int) ≠ 0 by decide)
    have k3 := Int.emod_lt_of_pos ((b + 2750159 * (c + 1)) ^ 3) (show (0 : Int) < 100000000000000000000000000000000000133 by decide)
    have k4 : ((b + 2750159 * (c + 1)) ^ 3 % 100000000000000000000000000000000000133 + 7368787 * (c + 1)).natAbs < 2 ^ 4096 := lt4096 (k := 200) (by omega) (by omega) (by decide)
    have p1 : opD .Pow (.int 10) (.int 38) = some (.int 100000000000000000000000000000000000000) := opD_pow (n := 38) (by decide) (by decide +kernel)
    have p2 : opD .Pow (.int 10) (.int 41) = some (.int 100000000000000000000000000000000000000000) := opD_pow (n := 41) (by decide) (by decide +kernel)
    refine ⟨(((b + 2750159 * (c + 1)) ^ 3 % 100000000000000000000000000000000000133 + 7368787 * (c + 1)) ^ 3 % 100000000000000000000000000000000000000217) / 1000003 % many, [.int a, .int b, .int (c + 1)], ?_, Int.emod_nonneg _ (by omega), Int.emod_lt_of_pos _ hm, ⟨_, _, _, rfl, ha, hb, hb2, by omega, by push_cast; omega⟩⟩
    have o1 : ∀ i j : Int, opD .Add (.int i) (.int j) = some (.int (i + j)) := fun _ _ => rfl
    simp [drawC, evB, evS, evT, ev, evA, idxD, at3_0, at3_1, at3_2, cmpD, ha0, truR, truD, Rs.st, Rs.bind, ofO, SR.seq, bltD, intD, o1, opD_mul (show (2750159 : Int).natAbs < 2 ^ 64 by decide), opD_mul (show (7368787 : Int).natAbs < 2 ^ 64 by decide), opD_pow3 k1, opD_pow3 k4, p1, p2, opD_mod hm,
      opD_mod (show (0 : Int) < 100000000000000000000000000000000000133 by decide), opD_mod (show (0 : Int) < 100000000000000000000000000000000000000217 by decide), opD_fdiv (show (0 : Int) < 1000003 by decide) (show (1000003 : Int).natAbs < 2 ^ 4096 by decide +kernel), set0, ofS, ix3_2, lent]
end Ev


set_option Elab.async false
set_option linter.all false
set_option maxRecDepth 100000
set_option maxHeartbeats 4000000
namespace Ev
open PySem PySem.Spec PyProof.Rows L2
def sourceC : List CS := [.asg 2 (.ite (.cmp .Lt (.var 1) (.blt .len [(.var 0)])) (.idv 0 (.var 1)) (.cst (PyData.int 0))), .asg 3 (.ite (.cmp .GtE (.blt .abs [(.var 2)]) (.bin .Pow (.cst (PyData.int 10)) (.cst (PyData.int 18)))) (.bin .Sub (.blt .abs [(.var 2)]) (.bin .Pow (.cst (PyData.int 10)) (.cst (PyData.int 18)))) (.cst (PyData.int 0))), .retO (.lst [(.var 3), (.bin .Add (.bin .Mod (.blt .int [(.var 2)]) (.cst (PyData.int 2305843009213693951))) (.bin .Mult (.cst (PyData.int 1000003)) (.var 1))), (.cst (PyData.int 0))])]
theorem source_run {cal : Cal} {ds : List D} {p c : Int} (hp : 0 ≤ p) (hp2 : p ≤ 100) (h : (if p < (ds.length : Int) then atI ds p else some (.int 0)) = some (.int c)) :
    ∃ s, evB cal false sourceC [some (.list ds, false), some (.int p, false), none, none] = .ro s [some (.list ds, false), some (.int p, false), some (.int c, false), some (.int (if 10 ^ 18 ≤ (if c < 0 then -c else c) then (if c < 0 then -c else c) - 10 ^ 18 else 0), false)] ∧ SrcOk 0 s := by
  have k1 := Int.emod_nonneg c (show (2305843009213693951 : Int) ≠ 0 by decide)
  have k2 := Int.emod_lt_of_pos c (show (0 : Int) < 2305843009213693951 by decide)
  refine ⟨[.int (if 10 ^ 18 ≤ (if c < 0 then -c else c) then (if c < 0 then -c else c) - 10 ^ 18 else 0), .int (c % 2305843009213693951 + 1000003 * p), .int 0], ?_, ⟨_, _, _, rfl, ?_, by omega, by omega, by omega, by omega⟩⟩
  · have p1 : opD .Pow (.int 10) (.int 18) = some (.int 1000000000000000000) := opD_pow (n := 18) (by decide) (by decide +kernel)
    have o1 : ∀ i j : Int, opD .Add (.int i) (.int j) = some (.int (i + j)) := fun _ _ => rfl
    have o2 : ∀ i j : Int, opD .Sub (.int i) (.int j) = some (.int (i - j)) := fun _ _ => rfl
    have m1 := opD_mul (i := 1000003) (j := p) (show (1000003 : Int).natAbs < 2 ^ 64 by decide)
    have m2 := opD_mod (i := c) (show (0 : Int) < 2305843009213693951 by decide)
    by_cases hq : p < (ds.length : Int)
    · rw [if_pos hq] at h
      by_cases hz : (10 ^ 18 : Int) ≤ (if c < 0 then -c else c)
      · simp at hz
        simp [sourceC, evB, evS, evT, ev, evA, evOwn, idxD, h, cmpD, hq, hz, truR, truD, Rs.st, Rs.bind, ofO, SR.seq, bltD, intD, absD, lenD, p1, o1, o2, m1, m2, set0, ofS, lim]
      · simp at hz
        have hz' := Int.not_le.mpr hz
        simp [sourceC, evB, evS, evT, ev, evA, evOwn, idxD, h, cmpD, hq, hz', truR, truD, Rs.st, Rs.bind, ofO, SR.seq, bltD, intD, absD, lenD, p1, o1, o2, m1, m2, set0, ofS, lim]
    · rw [if_neg hq] at h
      cases h
      simp [sourceC, evB, evS, evT, ev, evA, evOwn, idxD, cmpD, hq, truR, truD, Rs.st, Rs.bind, ofO, SR.seq, bltD, intD, absD, lenD, p1, o1, o2, m1, m2, set0, ofS, lim]
  · split
    · omega
    · omega
theorem source_val {cal : Cal} {N : List Str} (hN : N.length = 4) (ns : List Int) {p : Nat} (hp : p ≤ 100) : ∃ s, runD cal N false sourceC [.list (ns.map .int), .int (p : Nat)] = .ow s none ∧ SrcOk 0 s := by
  have e0 : ini N false [.list (ns.map .int), .int (p : Nat)] = [some (.list (ns.map PyData.int), false), some (.int (p : Nat), false), none, none] := by
    unfold ini oldR nons
    rw [hN]
    rfl
  obtain ⟨c, hc⟩ : ∃ c, (if (p : Int) < ((ns.map PyData.int).length : Int) then atI (ns.map PyData.int) p else some (.int 0)) = some (.int c) := by
    by_cases hq : p < ns.length
    · refine ⟨ns[p], ?_⟩
      rw [if_pos (by rw [List.length_map]; omega)]
      unfold atI ixN
      rw [if_pos (by omega), if_pos (by rw [List.length_map]; omega)]
      simp [hq]
    · exact ⟨0, if_neg (by rw [List.length_map]; omega)⟩
  obtain ⟨s, h1, h2⟩ := source_run (cal := cal) (by omega) (by omega) hc
  refine ⟨s, ?_, h2⟩
  unfold runD
  rw [e0, h1]
  rfl
end Ev


set_option Elab.async false
set_option linter.all false
set_option maxRecDepth 100000
set_option maxHeartbeats 4000000
namespace Ev
set_option exponentiation.threshold 5000
open PySem PySem.Spec PyProof.Rows L2
/-! ## a def of a table, by its code -/
def Lk (tbl : List (Str × De)) (x : Str) (nN nps : Nat) (io : Bool) (c : List CS) : Prop := ∃ e, tbl.lookup x = some e ∧ e.N.length = nN ∧ e.fi.ps.length = nps ∧ e.fi.io = io ∧ e.cs = c
def outR : SR → CR
  | .nx _ => .ok .none none
  | .rt d _ => .ok d none
  | .ro ds _ => .ow ds none
  | .er c f _ => .er c f none
  | _ => .bad
theorem lk_run {tbl : List (Str × De)} {x : Str} {nN nps : Nat} {c : List CS} {n : Nat} {ds : List D} (h : Lk tbl x nN nps false c) (hl : ds.length = nps) :
    calN tbl (n + 1) x ds = outR (evB (calN tbl n) false c (oldR ds ++ nons (nN - ds.length))) := by
  obtain ⟨e, h1, h2, h3, h4, h5⟩ := h
  show (match tbl.lookup x with | some e => if ds.length = e.fi.ps.length then runD (calN tbl n) e.N e.fi.io e.cs ds else .bad | none => CR.bad) = _
  rw [h1]
  simp only
  rw [if_pos (by rw [h3, hl]), h4, h5]
  unfold runD ini
  rw [h2]
  generalize evB (calN tbl n) false c (oldR ds ++ nons (nN - ds.length)) = r
  cases r <;> rfl
theorem lk_runD {tbl : List (Str × De)} {x : Str} {nN nps : Nat} {io : Bool} {c : List CS} {n : Nat} {ds : List D} (h : Lk tbl x nN nps io c) (hl : ds.length = nps) : ∃ N : List Str, N.length = nN ∧ calN tbl (n + 1) x ds = runD (calN tbl n) N io c ds := by
  obtain ⟨e, h1, h2, h3, h4, h5⟩ := h
  refine ⟨e.N, h2, ?_⟩
  show (match tbl.lookup x with | some e => if ds.length = e.fi.ps.length then runD (calN tbl n) e.N e.fi.io e.cs ds else .bad | none => CR.bad) = _
  rw [h1]
  simp only
  rw [if_pos (by rw [h3, hl]), h4, h5]
/-- a def whose first argument is lent -/
def outL : SR → CR
  | .nx ρ => lent true ρ (.ok .none)
  | .rt d ρ => lent true ρ (.ok d)
  | .ro ds ρ => lent true ρ (.ow ds)
  | .er c f ρ => lent true ρ (.er c f)
  | _ => .bad
theorem lk_runL {tbl : List (Str × De)} {x : Str} {nN nps : Nat} {c : List CS} {n : Nat} {d : D} {ds : List D} (h : Lk tbl x nN nps true c) (hl : ds.length + 1 = nps) :
    calN tbl (n + 1) x (d :: ds) = outL (evB (calN tbl n) true c (some (d, true) :: (oldR ds ++ nons (nN - (ds.length + 1))))) := by
  obtain ⟨e, h1, h2, h3, h4, h5⟩ := h
  show (match tbl.lookup x with | some e => if (d :: ds).length = e.fi.ps.length then runD (calN tbl n) e.N e.fi.io e.cs (d :: ds) else .bad | none => CR.bad) = _
  rw [h1]
  simp only
  rw [if_pos (by rw [h3, ← hl]; rfl), h4, h5]
  unfold runD ini
  rw [h2]
  show (match evB (calN tbl n) true c (some (d, true) :: (oldR ds ++ nons (nN - (ds.length + 1)))) with
    | .nx ρ => lent true ρ (.ok .none) | .rt d ρ => lent true ρ (.ok d) | .ro ds ρ => lent true ρ (.ow ds) | .er c f ρ => lent true ρ (.er c f) | _ => CR.bad) = _
  generalize evB (calN tbl n) true c (some (d, true) :: (oldR ds ++ nons (nN - (ds.length + 1)))) = r
  cases r <;> rfl
/-! words about ints -/
theorem o_add (i j : Int) : opD .Add (.int i) (.int j) = some (.int (i + j)) := rfl
theorem o_sub (i j : Int) : opD .Sub (.int i) (.int j) = some (.int (i - j)) := rfl
theorem o_mul (i j : Int) : opD .Mult (.int i) (.int j) = if (smG i || smG j || (bigG i && bigG j)) = true then some (.int (i * j)) else none := rfl
theorem c_lt (i j : Int) : cmpD .Lt (.int i) (.int j) = some (decide (i < j)) := rfl
theorem c_le (i j : Int) : cmpD .LtE (.int i) (.int j) = some (decide (i ≤ j)) := rfl
theorem c_gt (i j : Int) : cmpD .Gt (.int i) (.int j) = some (decide (j < i)) := rfl
theorem c_ge (i j : Int) : cmpD .GtE (.int i) (.int j) = some (decide (j ≤ i)) := rfl
theorem eqv_int (i j : Int) : PyData.eqv (.int i) (.int j) = decide (i = j) := by
  simp only [PyData.eqv]
  rw [Bool.eq_iff_iff]
  simp
theorem c_eq (i j : Int) : cmpD .Eq (.int i) (.int j) = some (decide (i = j)) := by
  show eqD (.int i) (.int j) = _
  unfold eqD
  rw [if_pos (by rfl), eqv_int]
theorem c_ne (i j : Int) : cmpD .NotEq (.int i) (.int j) = some (!decide (i = j)) := by
  show (eqD (.int i) (.int j)).map (!·) = _
  unfold eqD
  rw [if_pos (by rfl), eqv_int]
  rfl
theorem big2 {i j : Int} (h1 : bigG i = true) (h2 : bigG j = true) : (smG i || smG j || (bigG i && bigG j)) = true := by rw [h1, h2]; simp
/-- an int of at most k bits -/
def Bd (k : Nat) (i : Int) : Prop := i.natAbs < 2 ^ k
theorem Bd.big {k : Nat} {i : Int} (h : Bd k i) (hk : k ≤ 4096) : bigG i = true := decide_eq_true (Nat.lt_of_lt_of_le h (Nat.pow_le_pow_right (by decide) hk))
theorem Bd.up {k m : Nat} {i : Int} (h : Bd k i) (hk : k ≤ m) : Bd m i := Nat.lt_of_lt_of_le h (Nat.pow_le_pow_right (by decide) hk)
theorem Bd.mul {k m : Nat} {i j : Int} (h : Bd k i) (g : Bd m j) : Bd (k + m) (i * j) := by
  unfold Bd at *
  rw [Int.natAbs_mul, Nat.pow_add]
  exact Nat.mul_lt_mul_of_lt_of_lt h g
theorem Bd.add {k m : Nat} {i j : Int} (h : Bd k i) (g : Bd m j) : Bd (max k m + 1) (i + j) := by
  have h' := h.up (Nat.le_max_left k m)
  have g' := g.up (Nat.le_max_right k m)
  unfold Bd at *
  rw [Nat.pow_succ]
  have := Int.natAbs_add_le i j
  omega
theorem Bd.neg {k : Nat} {i : Int} (h : Bd k i) : Bd k (-i) := by
  unfold Bd at *
  rwa [Int.natAbs_neg]
theorem Bd.sub {k m : Nat} {i j : Int} (h : Bd k i) (g : Bd m j) : Bd (max k m + 1) (i - j) := by
  rw [Int.sub_eq_add_neg]
  exact h.add g.neg
theorem Bd.of {k : Nat} {i : Int} (h0 : -(2 ^ k : Nat) < i) (h1 : i < (2 ^ k : Nat)) : Bd k i := by
  unfold Bd
  omega
theorem Bd.between {k : Nat} {i j : Int} (h : Bd k j) (h0 : 0 ≤ i) (h1 : i ≤ j) : Bd k i := by
  unfold Bd at *
  omega
end Ev


set_option linter.all false
namespace Lit
/-! ## how often a place is lit -/
def cnt (R L u : Int) : Int := u / R * L + (if L < u % R then L else u % R)
def nthU (R L A : Int) : Int := A / L * R + A % L
theorem div_of {R u q r : Int} (h0 : 0 ≤ r) (h1 : r < R) (e : u = q * R + r) : u / R = q ∧ u % R = r := by
  subst e
  have hR : R ≠ 0 := by omega
  constructor
  · rw [Int.add_comm, Int.add_mul_ediv_right _ _ hR, Int.ediv_eq_zero_of_lt h0 h1, Int.zero_add]
  · rw [Int.add_comm, Int.add_mul_emod_self_right, Int.emod_eq_of_lt h0 h1]
theorem split (u : Int) (R : Int) : u = u / R * R + u % R := by
  have := Int.mul_ediv_add_emod u R
  rw [Int.mul_comm] at this
  omega
variable {R L : Int}
theorem cnt_at {q r : Int} (h0 : 0 ≤ r) (h1 : r < R) : cnt R L (q * R + r) = q * L + (if L < r then L else r) := by
  obtain ⟨e1, e2⟩ := div_of h0 h1 rfl (q := q)
  unfold cnt
  rw [e1, e2]
theorem cnt_step (hL : 0 < L) (hR : L ≤ R) (u : Int) : cnt R L (u + 1) = cnt R L u + (if u % R < L then 1 else 0) := by
  have e := split u R
  have m0 := Int.emod_nonneg u (show R ≠ 0 by omega)
  have m1 := Int.emod_lt_of_pos u (show 0 < R by omega)
  by_cases h : u % R + 1 < R
  · have e1 : cnt R L (u + 1) = u / R * L + (if L < u % R + 1 then L else u % R + 1) := by
      have := cnt_at (L := L) (q := u / R) (show (0 : Int) ≤ u % R + 1 by omega) h
      rw [← this]
      congr 1
      omega
    rw [e1]
    unfold cnt
    split <;> split <;> split <;> omega
  · have e0 : u % R = R - 1 := by omega
    have e1 : cnt R L (u + 1) = (u / R + 1) * L + (if L < 0 then L else 0) := by
      have := cnt_at (L := L) (q := u / R + 1) (show (0 : Int) ≤ 0 by omega) (show (0 : Int) < R by omega)
      rw [← this]
      congr 1
      have : (u / R + 1) * R = u / R * R + R := by rw [Int.add_mul, Int.one_mul]
      omega
    rw [e1, Int.add_mul, Int.one_mul]
    unfold cnt
    rw [e0]
    split <;> split <;> split <;> omega
theorem cnt_add (hL : 0 < L) (hR : L ≤ R) (u : Int) : ∀ n : Nat, cnt R L u ≤ cnt R L (u + n) ∧ cnt R L (u + n) ≤ cnt R L u + n
  | 0 => by simp
  | n + 1 => by
    obtain ⟨h1, h2⟩ := cnt_add hL hR u n
    have h := cnt_step hL hR (u + n)
    rw [show u + ((n + 1 : Nat) : Int) = u + n + 1 by omega, h]
    split <;> omega
theorem cnt_mono (hL : 0 < L) (hR : L ≤ R) {u v : Int} (h : u ≤ v) : cnt R L u ≤ cnt R L v := by
  have := (cnt_add hL hR u (v - u).toNat).1
  rwa [show u + ((v - u).toNat : Int) = v by omega] at this
theorem cnt_shift (hR : 0 < R) (u k : Int) : cnt R L (u + k * R) = cnt R L u + k * L := by
  have e := split u R
  have m0 := Int.emod_nonneg u (show R ≠ 0 by omega)
  have m1 := Int.emod_lt_of_pos u hR
  have h := cnt_at (L := L) (q := u / R + k) m0 m1
  have : (u / R + k) * R + u % R = u + k * R := by rw [Int.add_mul]; omega
  rw [this] at h
  rw [h]
  unfold cnt
  rw [Int.add_mul]
  omega
theorem nth_at (hL : 0 < L) (hR : L ≤ R) (A : Int) : cnt R L (nthU R L A) = A ∧ nthU R L A % R < L ∧ nthU R L A % R = A % L := by
  have e := split A L
  have m0 := Int.emod_nonneg A (show L ≠ 0 by omega)
  have m1 := Int.emod_lt_of_pos A hL
  have h := cnt_at (L := L) (q := A / L) m0 (show A % L < R by omega)
  have d := (div_of (q := A / L) m0 (show A % L < R by omega) rfl).2
  unfold nthU
  refine ⟨?_, ?_, d⟩
  · rw [h, if_neg (by omega)]
    omega
  · rw [d]; exact m1
theorem nth_cnt (hL : 0 < L) (hR : L ≤ R) {u : Int} (h : u % R < L) : nthU R L (cnt R L u) = u := by
  have m0 := Int.emod_nonneg u (show R ≠ 0 by omega)
  unfold cnt nthU
  rw [if_neg (by omega)]
  obtain ⟨e1, e2⟩ := div_of (R := L) (q := u / R) m0 h rfl
  rw [e1, e2]
  have := split u R
  omega
theorem nth_ge (hL : 0 < L) (hR : L ≤ R) {u A : Int} (h : cnt R L u ≤ A) : u ≤ nthU R L A := by
  obtain ⟨h1, h2, _⟩ := nth_at hL hR A
  apply Classical.byContradiction
  intro hn
  have s := cnt_step hL hR (nthU R L A)
  rw [if_pos h2, h1] at s
  have := cnt_mono hL hR (show nthU R L A + 1 ≤ u by omega)
  omega
theorem nth_lt (hL : 0 < L) (hR : L ≤ R) {A B : Int} (h : A < B) : nthU R L A < nthU R L B := by
  obtain ⟨h1, h2, _⟩ := nth_at hL hR A
  have s := cnt_step hL hR (nthU R L A)
  rw [if_pos h2, h1] at s
  have := nth_ge hL hR (u := nthU R L A + 1) (A := B) (by omega)
  omega
/-- the lit ticks from a tick on, one by one -/
theorem lit_list (hL : 0 < L) (hR : L ≤ R) (u : Int) : ∀ n : Nat, ((List.range n).map (fun k : Nat => u + (k : Int))).filter (fun v => decide (v % R < L)) = (List.range (cnt R L (u + n) - cnt R L u).toNat).map fun k : Nat => nthU R L (cnt R L u + k)
  | 0 => by simp
  | n + 1 => by
    rw [List.range_succ, List.map_append, List.filter_append, lit_list hL hR u n]
    have s := cnt_step hL hR (u + n)
    have m := (cnt_add hL hR u n).1
    rw [show u + ((n + 1 : Nat) : Int) = u + n + 1 by omega, s]
    by_cases h : (u + n) % R < L
    · rw [if_pos h]
      rw [show (cnt R L (u + ↑n) + 1 - cnt R L u).toNat = (cnt R L (u + ↑n) - cnt R L u).toNat + 1 by omega, List.range_succ, List.map_append]
      congr 1
      simp only [List.map_cons, List.map_nil, List.filter_cons, List.filter_nil, decide_eq_true h, if_true]
      congr 1
      rw [show cnt R L u + (((cnt R L (u + n) - cnt R L u).toNat : Nat) : Int) = cnt R L (u + n) by omega]
      exact (nth_cnt hL hR h).symm
    · rw [if_neg h]
      simp [h]
end Lit


set_option linter.all false
namespace Lit
variable {P S L : Int}
theorem mul_le {a b c : Int} (h : a ≤ b) (hc : 0 ≤ c) : a * c ≤ b * c := Int.mul_le_mul_of_nonneg_right h hc
theorem SR (hP : 0 < P) (hS : 0 < S) : S ≤ P * S ∧ 0 < P * S := by
  have := mul_le (show (1 : Int) ≤ P by omega) (show 0 ≤ S by omega)
  omega
/-- where a place is lit -/
theorem lit_iff (hP : 0 < P) (hS : 0 < S) (hL : 0 < L) (hLS : L ≤ S) {j : Int} (j0 : 0 ≤ j) (j1 : j < P) (t : Int) : ((t - j * S) % (P * S) < L) ↔ (j * S ≤ t % (P * S) ∧ t % (P * S) < j * S + L) := by
  obtain ⟨s1, s2⟩ := SR hP hS
  have e := split t (P * S)
  have m0 := Int.emod_nonneg t (show P * S ≠ 0 by omega)
  have m1 := Int.emod_lt_of_pos t s2
  have jS := mul_le (show j + 1 ≤ P by omega) (show 0 ≤ S by omega)
  have jS0 := mul_le j0 (show 0 ≤ S by omega)
  rw [Int.add_mul, Int.one_mul] at jS
  by_cases h : j * S ≤ t % (P * S)
  · have := (div_of (R := P * S) (u := t - j * S) (q := t / (P * S)) (r := t % (P * S) - j * S) (by omega) (by omega) (by omega)).2
    rw [this]
    omega
  · have := (div_of (R := P * S) (u := t - j * S) (q := t / (P * S) - 1) (r := t % (P * S) - j * S + P * S) (by omega) (by omega) (by rw [Int.sub_mul]; omega)).2
    rw [this]
    omega
theorem place_of (hP : 0 < P) (hS : 0 < S) (t : Int) : 0 ≤ t % (P * S) / S ∧ t % (P * S) / S < P ∧ t % (P * S) = t % (P * S) / S * S + t % (P * S) % S ∧ 0 ≤ t % (P * S) % S ∧ t % (P * S) % S < S := by
  obtain ⟨s1, s2⟩ := SR hP hS
  have m0 := Int.emod_nonneg t (show P * S ≠ 0 by omega)
  have m1 := Int.emod_lt_of_pos t s2
  refine ⟨Int.ediv_nonneg m0 (by omega), ?_, split _ _, Int.emod_nonneg _ (by omega), Int.emod_lt_of_pos _ hS⟩
  exact Int.ediv_lt_of_lt_mul hS m1
/-- one place is lit -/
theorem lit_one (hP : 0 < P) (hS : 0 < S) (hL : 0 < L) (hLS : L ≤ S) {j : Int} (j0 : 0 ≤ j) (j1 : j < P) (t : Int) : ((t - j * S) % (P * S) < L) ↔ (j = t % (P * S) / S ∧ t % (P * S) % S < L) := by
  rw [lit_iff hP hS hL hLS j0 j1]
  obtain ⟨p0, p1, p2, p3, p4⟩ := place_of hP hS t
  generalize t % (P * S) / S = q at *
  generalize t % (P * S) % S = r at *
  rw [p2]
  have aux : ∀ a b : Int, a < b → a * S + S ≤ b * S := fun a b h => by
    have := mul_le (show a + 1 ≤ b by omega) (show 0 ≤ S by omega)
    rw [Int.add_mul, Int.one_mul] at this
    exact this
  constructor
  · rintro ⟨h1, h2⟩
    have : j = q := by
      rcases Int.lt_trichotomy j q with h | h | h
      · have := aux _ _ h; omega
      · exact h
      · have := aux _ _ h; omega
    subst this
    exact ⟨rfl, by omega⟩
  · rintro ⟨h1, h2⟩
    subst h1
    omega
def tot (P S L : Int) (n : Nat) (t : Int) : Int := ((List.range n).map fun (j : Nat) => cnt (P * S) L (t - (j : Int) * S)).sum
theorem tot_succ (n : Nat) (t : Int) : tot P S L (n + 1) t = tot P S L n t + cnt (P * S) L (t - (n : Int) * S) := by
  unfold tot
  rw [List.range_succ, List.map_append, List.sum_append]
  simp
theorem tot_step (hP : 0 < P) (hS : 0 < S) (hL : 0 < L) (hLS : L ≤ S) (t : Int) : ∀ n : Nat, (n : Int) ≤ P → tot P S L n (t + 1) = tot P S L n t + (if t % (P * S) / S < n ∧ t % (P * S) % S < L then 1 else 0)
  | 0, _ => by
    obtain ⟨p0, _⟩ := place_of hP hS t
    rw [if_neg (by omega)]
    simp [tot]
  | n + 1, hn => by
    obtain ⟨s1, s2⟩ := SR hP hS
    rw [tot_succ, tot_succ, tot_step hP hS hL hLS t n (by omega), show t + 1 - (n : Int) * S = (t - (n : Int) * S) + 1 by omega, cnt_step hL (by omega)]
    have h := lit_one hP hS hL hLS (j := n) (by omega) (by omega) t
    generalize t % (P * S) / S = q at *
    generalize t % (P * S) % S = r at *
    by_cases h1 : (t - (n : Int) * S) % (P * S) < L
    · rw [if_pos h1]
      obtain ⟨h2, h3⟩ := h.mp h1
      rw [if_neg (by omega), if_pos (by omega)]
      omega
    · rw [if_neg h1]
      have h2 : ¬ ((n : Int) = q ∧ r < L) := fun z => h1 (h.mpr z)
      by_cases h3 : q < n ∧ r < L
      · rw [if_pos h3, if_pos (by omega)]
        omega
      · rw [if_neg h3, if_neg (by omega)]
        omega
theorem tot_add (hP : 0 < P) (hS : 0 < S) (hL : 0 < L) (hLS : L ≤ S) (t : Int) {n : Nat} (hn : (n : Int) = P) : ∀ k : Nat, tot P S L n (t + k) - tot P S L n t ≤ k ∧ (L = S → tot P S L n (t + k) - tot P S L n t = k)
  | 0 => by simp
  | k + 1 => by
    obtain ⟨h1, h2⟩ := tot_add hP hS hL hLS t hn k
    have s := tot_step hP hS hL hLS (t + k) n (by omega)
    obtain ⟨p0, p1, p2, p3, p4⟩ := place_of hP hS (t + k)
    rw [show t + ((k + 1 : Nat) : Int) = t + k + 1 by omega, s]
    constructor
    · split <;> omega
    · intro e
      have := h2 e
      rw [if_pos (by omega)]
      omega
/-- the sum of all places' lit ticks -/
theorem tot_win (hP : 0 < P) (hS : 0 < S) (hL : 0 < L) (hLS : L ≤ S) {a b : Int} (h : a ≤ b) {n : Nat} (hn : (n : Int) = P) : tot P S L n b - tot P S L n a ≤ b - a ∧ (L = S → tot P S L n b - tot P S L n a = b - a) := by
  have := tot_add hP hS hL hLS a hn (b - a).toNat
  rwa [show a + ((b - a).toNat : Int) = b by omega, show ((b - a).toNat : Int) = b - a by omega] at this
end Lit


set_option Elab.async false
set_option linter.all false
set_option maxRecDepth 100000
set_option maxHeartbeats 4000000
namespace Ev
set_option exponentiation.threshold 5000
open PySem PySem.Spec PyProof.Rows L2
def c_is_integer : List CS := [.ret (.and (.isi (.var 0) "int") (.not (.isi (.var 0) "bool")))]
def c_is_from : List CS := [.ret (.and (.isi (.var 0) "int") (.and (.not (.isi (.var 0) "bool")) (.cmp .GtE (.var 0) (.var 1))))]
def c_is_within : List CS := [.ret (.and (.isi (.var 0) "int") (.and (.not (.isi (.var 0) "bool")) (.chn .LtE .LtE (.var 1) (.var 0) (.var 2))))]
/-- the checks: how they raise makes no difference where nothing is wrong -/
def c_check_tickR (r : CS) : List CS := [.iff (.not (.call "is_integer" [0] [(.var 0)])) [r] []]
abbrev c_check_tick : List CS := c_check_tickR .nev
def c_check_number_from : List CS := [.iff (.not (.call "is_from" [0, 1] [(.var 0), (.var 1)])) [.nev] []]
def c_check_displayR (r : Nat → CS) : List CS := [.iff (.or (.not (.isi (.var 0) "tuple")) (.cmp .NotEq (.blt .len [(.var 0)]) (.cst (PyData.int 4)))) [r 0] [], .unp [1, 2, 3, 4] (.var 0), .iff (.not (.call "is_within" [0, 1, 2] [(.var 1), (.cst (PyData.int 1)), (.gcn "MOST_PLACES" (PyData.int 8))])) [r 1] [], .iff (.not (.call "is_from" [0, 1] [(.var 2), (.cst (PyData.int 1))])) [r 2] [], .iff (.not (.call "is_within" [0, 1, 2] [(.var 3), (.cst (PyData.int 1)), (.var 2)])) [r 3] [], .iff (.or (.not (.isi (.var 4) "str")) (.cmp .NotIn (.var 4) (.tup [(.gcn "NOW" (PyData.str "now")), (.gcn "ROUND" (PyData.str "round"))]))) [r 4] []]
abbrev c_check_display : List CS := c_check_displayR fun _ => .nev
def c_is_place : List CS := [.ret (.call "is_within" [0, 1, 2] [(.var 1), (.cst (PyData.int 0)), (.bin .Sub (.idv 0 (.cst (PyData.int 0))) (.cst (PyData.int 1)))])]
def c_check_placeR (r : CS) : List CS := [.iff (.not (.call "is_place" [0, 1] [(.var 0), (.var 1)])) [r] []]
abbrev c_check_place : List CS := c_check_placeR .nev
def c_is_lit : List CS := [.exp (.call "check_display" [0] [(.var 0)]), .exp (.call "check_place" [0, 1] [(.var 0), (.var 1)]), .exp (.call "check_tick" [0] [(.var 2)]), .unp [3, 4, 5, 6] (.var 0), .ret (.cmp .Lt (.bin .Mod (.bin .Sub (.var 2) (.bin .Mult (.var 1) (.var 4))) (.bin .Mult (.var 3) (.var 4))) (.var 5))]
def c_lit_ahead : List CS := [.unp [3, 4, 5, 6] (.var 0), .unp [7, 8] (.blt .divmod [(.bin .Sub (.var 2) (.bin .Mult (.var 1) (.var 4))), (.bin .Mult (.var 3) (.var 4))]), .ret (.bin .Add (.bin .Mult (.var 7) (.var 5)) (.blt .min [(.var 8), (.var 5)]))]
def c_lit_between : List CS := [.ret (.bin .Sub (.call "lit_ahead" [0, 1, 2] [(.var 0), (.var 1), (.var 3)]) (.call "lit_ahead" [0, 1, 2] [(.var 0), (.var 1), (.var 2)]))]
def c_lit_tick : List CS := [.unp [3, 4, 5, 6] (.var 0), .unp [7, 8] (.blt .divmod [(.var 2), (.var 5)]), .ret (.bin .Add (.bin .Mult (.bin .Add (.bin .Mult (.var 7) (.var 3)) (.var 1)) (.var 4)) (.var 8))]
def c_lit_ticks : List CS := [.exp (.call "check_display" [0] [(.var 0)]), .exp (.call "check_place" [0, 1] [(.var 0), (.var 1)]), .exp (.call "check_tick" [0] [(.var 2)]), .exp (.call "check_tick" [0] [(.var 3)]), .ret (.ite (.cmp .Lt (.var 2) (.var 3)) (.call "lit_between" [0, 1, 2, 3] [(.var 0), (.var 1), (.var 2), (.var 3)]) (.cst (PyData.int 0)))]
def c_nth_lit : List CS := [.exp (.call "check_display" [0] [(.var 0)]), .exp (.call "check_place" [0, 1] [(.var 0), (.var 1)]), .exp (.call "check_tick" [0] [(.var 2)]), .exp (.call "check_number_from" [0, 1] [(.var 3), (.cst (PyData.int 0))]), .ret (.call "lit_tick" [0, 1, 2] [(.var 0), (.var 1), (.bin .Add (.call "lit_ahead" [0, 1, 2] [(.var 0), (.var 1), (.var 2)]) (.var 3))])]
theorem isi_ii (v : Int) : isiD (.int v) "int" = some true := by kernel_rfl
theorem isi_ib (v : Int) : isiD (.int v) "bool" = some false := by kernel_rfl
theorem isi_tt (v : List D) : isiD (.tuple v) "tuple" = some true := by kernel_rfl
theorem isi_ss (v : Str) : isiD (.str v) "str" = some true := by kernel_rfl
section
variable {tbl : List (Str × De)} {n : Nat}
theorem is_integer_val (h : Lk tbl "is_integer" 1 1 false c_is_integer) (v : Int) : calN tbl (n + 1) "is_integer" [.int v] = .ok (.bool true) none := by
  rw [lk_run h rfl]
  simp [c_is_integer, evB, evS, evT, ev, evA, evO, evC, Rs.st, Rs.bind, ofO, SR.seq, set0, ofS, setTg, setMany, truR, truD, callR, permD, outR, oldR, nons, List.replicate, lim, isi_ii, isi_ib]
theorem is_from_val (h : Lk tbl "is_from" 2 2 false c_is_from) (v a : Int) : calN tbl (n + 1) "is_from" [.int v, .int a] = .ok (.bool (decide (a ≤ v))) none := by
  rw [lk_run h rfl]
  simp [c_is_from, evB, evS, evT, ev, evA, evO, evC, Rs.st, Rs.bind, ofO, SR.seq, set0, ofS, setTg, setMany, truR, truD, callR, permD, outR, oldR, nons, List.replicate, lim, isi_ii, isi_ib, c_ge]
theorem is_within_val (h : Lk tbl "is_within" 3 3 false c_is_within) (v a b : Int) : calN tbl (n + 1) "is_within" [.int v, .int a, .int b] = .ok (.bool (decide (a ≤ v ∧ v ≤ b))) none := by
  rw [lk_run h rfl]
  by_cases q : a ≤ v
  · simp [c_is_within, evB, evS, evT, ev, evA, evO, evC, Rs.st, Rs.bind, ofO, SR.seq, set0, ofS, setTg, setMany, truR, truD, callR, permD, outR, oldR, nons, List.replicate, lim, isi_ii, isi_ib, c_le, q]
  · have q' : v < a := Int.not_le.mp q
    simp [c_is_within, evB, evS, evT, ev, evA, evO, evC, Rs.st, Rs.bind, ofO, SR.seq, set0, ofS, setTg, setMany, truR, truD, callR, permD, outR, oldR, nons, List.replicate, lim, isi_ii, isi_ib, c_le, q, q']
theorem check_tick_val (h1 : Lk tbl "is_integer" 1 1 false c_is_integer) (h : ∃ r, Lk tbl "check_tick" 1 1 false (c_check_tickR r)) (v : Int) : calN tbl (n + 2) "check_tick" [.int v] = .ok .none none := by
  obtain ⟨r, h⟩ := h
  rw [lk_run h rfl]
  have e := is_integer_val (n := n) h1 v
  simp [c_check_tickR, evB, evS, evT, ev, evA, evO, evC, Rs.st, Rs.bind, ofO, SR.seq, set0, ofS, setTg, setMany, truR, truD, callR, permD, outR, oldR, nons, List.replicate, lim, e]
theorem check_number_from_val (h2 : Lk tbl "is_from" 2 2 false c_is_from) (h : Lk tbl "check_number_from" 2 2 false c_check_number_from) {v a : Int} (q : a ≤ v) : calN tbl (n + 2) "check_number_from" [.int v, .int a] = .ok .none none := by
  rw [lk_run h rfl]
  have e := is_from_val (n := n) h2 v a
  simp [c_check_number_from, evB, evS, evT, ev, evA, evO, evC, Rs.st, Rs.bind, ofO, SR.seq, set0, ofS, setTg, setMany, truR, truD, callR, permD, outR, oldR, nons, List.replicate, lim, e, q]
end
end Ev
namespace Ev
set_option exponentiation.threshold 5000
open PySem PySem.Spec PyProof.Rows L2
theorem Bd.div {k : Nat} {i j : Int} (h : Bd k i) (hj : 0 < j) : Bd k (i / j) := by
  unfold Bd at *
  by_cases hi : 0 ≤ i
  · have h1 := Int.ediv_nonneg hi (show 0 ≤ j by omega)
    have h2 := Int.ediv_le_self j hi
    omega
  · have h1 : i ≤ i / j := by
      refine Int.le_ediv_of_mul_le hj ?_
      have := Int.mul_le_mul_of_nonpos_left (a := i) (b := j) (c := 1) (by omega) (by omega)
      omega
    have h2 : i / j < 0 := Int.ediv_neg_of_neg_of_pos (by omega) hj
    omega
theorem Bd.mod {k : Nat} {i j : Int} (h : Bd k j) (hj : 0 < j) : Bd k (i % j) := by
  have h1 := Int.emod_nonneg i (show j ≠ 0 by omega)
  have h2 := Int.emod_lt_of_pos i hj
  unfold Bd at *
  omega
instance {k : Nat} {i : Int} : Decidable (Bd k i) := inferInstanceAs (Decidable (i.natAbs < 2 ^ k))
theorem smG_le8 {i : Int} (h0 : 0 ≤ i) (h1 : i ≤ 8) : smG i = true := decide_eq_true (by omega)
def dsp (P S L : Int) (d : Str) : D := .tuple [.int P, .int S, .int L, .str d]
structure Val (P S L : Int) (d : Str) : Prop where
  p1 : 1 ≤ P
  p8 : P ≤ 8
  s1 : 1 ≤ S
  l1 : 1 ≤ L
  l2 : L ≤ S
  dd : d = ("now" : Str) ∨ d = ("round" : Str)
  sb : Bd 300 S
section
variable {P S L : Int} {d : Str}
theorem Val.sR (v : Val P S L d) : S ≤ P * S ∧ 0 < P * S := Lit.SR (by have := v.p1; omega) (by have := v.s1; omega)
theorem Val.lR (v : Val P S L d) : L ≤ P * S := by have := v.sR; have := v.l2; omega
theorem Val.pb (v : Val P S L d) : Bd 4 P := by have := v.p1; have := v.p8; unfold Bd; omega
theorem Val.lb (v : Val P S L d) : Bd 300 L := v.sb.between (by have := v.l1; omega) v.l2
theorem Val.rb (v : Val P S L d) : Bd 304 (P * S) := (v.pb.mul v.sb).up (by decide)
variable {tbl : List (Str × De)} {n : Nat}
/-- what the table holds of the ints' file and of displays' checks -/
structure Dsp0 (tbl : List (Str × De)) : Prop where
  i1 : Lk tbl "is_integer" 1 1 false c_is_integer
  i2 : Lk tbl "is_from" 2 2 false c_is_from
  i3 : Lk tbl "is_within" 3 3 false c_is_within
  i4 : ∃ r, Lk tbl "check_tick" 1 1 false (c_check_tickR r)
  d1 : ∃ r, Lk tbl "check_display" 5 1 false (c_check_displayR r)
  d2 : Lk tbl "is_place" 2 2 false c_is_place
  d3 : ∃ r, Lk tbl "check_place" 2 2 false (c_check_placeR r)
theorem notin_drv (h : d = ("now" : Str) ∨ d = ("round" : Str)) : cmpD .NotIn (.str d) (.tuple [.str "now", .str "round"]) = some false := by
  rcases h with rfl | rfl <;> kernel_rfl
theorem len_dsp : bltD .len [dsp P S L d] = some (.int 4) := rfl
theorem check_display_val (T : Dsp0 tbl) (v : Val P S L d) : calN tbl (n + 3) "check_display" [dsp P S L d] = .ok .none none := by
  obtain ⟨r, t1⟩ := T.d1
  rw [lk_run t1 rfl]
  have e1 := is_within_val (n := n + 1) T.i3 P 1 8
  have e2 := is_from_val (n := n + 1) T.i2 S 1
  have e3 := is_within_val (n := n + 1) T.i3 L 1 S
  have h1 := v.p1
  have h2 := v.p8
  have h3 := v.s1
  have h4 := v.l1
  have h5 := v.l2
  have e4 := notin_drv v.dd
  have e5 := @len_dsp P S L d
  unfold dsp at e5 ⊢
  simp [c_check_displayR, evB, evS, evT, ev, evA, evO, evC, Rs.st, Rs.bind, ofO, SR.seq, set0, ofS, setTg, setMany, truR, truD, callR, permD, outR, oldR, nons, List.replicate, lim, isi_tt, isi_ss, e1, e2, e3, e4, e5, h1, h2, h3, h4, h5, c_ne, lim]
theorem idx_p : idxD (dsp P S L d) (.int 0) = some (.int P) := rfl
theorem idx_s : idxD (dsp P S L d) (.int 1) = some (.int S) := rfl
theorem idx_l : idxD (dsp P S L d) (.int 2) = some (.int L) := rfl
theorem idx_d : idxD (dsp P S L d) (.int 3) = some (.str d) := rfl
theorem is_place_val (T : Dsp0 tbl) (j : Int) : calN tbl (n + 3) "is_place" [dsp P S L d, .int j] = .ok (.bool (decide (0 ≤ j ∧ j ≤ P - 1))) none := by
  rw [lk_run T.d2 rfl]
  have e1 := is_within_val (n := n + 1) T.i3 j 0 (P - 1)
  simp [c_is_place, evB, evS, evT, ev, evA, evO, evC, Rs.st, Rs.bind, ofO, SR.seq, set0, ofS, setTg, setMany, truR, truD, callR, permD, outR, oldR, nons, List.replicate, lim, idx_p, o_sub, e1]
theorem check_place_val (T : Dsp0 tbl) {j : Int} (h0 : 0 ≤ j) (h1 : j < P) : calN tbl (n + 4) "check_place" [dsp P S L d, .int j] = .ok .none none := by
  obtain ⟨r, t1⟩ := T.d3
  rw [lk_run t1 rfl]
  have e1 := is_place_val (n := n) (S := S) (L := L) (d := d) T (P := P) j
  have h2 : j ≤ P - 1 := by omega
  simp [c_check_placeR, evB, evS, evT, ev, evA, evO, evC, Rs.st, Rs.bind, ofO, SR.seq, set0, ofS, setTg, setMany, truR, truD, callR, permD, outR, oldR, nons, List.replicate, lim, e1, h0, h2]
def ahd (P S L j t : Int) : Int := Lit.cnt (P * S) L (t - j * S)
theorem mul_sm {i j : Int} (h : smG i = true) : opD .Mult (.int i) (.int j) = some (.int (i * j)) := by rw [o_mul, h]; simp
theorem mul_big {i j : Int} (h : bigG i = true) (h2 : bigG j = true) : opD .Mult (.int i) (.int j) = some (.int (i * j)) := by rw [o_mul, if_pos (big2 h h2)]
theorem divmod_val {i j : Int} (h : 0 < j) (h2 : bigG j = true) : bltD .divmod [.int i, .int j] = some (.tuple [.int (i / j), .int (i % j)]) := if_pos ⟨h, h2⟩
theorem min_val (i j : Int) : bltD .min [.int i, .int j] = some (.int (if j < i then j else i)) := rfl
theorem max_val (i j : Int) : bltD .max [.int i, .int j] = some (.int (if j > i then j else i)) := rfl
theorem int_val (i : Int) : bltD .int [.int i] = some (.int i) := rfl
theorem is_lit_val (T : Dsp0 tbl) (h : Lk tbl "is_lit" 7 3 false c_is_lit) (v : Val P S L d) {j : Int} (h0 : 0 ≤ j) (h1 : j < P) (t : Int) : calN tbl (n + 5) "is_lit" [dsp P S L d, .int j, .int t] = .ok (.bool (decide ((t - j * S) % (P * S) < L))) none := by
  rw [lk_run h rfl]
  have e1 := check_display_val (n := n + 1) T v
  have e2 := check_place_val (n := n) (S := S) (L := L) (d := d) T h0 h1
  have e3 := check_tick_val (n := n + 2) T.i1 T.i4 t
  have m1 := mul_sm (j := S) (smG_le8 h0 (by have := v.p8; omega))
  have m2 := mul_sm (j := S) (smG_le8 (i := P) (by have := v.p1; omega) v.p8)
  have m3 := opD_mod (i := t - j * S) v.sR.2
  unfold dsp at e1 e2 ⊢
  simp [c_is_lit, evB, evS, evT, ev, evA, evO, evC, Rs.st, Rs.bind, ofO, SR.seq, set0, ofS, setTg, setMany, truR, truD, callR, permD, outR, oldR, nons, List.replicate, lim, e1, e2, e3, o_sub, m1, m2, m3, c_lt]
theorem lit_ahead_val (h : Lk tbl "lit_ahead" 9 3 false c_lit_ahead) (v : Val P S L d) {j : Int} (h0 : 0 ≤ j) (h1 : j < P) {t : Int} (ht : Bd 1000 t) : calN tbl (n + 1) "lit_ahead" [dsp P S L d, .int j, .int t] = .ok (.int (ahd P S L j t)) none := by
  rw [lk_run h rfl]
  have m1 := mul_sm (j := S) (smG_le8 h0 (by have := v.p8; omega))
  have m2 := mul_sm (j := S) (smG_le8 (i := P) (by have := v.p1; omega) v.p8)
  have bj : Bd 4 j := by have := v.p8; unfold Bd; omega
  have bt : Bd 1001 (t - j * S) := ht.sub ((bj.mul v.sb).up (m := 1000) (by decide))
  have m3 := divmod_val (i := t - j * S) v.sR.2 (v.rb.big (by decide))
  have m4 := mul_big (i := (t - j * S) / (P * S)) (j := L) ((bt.div v.sR.2).big (by decide)) (v.lb.big (by decide))
  unfold dsp
  simp [c_lit_ahead, evB, evS, evT, ev, evA, evO, evC, Rs.st, Rs.bind, ofO, SR.seq, set0, ofS, setTg, setMany, truR, truD, callR, permD, outR, oldR, nons, List.replicate, lim, o_sub, o_add, m1, m2, m3, m4, min_val]
  rfl
theorem lit_between_val (h : Lk tbl "lit_ahead" 9 3 false c_lit_ahead) (h' : Lk tbl "lit_between" 4 4 false c_lit_between) (v : Val P S L d) {j : Int} (h0 : 0 ≤ j) (h1 : j < P) {a b : Int} (ha : Bd 1000 a) (hb : Bd 1000 b) :
    calN tbl (n + 2) "lit_between" [dsp P S L d, .int j, .int a, .int b] = .ok (.int (ahd P S L j b - ahd P S L j a)) none := by
  rw [lk_run h' rfl]
  have e1 := lit_ahead_val (n := n) h v h0 h1 ha
  have e2 := lit_ahead_val (n := n) h v h0 h1 hb
  simp [c_lit_between, evB, evS, evT, ev, evA, evO, evC, Rs.st, Rs.bind, ofO, SR.seq, set0, ofS, setTg, setMany, truR, truD, callR, permD, outR, oldR, nons, List.replicate, lim, e1, e2, o_sub]
/-- the lit ticks of a window -/
def win (P S L j a b : Int) : Int := if a < b then ahd P S L j b - ahd P S L j a else 0
theorem lit_ticks_val (T : Dsp0 tbl) (h1 : Lk tbl "lit_ahead" 9 3 false c_lit_ahead) (h2 : Lk tbl "lit_between" 4 4 false c_lit_between) (h : Lk tbl "lit_ticks" 4 4 false c_lit_ticks) (v : Val P S L d) {j : Int} (h0 : 0 ≤ j) (h1' : j < P) {a b : Int} (ha : Bd 1000 a) (hb : Bd 1000 b) :
    calN tbl (n + 5) "lit_ticks" [dsp P S L d, .int j, .int a, .int b] = .ok (.int (win P S L j a b)) none := by
  rw [lk_run h rfl]
  have e1 := check_display_val (n := n + 1) T v
  have e2 := check_place_val (n := n) (S := S) (L := L) (d := d) T h0 h1'
  have e3 := check_tick_val (n := n + 2) T.i1 T.i4 a
  have e4 := check_tick_val (n := n + 2) T.i1 T.i4 b
  have e5 := lit_between_val (n := n + 2) h1 h2 v h0 h1' ha hb
  unfold win
  by_cases q : a < b
  · simp [c_lit_ticks, evB, evS, evT, ev, evA, evO, evC, Rs.st, Rs.bind, ofO, SR.seq, set0, ofS, setTg, setMany, truR, truD, callR, permD, outR, oldR, nons, List.replicate, lim, e1, e2, e3, e4, e5, c_lt, q]
  · simp [c_lit_ticks, evB, evS, evT, ev, evA, evO, evC, Rs.st, Rs.bind, ofO, SR.seq, set0, ofS, setTg, setMany, truR, truD, callR, permD, outR, oldR, nons, List.replicate, lim, e1, e2, e3, e4, e5, c_lt, q]
/-- the lit tick with so many ahead of it -/
def ntk (P S L j A : Int) : Int := (A / L * P + j) * S + A % L
theorem ntk_eq : ntk P S L j A - j * S = Lit.nthU (P * S) L A := by
  unfold ntk Lit.nthU
  rw [Int.add_mul, Int.mul_assoc]
  omega
theorem lit_tick_val (h : Lk tbl "lit_tick" 9 3 false c_lit_tick) (v : Val P S L d) {j : Int} (h0 : 0 ≤ j) (h1 : j < P) {A : Int} (hA : Bd 2000 A) : calN tbl (n + 1) "lit_tick" [dsp P S L d, .int j, .int A] = .ok (.int (ntk P S L j A)) none := by
  rw [lk_run h rfl]
  have bj : Bd 4 j := by have := v.p8; unfold Bd; omega
  have l0 : 0 < L := by have := v.l1; omega
  have m1 := divmod_val (i := A) l0 (v.lb.big (by decide))
  have b1 := hA.div l0
  have m2 := mul_big (i := A / L) (j := P) (b1.big (by decide)) (v.pb.big (by decide))
  have m3 := mul_big (i := A / L * P + j) (j := S) (((b1.mul v.pb).add bj).big (by decide)) (v.sb.big (by decide))
  unfold dsp
  simp [c_lit_tick, evB, evS, evT, ev, evA, evO, evC, Rs.st, Rs.bind, ofO, SR.seq, set0, ofS, setTg, setMany, truR, truD, callR, permD, outR, oldR, nons, List.replicate, lim, o_add, m1, m2, m3]
  rfl
theorem ahd_bd (v : Val P S L d) {j : Int} (h0 : 0 ≤ j) (h1 : j < P) {t : Int} (ht : Bd 1000 t) : Bd 1400 (ahd P S L j t) := by
  have bj : Bd 4 j := by have := v.p8; unfold Bd; omega
  have bt : Bd 1001 (t - j * S) := ht.sub ((bj.mul v.sb).up (m := 1000) (by decide))
  unfold ahd Lit.cnt
  have b1 := (bt.div v.sR.2).mul v.lb
  have b2 : Bd 304 (if L < (t - j * S) % (P * S) then L else (t - j * S) % (P * S)) := by
    split
    · exact v.lb.up (by decide)
    · exact v.rb.mod v.sR.2
  exact (b1.add b2).up (by decide)
theorem nth_lit_val (T : Dsp0 tbl) (h2 : Lk tbl "check_number_from" 2 2 false c_check_number_from) (h3 : Lk tbl "lit_ahead" 9 3 false c_lit_ahead) (h4 : Lk tbl "lit_tick" 9 3 false c_lit_tick) (h : Lk tbl "nth_lit" 4 4 false c_nth_lit) (v : Val P S L d) {j : Int} (h0 : 0 ≤ j) (h1 : j < P)
    {t i : Int} (ht : Bd 1000 t) (i0 : 0 ≤ i) (hi : Bd 1000 i) : calN tbl (n + 5) "nth_lit" [dsp P S L d, .int j, .int t, .int i] = .ok (.int (ntk P S L j (ahd P S L j t + i))) none := by
  rw [lk_run h rfl]
  have e1 := check_display_val (n := n + 1) T v
  have e2 := check_place_val (n := n) (S := S) (L := L) (d := d) T h0 h1
  have e3 := check_tick_val (n := n + 2) T.i1 T.i4 t
  have e4 := check_number_from_val (n := n + 1 + 1) T.i2 h2 i0
  have e5 := lit_ahead_val (n := n + 3) h3 v h0 h1 ht
  have e6 := lit_tick_val (n := n + 3) h4 v h0 h1 (A := ahd P S L j t + i) (((ahd_bd v h0 h1 ht).add hi).up (by decide))
  simp [c_nth_lit, evB, evS, evT, ev, evA, evO, evC, Rs.st, Rs.bind, ofO, SR.seq, set0, ofS, setTg, setMany, truR, truD, callR, permD, outR, oldR, nons, List.replicate, lim, e1, e2, e3, e4, e5, e6, o_add]
end
end Ev


set_option Elab.async false
set_option linter.all false
set_option maxRecDepth 100000
set_option maxHeartbeats 4000000
namespace Ev
set_option exponentiation.threshold 5000
open PySem PySem.Spec PyProof.Rows L2
/-! ## what is shown, what is equal -/
theorem tfr_len : ∀ (ts : List Str) (k : Nat) (acc : Str), (textFrom k acc ts).length ≤ acc.length + (ts.map fun t => t.length + 2).sum
  | [], k, acc => by show acc.length ≤ _; omega
  | t :: r, k, acc => by
    have h := tfr_len r (k + 1) (acc ++ (if k > 0 then ", " else "" : String) ++ t)
    have e : (acc ++ (if k > 0 then ", " else "" : String) ++ t).length ≤ acc.length + 2 + t.length := by
      rw [Str.length_append, Str.length_append]
      by_cases hk : k > 0
      · rw [if_pos hk]
        show acc.length + 2 + t.length ≤ _
        omega
      · rw [if_neg hk]
        show acc.length + 0 + t.length ≤ _
        omega
    show (textFrom (k + 1) (acc ++ (if k > 0 then ", " else "" : String) ++ t) r).length ≤ _
    rw [List.map_cons, List.sum_cons]
    omega
theorem ltx_len (ts : List Str) : (listText ts).length ≤ (ts.map fun t => t.length + 2).sum + 2 := by
  unfold listText
  rw [Str.length_append]
  have h := tfr_len ts 0 "["
  have e : ("[" : Str).length = 1 := rfl
  have e2 : ("]" : Str).length = 1 := rfl
  omega
theorem piled_le : ∀ ts : List Str, piled ts ≤ (ts.map fun t => t.length + 2).sum
  | [] => Nat.zero_le _
  | t :: r => by
    simp [piled]
theorem ttx_len (ts : List Str) : (tupleText ts).length ≤ (ts.map fun t => t.length + 2).sum + 3 := by
  unfold tupleText
  rw [Str.length_append, Str.length_append]
  have e : ("(" : Str).length = 1 := rfl
  have e2 : ((if ts.length == 1 then ",)" else ")" : String) : Str).length ≤ 2 := by split <;> decide
  cases ts with
  | nil =>
    have e3 : (Str.join ", " []).length = 0 := rfl
    omega
  | cons t r =>
    have h := join_length_add (t :: r) (by simp)
    have h2 := piled_le (t :: r)
    omega
mutual
def wD : D → Nat
  | .none => 4
  | .bool _ => 5
  | .int i => i.natAbs.log2 + 3
  | .str x => (reprText x).length
  | .list xs => wDs xs + 2
  | .tuple xs => wDs xs + 3
  | .dict _ => 0
def wDs : List D → Nat
  | [] => 0
  | x :: xs => wD x + 2 + wDs xs
end
theorem sum_wDs : ∀ (xs : List D), (∀ x ∈ xs, x.shown.length ≤ wD x) → ((PyData.shownAll xs).map fun t => t.length + 2).sum ≤ wDs xs
  | [], _ => Nat.le_refl _
  | x :: xs, h => by
    have h1 := h x List.mem_cons_self
    have h2 := sum_wDs xs fun y hy => h y (List.mem_cons_of_mem _ hy)
    show (x.shown.length + 2) + _ ≤ wD x + 2 + wDs xs
    exact Nat.add_le_add (by omega) h2
mutual
theorem shown_le : ∀ d : D, d.hasDict = false → d.shown.length ≤ wD d
  | .none, _ => by simp only [PyData.shown, wD]; decide
  | .bool b, _ => by cases b <;> (simp only [PyData.shown, wD]; decide)
  | .int i, _ => by
    simp only [PyData.shown, wD]
    have h := PySem.int_text_length_le (a := i) (k := i.natAbs.log2 + 1) (by omega) (by omega)
    have e : (Str.ofString (toString i)).length = (toString i).length := PySem.ofString_length _
    omega
  | .str x, _ => by simp only [PyData.shown, wD]; exact Nat.le_refl _
  | .list xs, h => by
    simp only [PyData.shown, wD]
    have := ltx_len (PyData.shownAll xs)
    have := shown_les xs (by simpa [PyData.hasDict] using h)
    omega
  | .tuple xs, h => by
    simp only [PyData.shown, wD]
    have := ttx_len (PyData.shownAll xs)
    have := shown_les xs (by simpa [PyData.hasDict] using h)
    omega
  | .dict _, h => by simp [PyData.hasDict] at h
theorem shown_les : ∀ xs : List D, PyData.hasDictAll xs = false → ((PyData.shownAll xs).map fun t => t.length + 2).sum ≤ wDs xs
  | [], _ => Nat.le_refl _
  | x :: xs, h => by
    simp only [PyData.hasDictAll, Bool.or_eq_false_iff] at h
    have h1 := shown_le x h.1
    have h2 := shown_les xs h.2
    show (x.shown.length + 2) + _ ≤ wD x + 2 + wDs xs
    exact Nat.add_le_add (by omega) h2
end
theorem repr_ok {d : D} (h1 : d.showable = true) (h2 : d.hasDict = false) (h3 : d.depth ≤ 50) (h4 : wD d ≤ 100000) : bltD .repr [d] = some (.str d.shown) := by
  have e : reprD [d] = if reprOk d = true then some (.str d.shown) else none := by
    cases d <;> first | rfl | (simp [PyData.hasDict] at h2)
  refine Eq.trans e (if_pos ?_)
  unfold reprOk
  rw [h1, h2, decide_eq_true h3, decide_eq_true (show d.shown.length ≤ lim from Nat.le_trans (shown_le d h2) h4)]
  rfl
theorem log_lt {i : Int} {k : Nat} (hk : 0 < k) (h : Bd k i) : i.natAbs.log2 < k := PySem.Flt.log2_lt_of hk h
theorem repr_int {i : Int} (h : Bd 1900 i) : bltD .repr [.int i] = some (.str (PyData.int i).shown) := by
  have := log_lt (by decide) h
  exact repr_ok (by simp [PyData.showable]; omega) rfl (by simp [PyData.depth]) (by simp [wD]; omega)
theorem repr_bool (b : Bool) : bltD .repr [.bool b] = some (.str (PyData.bool b).shown) := by cases b <;> kernel_rfl
theorem repr_none : bltD .repr [.none] = some (.str (PyData.none).shown) := by kernel_rfl
theorem eqv_str' (u : Str) : PyData.eqv (.str u) (.str u) = true := by simp [PyData.eqv]
theorem ne_str' (u : Str) : cmpD .NotEq (.str u) (.str u) = some false := by
  show (eqD (.str u) (.str u)).map (!·) = _
  unfold eqD
  rw [if_pos (by rfl), eqv_str']
  rfl
theorem eq_str' (u : Str) : cmpD .Eq (.str u) (.str u) = some true := by
  show eqD (.str u) (.str u) = _
  unfold eqD
  rw [if_pos (by rfl), eqv_str']
theorem len_str (x : Str) : x.length = x.length := rfl
/-! words about loops -/
theorem for_same {st : D → Ro → Option Ro} {body : Ro → SR} (J : Ro → Prop) : ∀ {xs : List D} {ρ : Ro}, (∀ x ∈ xs, ∀ ρ, J ρ → ∃ ρ1 ρ2, st x ρ = some ρ1 ∧ body ρ1 = .nx ρ2 ∧ J ρ2) → J ρ → ∃ ρ', forL st body xs ρ = .nx ρ' ∧ J ρ'
  | [], ρ, _, h0 => ⟨ρ, rfl, h0⟩
  | x :: xs, ρ, h, h0 => by
    obtain ⟨ρ1, ρ2, h1, h2, h3⟩ := h x List.mem_cons_self ρ h0
    obtain ⟨ρ', h4, h5⟩ := for_same J (xs := xs) (ρ := ρ2) (fun y hy => h y (List.mem_cons_of_mem _ hy)) h3
    refine ⟨ρ', ?_, h5⟩
    unfold forL
    rw [h1]
    simp only [h2]
    exact h4
theorem idx_mem {xs : List D} {r : Int} (h0 : 0 ≤ r) (h1 : r < (xs.length : Int)) : ∃ x ∈ xs, idxD (.list xs) (.int r) = some x := by
  have hn : r.toNat < xs.length := by omega
  refine ⟨xs[r.toNat], List.getElem_mem hn, ?_⟩
  show atI xs r = _
  unfold atI ixN
  rw [if_pos h0, if_pos (by omega)]
  simp [hn]
theorem idx_get' {xs : List D} {r : Nat} {x : D} (h : xs[r]? = some x) : idxD (.list xs) (.int (r : Nat)) = some x := by
  obtain ⟨h1, h2⟩ := List.getElem?_eq_some_iff.mp h
  show atI xs (r : Nat) = _
  unfold atI ixN
  rw [if_pos (by omega), if_pos (by omega)]
  simp [h1, h2]
/-! drawn numbers -/
section
variable {tbl : List (Str × De)} {n : Nat}
theorem draw_lk (h : Lk tbl "_law_draw" 4 2 true drawC) {C : Nat} (hC : C < 2 ^ 60) {s : List D} {many : Int} (hs : SrcOk C s) (hm : 0 < many) (hm2 : Bd 4096 many) :
    ∃ r s', calN tbl (n + 1) "_law_draw" [.list s, .int many] = .ok (.int r) (some (.list s')) ∧ 0 ≤ r ∧ r < many ∧ SrcOk (C + 1) s' := by
  obtain ⟨N, h2, e⟩ := lk_runD (n := n) (ds := [.list s, .int many]) h rfl
  obtain ⟨r, s', q, q2⟩ := draw_val (cal := calN tbl n) h2 hC hs hm hm2
  exact ⟨r, s', by rw [e, q], q2⟩
theorem source_lk (h : Lk tbl "_law_source" 4 2 false sourceC) (ns : List Int) {p : Nat} (hp : p ≤ 100) : ∃ s, calN tbl (n + 1) "_law_source" [.list (ns.map .int), .int (p : Nat)] = .ow s none ∧ SrcOk 0 s := by
  obtain ⟨N, h2, e⟩ := lk_runD (n := n) (ds := [.list (ns.map .int), .int (p : Nat)]) h rfl
  obtain ⟨s, q, q2⟩ := source_val (cal := calN tbl n) h2 ns hp
  exact ⟨s, by rw [e, q], q2⟩
end
end Ev
namespace Ev
set_option exponentiation.threshold 5000
open PySem PySem.Spec PyProof.Rows L2
theorem evComp_go {cal : Cal} {b0 : Bool} {kind : Nat} {its : List CE} {tg : List Nat} {one : Bool} {own : List Nat} {cnd : Option CE} {elt : CE} {ρ ρ1 : Ro} {ds xs : List D} (p : D → Bool) (g : D → D) (hA : evA cal b0 its ρ = .ok ds ρ1) (hI : itemsD kind ds = some xs)
    (hf : (free ρ1 own && !(b0 && own.contains 0) && tg.all own.contains) = true) (hl : xs.length ≤ 100000) (hb : backR ρ1 (wipeR ρ1 own) own = ρ1)
    (h : ∀ x ∈ xs, ∃ ρ2, setTg b0 tg one x (wipeR ρ1 own) = some ρ2 ∧ evC cal b0 cnd ρ2 = .ok (p x) ρ2 ∧ (p x = true → ev cal b0 elt ρ2 = .ok (g x) ρ2) ∧ wipeR ρ2 own = wipeR ρ1 own) :
    evComp cal b0 kind its tg one own cnd elt ρ = .ok ((xs.filter p).map g) ρ1 := by
  unfold evComp
  rw [hA]
  simp only [Rs.bind_ok]
  rw [hI]
  simp only
  rw [if_pos hf, comp_filter (p := p) (g := g) (fun x hx => by
    obtain ⟨ρ2, h1, h2, h3, h4⟩ := h x hx
    exact ⟨ρ2, ρ2, h1, h2, fun q => ⟨ρ2, h3 q, h4⟩, fun _ => h4⟩) (by show 0 + xs.length ≤ lim; unfold lim; omega)]
  simp only [Rs.bind_ok, List.nil_append, hb]
theorem evS_fr {cal : Cal} {b0 : Bool} {kind : Nat} {its : List CE} {tg : List Nat} {one : Bool} {body : List CS} {ρ ρ1 : Ro} {ds xs : List D} (hA : evA cal b0 its ρ = .ok ds ρ1) (hI : itemsD kind ds = some xs) :
    evS cal b0 (.fr kind its tg one body) ρ = forL (setTg b0 tg one) (evB cal b0 body) xs ρ1 := by
  rw [evS, hA]
  simp only [Rs.bind_ok]
  rw [hI]
  rfl
theorem evS_own {cal : Cal} {b0 : Bool} {i : Nat} {e : CE} {ρ ρ1 : Ro} {ds : List D} (h : evOwn cal b0 e ρ = .ok ds ρ1) (hi : (b0 && i == 0) = false) : evS cal b0 (.own i e) ρ = .nx (ρ1.set i (some (.list ds, true))) := by
  rw [evS, h]
  show ofS (setOwn b0 i ds ρ1) = _
  unfold setOwn
  rw [hi]
  rfl
theorem evB_cons {cal : Cal} {b0 : Bool} {s : CS} {ss : List CS} {ρ ρ' : Ro} (h : evS cal b0 s ρ = .nx ρ') : evB cal b0 (s :: ss) ρ = evB cal b0 ss ρ' := by
  rw [evB, h]
  rfl
theorem evB_app {cal : Cal} {b0 : Bool} : ∀ {xs ys : List CS} {ρ ρ' : Ro}, evB cal b0 xs ρ = .nx ρ' → evB cal b0 (xs ++ ys) ρ = evB cal b0 ys ρ'
  | [], ys, ρ, ρ', h => by simp only [evB] at h; cases h; rfl
  | x :: xs, ys, ρ, ρ', h => by
    rw [List.cons_append]
    simp only [evB] at h ⊢
    cases hx : evS cal b0 x ρ with
    | nx ρ1 =>
      rw [hx] at h
      exact evB_app h
    | _ => rw [hx] at h; cases h
/-! the lit ticks of a window, one by one -/
section
variable {P S L : Int} {d : Str}
def pLit (P S L j : Int) (x : D) : Bool := match x with
  | .int t => decide ((t - j * S) % (P * S) < L)
  | _ => false
theorem rows_lit (v : Val P S L d) (j a : Int) (m : Nat) : (rngL a (a + m)).filter (pLit P S L j) = (List.range (ahd P S L j (a + m) - ahd P S L j a).toNat).map fun (k : Nat) => PyData.int (ntk P S L j (ahd P S L j a + k)) := by
  have h := Lit.lit_list (R := P * S) (L := L) (by have := v.l1; omega) v.lR (a - j * S) m
  unfold rngL
  rw [show a + (m : Int) - a = m by omega, Int.toNat_natCast]
  have h2 := congrArg (List.map fun u : Int => PyData.int (u + j * S)) h
  rw [List.filter_map, List.map_map, List.map_map] at h2
  rw [List.filter_map]
  have e1 : (pLit P S L j ∘ fun (k : Nat) => PyData.int (a + k)) = ((fun v : Int => decide (v % (P * S) < L)) ∘ fun (k : Nat) => a - j * S + (k : Int)) := by
    funext k
    show decide ((a + k - j * S) % (P * S) < L) = decide ((a - j * S + k) % (P * S) < L)
    rw [show a + (k : Int) - j * S = a - j * S + k by omega]
  have e2 : (fun (k : Nat) => PyData.int (a + k)) = ((fun u : Int => PyData.int (u + j * S)) ∘ fun (k : Nat) => a - j * S + (k : Int)) := by
    funext k
    show PyData.int (a + k) = PyData.int (a - j * S + (k : Int) + j * S)
    congr 1
    omega
  rw [e1, e2, h2]
  unfold ahd
  rw [show a - j * S + (m : Int) = a + m - j * S by omega]
  congr 1
  funext k
  show PyData.int (Lit.nthU (P * S) L (Lit.cnt (P * S) L (a - j * S) + (k : Int)) + j * S) = PyData.int (ntk P S L j (Lit.cnt (P * S) L (a - j * S) + k))
  congr 1
  rw [← ntk_eq (j := j)]
  omega
theorem ntk_bd (v : Val P S L d) {j : Int} (h0 : 0 ≤ j) (h1 : j < P) {A : Int} (hA : Bd 1500 A) : Bd 1900 (ntk P S L j A) := by
  have bj : Bd 4 j := by have := v.p8; unfold Bd; omega
  have l0 : 0 < L := by have := v.l1; omega
  unfold ntk
  exact (((((hA.div l0).mul v.pb).add bj).mul v.sb).add (v.lb.mod l0)).up (by decide)
theorem ahd_bdk (v : Val P S L d) {j : Int} (h0 : 0 ≤ j) (h1 : j < P) {t : Int} {k : Nat} (hk : 304 ≤ k) (ht : Bd k t) : Bd (k + 302) (ahd P S L j t) := by
  have bj : Bd 4 j := by have := v.p8; unfold Bd; omega
  have bt : Bd (k + 1) (t - j * S) := (ht.sub (bj.mul v.sb)).up (by omega)
  unfold ahd Lit.cnt
  have b1 := (bt.div v.sR.2).mul v.lb
  have b2 : Bd 304 (if L < (t - j * S) % (P * S) then L else (t - j * S) % (P * S)) := by
    split
    · exact v.lb.up (by decide)
    · exact v.rb.mod v.sR.2
  exact (b1.add b2).up (by omega)
theorem ntk_bdk (v : Val P S L d) {j : Int} (h0 : 0 ≤ j) (h1 : j < P) {A : Int} {k : Nat} (hk : 300 ≤ k) (hA : Bd k A) : Bd (k + 306) (ntk P S L j A) := by
  have bj : Bd 4 j := by have := v.p8; unfold Bd; omega
  have l0 : 0 < L := by have := v.l1; omega
  unfold ntk
  exact (((((hA.div l0).mul v.pb).add bj).mul v.sb).add (v.lb.mod l0)).up (by omega)
theorem ahd_add (v : Val P S L d) (j t k : Int) : ahd P S L j (t + k * (P * S)) = ahd P S L j t + k * L := by
  unfold ahd
  rw [show t + k * (P * S) - j * S = t - j * S + k * (P * S) by omega]
  exact Lit.cnt_shift v.sR.2 _ _
end
theorem rng1 {a b : Int} : itemsD 1 [.int a, .int b] = some (rngL a b) := rfl
theorem rng_len' (a b : Int) : (rngL a b).length = (b - a).toNat := by simp [rngL]
theorem rng_mem {a b : Int} {x : D} (h : x ∈ rngL a b) : ∃ t, x = .int t ∧ a ≤ t ∧ t < b := by
  unfold rngL at h
  rw [List.mem_map] at h
  obtain ⟨k, h1, rfl⟩ := h
  rw [List.mem_range] at h1
  exact ⟨_, rfl, by omega, by omega⟩
end Ev


set_option Elab.async false
set_option linter.all false
set_option maxRecDepth 100000
set_option maxHeartbeats 4000000
namespace Ev
set_option exponentiation.threshold 5000
open PySem PySem.Spec PyProof.Rows L2
def c_law_pane : List CS := [.asg 3 (.bin .Add (.cst (PyData.int 1)) (.cio "_law_draw" 0 [(.idx (.lst [(.cst (PyData.int 4)), (.cst (PyData.int 12)), (.var 2)]) (.cio "_law_draw" 0 [(.cst (PyData.int 3))]))])), .asg 4 (.idx (.lst [(.cst (PyData.int 1)), (.var 3), (.bin .Add (.cst (PyData.int 1)) (.cio "_law_draw" 0 [(.var 3)]))]) (.cio "_law_draw" 0 [(.cst (PyData.int 3))])), .ret (.tup [(.bin .Add (.cst (PyData.int 1)) (.cio "_law_draw" 0 [(.var 1)])), (.var 3), (.var 4), (.idx (.lst [(.cst (PyData.str "now")), (.cst (PyData.str "round"))]) (.cio "_law_draw" 0 [(.cst (PyData.int 2))]))])]
section
variable {tbl : List (Str × De)} {n : Nat}
theorem pane_val (hD : Lk tbl "_law_draw" 4 2 true drawC) (h : Lk tbl "_law_pane" 5 3 true c_law_pane) {C : Nat} (hC : C + 10 < 2 ^ 60) {s : List D} (hs : SrcOk C s) {most far : Int} (m1 : 1 ≤ most) (m8 : most ≤ 8) (f1 : 1 ≤ far) (fb : far ≤ 10 ^ 30) :
    ∃ P S L d s', calN tbl (n + 2) "_law_pane" [.list s, .int most, .int far] = .ok (dsp P S L d) (some (.list s')) ∧ Val P S L d ∧ P ≤ most ∧ S ≤ max 12 far ∧ SrcOk (C + 6) s' := by
  obtain ⟨r1, s1, e1, a1, b1, o1⟩ := draw_lk (n := n) hD (by omega) hs (many := 3) (by decide) (by decide)
  obtain ⟨x1, hx1, i1⟩ := idx_mem (xs := [.int 4, .int 12, .int far]) a1 b1
  obtain ⟨m, rfl, mm1, mm2⟩ : ∃ m, x1 = .int m ∧ 1 ≤ m ∧ m ≤ max 12 far := by
    simp at hx1
    rcases hx1 with rfl | rfl | rfl
    · exact ⟨4, rfl, by omega, by omega⟩
    · exact ⟨12, rfl, by omega, by omega⟩
    · exact ⟨far, rfl, by omega, by omega⟩
  have c28 : (10 : Int) ^ 28 = 10000000000000000000000000000 := by decide
  obtain ⟨r2, s2, e2, a2, b2, o2⟩ := draw_lk (n := n) hD (by omega) o1 (many := m) (by omega) ((Bd.of (k := 200) (by omega) (by omega)).up (by decide))
  obtain ⟨r3, s3, e3, a3, b3, o3⟩ := draw_lk (n := n) hD (by omega) o2 (many := 1 + r2) (by omega) ((Bd.of (k := 200) (by omega) (by omega)).up (by decide))
  obtain ⟨r4, s4, e4, a4, b4, o4⟩ := draw_lk (n := n) hD (by omega) o3 (many := 3) (by decide) (by decide)
  obtain ⟨x2, hx2, i2⟩ := idx_mem (xs := [.int 1, .int (1 + r2), .int (1 + r3)]) a4 b4
  obtain ⟨L, rfl, l1, l2⟩ : ∃ m, x2 = .int m ∧ 1 ≤ m ∧ m ≤ 1 + r2 := by
    simp at hx2
    rcases hx2 with rfl | rfl | rfl
    · exact ⟨1, rfl, by omega, by omega⟩
    · exact ⟨1 + r2, rfl, by omega, by omega⟩
    · exact ⟨1 + r3, rfl, by omega, by omega⟩
  obtain ⟨r5, s5, e5, a5, b5, o5⟩ := draw_lk (n := n) hD (by omega) o4 (many := most) (by omega) ((Bd.of (k := 200) (by omega) (by omega)).up (by decide))
  obtain ⟨r6, s6, e6, a6, b6, o6⟩ := draw_lk (n := n) hD (by omega) o5 (many := 2) (by decide) (by decide)
  obtain ⟨x3, hx3, i3⟩ := idx_mem (xs := [.str "now", .str "round"]) a6 b6
  obtain ⟨d, rfl, dd⟩ : ∃ d : Str, x3 = .str d ∧ (d = ("now" : Str) ∨ d = ("round" : Str)) := by
    simp at hx3
    rcases hx3 with rfl | rfl
    · exact ⟨_, rfl, .inl rfl⟩
    · exact ⟨_, rfl, .inr rfl⟩
  refine ⟨1 + r5, 1 + r2, L, d, s6, ?_, ⟨by omega, by omega, by omega, l1, l2, dd, (Bd.of (k := 200) (by omega) (by omega)).up (by decide)⟩, by omega, by omega, o6⟩
  rw [lk_runL h rfl]
  simp [c_law_pane, evB, evS, evT, ev, evA, evO, evC, Rs.st, Rs.bind, ofO, SR.seq, set0, ofS, setTg, setMany, truR, truD, callR, permD, outR, oldR, nons, List.replicate, lim, cioR, outL, lent, lim, e1, e2, e3, e4, e5, e6, i1, i2, i3, o_add, dsp]
end
end Ev


set_option Elab.async false
set_option linter.all false
set_option maxRecDepth 100000
set_option maxHeartbeats 4000000
namespace Ev
set_option exponentiation.threshold 5000
open PySem PySem.Spec PyProof.Rows L2
/-! ## the law's outer loops -/
def manyCE (k : Int) : CE := .blt .max [(.cst (PyData.int 1)), (.blt .min [(.cst (PyData.int k)), (.blt .len [(.var 0)])])]
theorem min_nat (k n : Nat) : bltD .min [.int (k : Nat), .int (n : Nat)] = some (.int ((min k n : Nat) : Int)) := by
  show some (PyData.int (if ((n : Nat) : Int) < (k : Nat) then (n : Int) else (k : Nat))) = _
  by_cases h : n < k
  · rw [if_pos (by omega), Nat.min_eq_right (by omega)]
  · rw [if_neg (by omega), Nat.min_eq_left (by omega)]
theorem max_nat (n : Nat) : bltD .max [.int 1, .int (n : Nat)] = some (.int ((max 1 n : Nat) : Int)) := by
  show some (PyData.int (if (n : Int) > 1 then (n : Int) else 1)) = _
  by_cases h : n > 1
  · rw [if_pos (by omega), Nat.max_eq_right (by omega)]
  · rw [if_neg (by omega), Nat.max_eq_left (by omega)]
    rfl
theorem many_go {cal : Cal} {b0 : Bool} {ns : List Int} {ρ : Ro} {k : Nat} (h : ρ[0]? = some (some (.list (ns.map .int), false))) : evA cal b0 [manyCE (k : Nat)] ρ = .ok [.int ((max 1 (min k ns.length) : Nat) : Int)] ρ := by
  have l0 : bltD .len [.list (ns.map PyData.int)] = some (.int ((ns.length : Nat) : Int)) := by
    show some (PyData.int ((ns.map PyData.int).length : Nat)) = _
    rw [List.length_map]
  unfold manyCE
  simp only [evA, ev, h, Rs.bind_ok, l0, ofO_some, min_nat, max_nat]
theorem rng0_len (n : Nat) : (rngL 0 n).length = n := by simp [rngL]
theorem rng0_at {n i : Nat} {x : D} (h : (rngL 0 n)[i]? = some x) : x = .int (i : Nat) ∧ i < n := by
  unfold rngL at h
  rw [List.getElem?_map] at h
  cases q : (List.range ((n : Int) - 0).toNat)[i]? with
  | none => rw [q] at h; cases h
  | some k =>
    rw [q] at h
    obtain ⟨h1, h2⟩ := List.getElem?_eq_some_iff.mp q
    rw [List.getElem_range] at h2
    subst h2
    rw [List.length_range] at h1
    cases h
    exact ⟨by simp, by omega⟩
theorem rng0_items {n : Nat} (h : n ≤ 1000) : itemsD 1 [PyData.int (n : Nat)] = some (rngL 0 (n : Nat)) := rfl
/-- for .. in range(m) -/
theorem rng_loop {cal : Cal} {b0 : Bool} {tg : List Nat} {one : Bool} {body : List CS} (m : Nat) (I : Nat → Ro → Prop) (h : ∀ i, i < m → ∀ ρ, I i ρ → ∃ ρ1 ρ2, setTg b0 tg one (.int (i : Nat)) ρ = some ρ1 ∧ evB cal b0 body ρ1 = .nx ρ2 ∧ I (i + 1) ρ2) {ρ : Ro} (h0 : I 0 ρ) :
    ∃ ρ', forL (setTg b0 tg one) (evB cal b0 body) (rngL 0 (m : Nat)) ρ = .nx ρ' ∧ I m ρ' := by
  obtain ⟨ρ', h1, h2⟩ := for_inv (st := setTg b0 tg one) (body := evB cal b0 body) I (xs := rngL 0 (m : Nat)) (k := 0) (ρ := ρ) (fun i x ρ hx hI => by
    obtain ⟨rfl, hi⟩ := rng0_at hx
    rw [Nat.zero_add] at hI ⊢
    exact h i hi ρ hI) h0
  exact ⟨ρ', h1, by rwa [rng0_len, Nat.zero_add] at h2⟩
theorem laps_go {cal : Cal} {b0 : Bool} {tg : List Nat} {one : Bool} {body : List CS} (m : Nat) (hm : m ≤ 1000) (I : Nat → Ro → Prop) (h : ∀ i, i < m → ∀ ρ, I i ρ → ∃ ρ1 ρ2, setTg b0 tg one (.int (i : Nat)) ρ = some ρ1 ∧ evB cal b0 body ρ1 = .nx ρ2 ∧ I (i + 1) ρ2) {ρ : Ro} (h0 : I 0 ρ) :
    ∃ ρ', evS cal b0 (.fr 1 [.cst (.int (m : Nat))] tg one body) ρ = .nx ρ' ∧ I m ρ' := by
  rw [evS_fr (ρ1 := ρ) (ds := [.int (m : Nat)]) (xs := rngL 0 (m : Nat)) (by simp only [evA, ev, Rs.bind_ok]) (rng0_items hm)]
  exact rng_loop m I h h0
/-- for at in range(max(1, min(k, len(script)))) -/
theorem ats_go {cal : Cal} {b0 : Bool} {tg : List Nat} {one : Bool} {body : List CS} {ns : List Int} (k : Nat) (hk : k ≤ 100) (hk1 : 1 ≤ k) (J : Ro → Prop) {ρ : Ro} (hρ : ρ[0]? = some (some (.list (ns.map .int), false))) (h : ∀ i, i < k → ∀ ρ, J ρ → ∃ ρ1 ρ2, setTg b0 tg one (.int (i : Nat)) ρ = some ρ1 ∧ evB cal b0 body ρ1 = .nx ρ2 ∧ J ρ2) (h0 : J ρ) :
    ∃ ρ', evS cal b0 (.fr 1 [manyCE (k : Nat)] tg one body) ρ = .nx ρ' ∧ J ρ' := by
  rw [evS_fr (many_go hρ) (rng0_items (by omega))]
  exact rng_loop _ (fun _ => J) (fun i hi ρ hJ => h i (by omega) ρ hJ) h0
def isRT : SR → Bool
  | .rt (.bool b) _ => b
  | _ => false
theorem isRT_ok {r : SR} (h : isRT r = true) : ∃ ρ, r = .rt (.bool true) ρ := by
  cases r with
  | rt d ρ =>
    cases d with
    | bool b => cases b with
      | true => exact ⟨ρ, rfl⟩
      | false => cases h
    | _ => cases h
  | _ => cases h
end Ev


set_option Elab.async false
set_option linter.all false
set_option maxRecDepth 100000
set_option maxHeartbeats 4000000
namespace Ev
set_option exponentiation.threshold 5000
open PySem PySem.Spec PyProof.Rows L2
def c_round_of : List CS := [.exp (.call "check_display" [0] [(.var 0)]), .ret (.bin .Mult (.idv 0 (.cst (PyData.int 0))) (.idv 0 (.cst (PyData.int 1))))]
def c_place_at : List CS := [.unp [2, 3, 4, 5] (.var 0), .unp [6, 7] (.blt .divmod [(.bin .Mod (.var 1) (.bin .Mult (.var 2) (.var 3))), (.var 3)]), .ret (.ite (.cmp .Lt (.var 7) (.var 4)) (.var 6) (.cst PyData.none))]
def c_lit_place : List CS := [.exp (.call "check_display" [0] [(.var 0)]), .exp (.call "check_tick" [0] [(.var 1)]), .ret (.call "place_at" [0, 1] [(.var 0), (.var 1)])]
def plc (P S L t : Int) : D := if t % (P * S) % S < L then .int (t % (P * S) / S) else .none
section
variable {P S L : Int} {d : Str} {tbl : List (Str × De)} {n : Nat}
theorem round_of_val (T : Dsp0 tbl) (h : Lk tbl "round_of" 1 1 false c_round_of) (v : Val P S L d) : calN tbl (n + 4) "round_of" [dsp P S L d] = .ok (.int (P * S)) none := by
  rw [lk_run h rfl]
  have e1 := check_display_val (n := n) T v
  have m2 := mul_sm (j := S) (smG_le8 (i := P) (by have := v.p1; omega) v.p8)
  simp [c_round_of, evB, evS, evT, ev, evA, evO, evC, Rs.st, Rs.bind, ofO, SR.seq, set0, ofS, setTg, setMany, truR, truD, callR, permD, outR, oldR, nons, List.replicate, lim, e1, idx_p, idx_s, m2]
theorem place_at_val (h : Lk tbl "place_at" 8 2 false c_place_at) (v : Val P S L d) (t : Int) : calN tbl (n + 1) "place_at" [dsp P S L d, .int t] = .ok (plc P S L t) none := by
  rw [lk_run h rfl]
  have m2 := mul_sm (j := S) (smG_le8 (i := P) (by have := v.p1; omega) v.p8)
  have m3 := opD_mod (i := t) v.sR.2
  have m4 := divmod_val (i := t % (P * S)) (j := S) (by have := v.s1; omega) (v.sb.big (by decide))
  unfold dsp
  unfold plc
  generalize t % (P * S) = u at *
  by_cases q : u % S < L
  · simp [c_place_at, evB, evS, evT, ev, evA, evO, evC, Rs.st, Rs.bind, ofO, SR.seq, set0, ofS, setTg, setMany, truR, truD, callR, permD, outR, oldR, nons, List.replicate, lim, m2, m3, m4, c_lt, q]
  · simp [c_place_at, evB, evS, evT, ev, evA, evO, evC, Rs.st, Rs.bind, ofO, SR.seq, set0, ofS, setTg, setMany, truR, truD, callR, permD, outR, oldR, nons, List.replicate, lim, m2, m3, m4, c_lt, q]
theorem lit_place_val (T : Dsp0 tbl) (h0 : Lk tbl "place_at" 8 2 false c_place_at) (h : Lk tbl "lit_place" 2 2 false c_lit_place) (v : Val P S L d) (t : Int) : calN tbl (n + 4) "lit_place" [dsp P S L d, .int t] = .ok (plc P S L t) none := by
  rw [lk_run h rfl]
  have e1 := check_display_val (n := n) T v
  have e3 := check_tick_val (n := n + 1) T.i1 T.i4 t
  have e4 := place_at_val (n := n + 2) h0 v t
  simp [c_lit_place, evB, evS, evT, ev, evA, evO, evC, Rs.st, Rs.bind, ofO, SR.seq, set0, ofS, setTg, setMany, truR, truD, callR, permD, outR, oldR, nons, List.replicate, lim, e1, e3, e4]
theorem lR_iff (v : Val P S L d) : L = P * S ↔ L = S ∧ P = 1 := by
  have p1 := v.p1
  have s1 := v.s1
  have l2 := v.l2
  constructor
  · intro h
    have hs := v.sR.1
    have e : S = P * S := by omega
    refine ⟨by omega, ?_⟩
    apply Classical.byContradiction
    intro hP
    have := Lit.mul_le (show 2 ≤ P by omega) (show 0 ≤ S by omega)
    omega
  · rintro ⟨h1, h2⟩
    rw [h2]
    omega
theorem in_round (v : Val P S L d) (T j : Int) {a : Int} (h0 : 0 ≤ a) (h1 : a < P * S) : (T * (P * S) + j * S + a - j * S) % (P * S) = a :=
  (Lit.div_of (q := T) h0 h1 (by omega)).2
theorem plc_at (v : Val P S L d) {T j a : Int} (j0 : 0 ≤ j) (j1 : j < P) (h0 : 0 ≤ a) (h1 : a < S) : plc P S L (T * (P * S) + j * S + a) = if a < L then .int j else .none := by
  have s1 := v.s1
  have k1 := Lit.mul_le (show j + 1 ≤ P by omega) (show 0 ≤ S by omega)
  have k0 := Lit.mul_le j0 (show 0 ≤ S by omega)
  rw [Int.add_mul, Int.one_mul] at k1
  have e1 := (Lit.div_of (R := P * S) (q := T) (u := T * (P * S) + j * S + a) (r := j * S + a) (by omega) (by omega) (by omega)).2
  obtain ⟨e2, e3⟩ := Lit.div_of (R := S) (q := j) (u := j * S + a) h0 h1 rfl
  unfold plc
  rw [e1, e2, e3]
theorem plc_next (v : Val P S L d) {T j : Int} (j0 : 0 ≤ j) (j1 : j < P) : plc P S L (T * (P * S) + j * S + S) = .int (if j + 1 < P then j + 1 else 0) := by
  have s1 := v.s1
  have l1 := v.l1
  by_cases h : j + 1 < P
  · have e := plc_at v (T := T) (j := j + 1) (a := 0) (by omega) h (by omega) (by omega)
    rw [if_pos (by omega)] at e
    rw [if_pos h, ← e, Int.add_mul]
    congr 1
    omega
  · have e := plc_at v (T := T + 1) (j := 0) (a := 0) (by omega) (by omega) (by omega) (by omega)
    rw [if_pos (by omega)] at e
    rw [if_neg h, ← e, Int.add_mul]
    congr 1
    have : j + 1 = P := by omega
    rw [← this, Int.add_mul]
    omega
theorem win_le (v : Val P S L d) {j a b : Int} (h : a ≤ b) : win P S L j a b = ahd P S L j b - ahd P S L j a := by
  unfold win
  split
  · rfl
  · have : a = b := by omega
    rw [this]; omega
theorem win_gt {j a b : Int} (h : b ≤ a) : win P S L j a b = 0 := if_neg (by omega)
/-- from the begin of a slot on -/
theorem win_slot (v : Val P S L d) (T j : Int) {a b : Int} (h0 : 0 ≤ a) (h1 : a ≤ b) (h2 : b ≤ P * S) : win P S L j (T * (P * S) + j * S + a) (T * (P * S) + j * S + b) = (if L < b then L else b) - (if L < a then L else a) := by
  have l1 := v.l1
  have lR := v.lR
  have at_ : ∀ x, 0 ≤ x → x ≤ P * S → ahd P S L j (T * (P * S) + j * S + x) = T * L + (if L < x then L else x) := fun x x0 x1 => by
    unfold ahd
    by_cases hx : x < P * S
    · have := Lit.cnt_at (L := L) (q := T) x0 hx
      rw [← this]
      congr 1
      omega
    · have e : x = P * S := by omega
      subst e
      have := Lit.cnt_at (R := P * S) (L := L) (q := T + 1) (r := 0) (by omega) (by omega)
      rw [show T * (P * S) + j * S + P * S - j * S = (T + 1) * (P * S) + 0 by rw [Int.add_mul]; omega, this, Int.add_mul]
      split <;> split <;> omega
  rw [win_le v (by omega), at_ a h0 (by omega), at_ b (by omega) h2]
  omega
theorem win_add (v : Val P S L d) (j a : Int) {k : Int} (h : 0 ≤ k) : win P S L j a (a + k * (P * S)) = k * L := by
  have := Lit.mul_le h (show 0 ≤ P * S by have := v.sR.2; omega)
  rw [win_le v (by omega), ahd_add v]
  omega
theorem win_both (v : Val P S L d) (j a b k : Int) : win P S L j (a + k * (P * S)) (b + k * (P * S)) = win P S L j a b := by
  unfold win
  rw [ahd_add v, ahd_add v]
  split <;> split <;> omega
theorem sumD_int (f : Nat → Int) (n : Nat) : sumD [.list ((List.range n).map fun k => PyData.int (f k))] = some (.int ((List.range n).map f).sum) := by
  have h : ∀ l : List Nat, intsOf (l.map fun k => PyData.int (f k)) = some (l.map f) := fun l => by
    induction l with
    | nil => rfl
    | cons a l ih =>
      show (intsOf (l.map fun k => PyData.int (f k))).map (f a :: ·) = _
      rw [ih]
      rfl
  show (intsOf _).map _ = _
  rw [h]
  rfl
theorem sum_win (v : Val P S L d) {a b : Int} (h : a ≤ b) (n : Nat) : ((List.range n).map fun k : Nat => win P S L k a b).sum = Lit.tot P S L n b - Lit.tot P S L n a := by
  induction n with
  | zero => rfl
  | succ n ih =>
    rw [List.range_succ, List.map_append, List.sum_append, ih, Lit.tot_succ, Lit.tot_succ]
    simp only [List.map_cons, List.map_nil, List.sum_cons, List.sum_nil]
    rw [win_le v h]
    unfold ahd
    omega
end
theorem it9l (xs : List D) : itemsD 9 [.list xs] = some xs := rfl
end Ev


set_option Elab.async false
set_option linter.all false
set_option maxRecDepth 100000
set_option maxHeartbeats 4000000
namespace Ev
set_option exponentiation.threshold 5000
open PySem PySem.Spec PyProof.Rows L2
/-! ## what follows from a run, part by part -/
def WE {α : Type} (r : Rs α) (Q : α → Ro → Prop) : Prop := match r with
  | .ok a ρ => Q a ρ
  | _ => False
def WS (r : SR) (Q : SR → Prop) : Prop := Q r
def sq (K : Ro → Prop) (Q : SR → Prop) : SR → Prop := fun r => match r with
  | .nx ρ => K ρ
  | r => Q r
/-- behind a turn of a loop -/
def lq (N B : Ro → Prop) (Q : SR → Prop) : SR → Prop := fun r => match r with
  | .nx ρ => N ρ
  | .ct ρ => N ρ
  | .bk ρ => B ρ
  | r => Q r
theorem WE.bind {α β : Type} {r : Rs α} {f : α → Ro → Rs β} {Q : β → Ro → Prop} (h : WE r fun a ρ => WE (f a ρ) Q) : WE (r.bind f) Q := by
  cases r with
  | ok a ρ => exact h
  | er c f ρ => exact h.elim
  | bad => exact h.elim
theorem WE.ok {α : Type} {a : α} {ρ : Ro} {Q : α → Ro → Prop} (h : Q a ρ) : WE (.ok a ρ) Q := h
theorem WE.mono {α : Type} {r : Rs α} {Q Q' : α → Ro → Prop} (h : WE r Q) (k : ∀ a ρ, Q a ρ → Q' a ρ) : WE r Q' := by
  cases r with
  | ok a ρ => exact k _ _ h
  | er c f ρ => exact h.elim
  | bad => exact h.elim
theorem WE.get {α : Type} {r : Rs α} {Q : α → Ro → Prop} (h : WE r Q) : ∃ a ρ, r = .ok a ρ ∧ Q a ρ := by
  cases r with
  | ok a ρ => exact ⟨a, ρ, rfl, h⟩
  | er c f ρ => exact h.elim
  | bad => exact h.elim
theorem WE.of {α : Type} {r : Rs α} {a : α} {ρ : Ro} {Q : α → Ro → Prop} (e : r = .ok a ρ) (h : Q a ρ) : WE r Q := by rw [e]; exact h
section
variable {cal : Cal} {b0 : Bool} {ρ : Ro} {Q : D → Ro → Prop} {QA : List D → Ro → Prop}
/-! expressions -/
theorem we_var {i : Nat} {d : D} (h : ρ[i]? = some (some (d, false))) (q : Q d ρ) : WE (ev cal b0 (.var i) ρ) Q := by
  simp only [ev, h]; exact q
theorem we_varO {i : Nat} {d : D} (h : ρ[i]? = some (some (d, true))) (h0 : (b0 && i == 0) = false) (q : Q d (ρ.set i (some (d, false)))) : WE (ev cal b0 (.var i) ρ) Q := by
  simp only [ev, h, h0]; exact q
theorem we_cst {d : D} (q : Q d ρ) : WE (ev cal b0 (.cst d) ρ) Q := by simp only [ev]; exact q
theorem we_gcn {x : Str} {d : D} (q : Q d ρ) : WE (ev cal b0 (.gcn x d) ρ) Q := by simp only [ev]; exact q
theorem ofO_we {α : Type} {o : Option α} {Q : α → Ro → Prop} (h : ∃ d, o = some d ∧ Q d ρ) : WE (ofO o ρ) Q := by
  obtain ⟨d, rfl, q⟩ := h; exact q
theorem we_bin {op : Operator} {a b : CE} (h : WE (ev cal b0 a ρ) fun x ρ1 => WE (ev cal b0 b ρ1) fun y ρ2 => ∃ d, opD op x y = some d ∧ Q d ρ2) : WE (ev cal b0 (.bin op a b) ρ) Q := by
  simp only [ev]
  exact WE.bind (h.mono fun x ρ1 h => WE.bind (h.mono fun y ρ2 h => ofO_we h))
theorem we_neg {a : CE} (h : WE (ev cal b0 a ρ) fun x ρ1 => ∃ d, negD x = some d ∧ Q d ρ1) : WE (ev cal b0 (.neg a) ρ) Q := by
  simp only [ev]
  exact WE.bind (h.mono fun x ρ1 h => ofO_we h)
theorem we_not {a : CE} (h : WE (ev cal b0 a ρ) fun x ρ1 => ∃ b, truD x = some b ∧ Q (.bool (!b)) ρ1) : WE (ev cal b0 (.not a) ρ) Q := by
  simp only [ev]
  refine WE.bind (h.mono fun x ρ1 h => ?_)
  obtain ⟨b, e, q⟩ := h
  rw [e]
  exact q
theorem ofM_we {o : Option Bool} (h : ∃ b, o = some b ∧ Q (.bool b) ρ) : WE (ofO (o.map .bool) ρ) Q := by
  obtain ⟨d, rfl, q⟩ := h; exact q
theorem we_cmp {op : CmpOp} {a b : CE} (h : WE (ev cal b0 a ρ) fun x ρ1 => WE (ev cal b0 b ρ1) fun y ρ2 => ∃ d, cmpD op x y = some d ∧ Q (.bool d) ρ2) : WE (ev cal b0 (.cmp op a b) ρ) Q := by
  simp only [ev]
  exact WE.bind (h.mono fun x ρ1 h => WE.bind (h.mono fun y ρ2 h => ofM_we h))
/-- a chain whose last part changes nothing -/
theorem we_chn {o1 o2 : CmpOp} {a b c : CE} (h : WE (ev cal b0 a ρ) fun x ρ1 => WE (ev cal b0 b ρ1) fun y ρ2 => ∃ k, cmpD o1 x y = some k ∧ WE (ev cal b0 c ρ2) fun z ρ3 => ρ3 = ρ2 ∧ ∃ m, cmpD o2 y z = some m ∧ Q (.bool (k && m)) ρ2) : WE (ev cal b0 (.chn o1 o2 a b c) ρ) Q := by
  simp only [ev]
  refine WE.bind (h.mono fun x ρ1 h => WE.bind (h.mono fun y ρ2 h => ?_))
  obtain ⟨k, e, h⟩ := h
  rw [e]
  obtain ⟨z, ρ3, e3, rfl, m, e4, q⟩ := h.get
  cases k with
  | true =>
    simp only [e3, Rs.bind_ok]
    exact ofM_we ⟨m, e4, q⟩
  | false => exact q
theorem we_and {a b : CE} (h : WE (ev cal b0 a ρ) fun x ρ1 => ∃ k, x = .bool k ∧ (k = true → WE (ev cal b0 b ρ1) Q) ∧ (k = false → Q (.bool false) ρ1)) : WE (ev cal b0 (.and a b) ρ) Q := by
  simp only [ev]
  refine WE.bind (h.mono fun x ρ1 h => ?_)
  obtain ⟨k, rfl, h1, h2⟩ := h
  cases k with
  | true => exact h1 rfl
  | false => exact h2 rfl
theorem we_or {a b : CE} (h : WE (ev cal b0 a ρ) fun x ρ1 => ∃ k, x = .bool k ∧ (k = true → Q (.bool true) ρ1) ∧ (k = false → WE (ev cal b0 b ρ1) Q)) : WE (ev cal b0 (.or a b) ρ) Q := by
  simp only [ev]
  refine WE.bind (h.mono fun x ρ1 h => ?_)
  obtain ⟨k, rfl, h1, h2⟩ := h
  cases k with
  | true => exact h1 rfl
  | false => exact h2 rfl
/-- both sides are well, the second changes nothing -/
theorem we_andP {a b : CE} (h : WE (ev cal b0 a ρ) fun x ρ1 => ∃ k, x = .bool k ∧ WE (ev cal b0 b ρ1) fun y ρ2 => ρ2 = ρ1 ∧ ∃ m, y = .bool m ∧ Q (.bool (k && m)) ρ1) : WE (ev cal b0 (.and a b) ρ) Q := by
  refine we_and (h.mono fun x ρ1 h => ?_)
  obtain ⟨k, rfl, h⟩ := h
  obtain ⟨y, ρ2, e, rfl, m, rfl, q⟩ := h.get
  refine ⟨k, rfl, fun z => ?_, fun z => ?_⟩
  · subst z; rw [e]; exact q
  · subst z; exact q
theorem we_orP {a b : CE} (h : WE (ev cal b0 a ρ) fun x ρ1 => ∃ k, x = .bool k ∧ WE (ev cal b0 b ρ1) fun y ρ2 => ρ2 = ρ1 ∧ ∃ m, y = .bool m ∧ Q (.bool (k || m)) ρ1) : WE (ev cal b0 (.or a b) ρ) Q := by
  refine we_or (h.mono fun x ρ1 h => ?_)
  obtain ⟨k, rfl, h⟩ := h
  obtain ⟨y, ρ2, e, rfl, m, rfl, q⟩ := h.get
  refine ⟨k, rfl, fun z => ?_, fun z => ?_⟩
  · subst z; exact q
  · subst z; rw [e]; exact q
theorem we_ite {c a b : CE} (h : WE (ev cal b0 c ρ) fun x ρ1 => ∃ k, truD x = some k ∧ (k = true → WE (ev cal b0 a ρ1) Q) ∧ (k = false → WE (ev cal b0 b ρ1) Q)) : WE (ev cal b0 (.ite c a b) ρ) Q := by
  simp only [ev]
  refine WE.bind (h.mono fun x ρ1 h => ?_)
  obtain ⟨k, e, h1, h2⟩ := h
  unfold truR
  rw [e]
  cases k with
  | true => exact h1 rfl
  | false => exact h2 rfl
theorem we_nil (q : QA [] ρ) : WE (evA cal b0 [] ρ) QA := by simp only [evA]; exact q
theorem we_cons {e : CE} {es : List CE} (h : WE (ev cal b0 e ρ) fun d ρ1 => WE (evA cal b0 es ρ1) fun ds ρ2 => QA (d :: ds) ρ2) : WE (evA cal b0 (e :: es) ρ) QA := by
  simp only [evA]
  exact WE.bind (h.mono fun x ρ1 h => WE.bind (h.mono fun y ρ2 h => h))
theorem we_tup {es : List CE} (h : WE (evA cal b0 es ρ) fun ds ρ1 => ds.length ≤ 100000 ∧ Q (.tuple ds) ρ1) : WE (ev cal b0 (.tup es) ρ) Q := by
  simp only [ev]
  exact WE.bind (h.mono fun ds ρ1 h => by rw [if_pos (show ds.length ≤ lim from h.1)]; exact h.2)
theorem we_lst {es : List CE} (h : WE (evA cal b0 es ρ) fun ds ρ1 => ds.length ≤ 100000 ∧ Q (.list ds) ρ1) : WE (ev cal b0 (.lst es) ρ) Q := by
  simp only [ev]
  exact WE.bind (h.mono fun ds ρ1 h => by rw [if_pos (show ds.length ≤ lim from h.1)]; exact h.2)
theorem we_idx {a b : CE} (h : WE (ev cal b0 a ρ) fun x ρ1 => WE (ev cal b0 b ρ1) fun y ρ2 => ∃ d, idxD x y = some d ∧ Q d ρ2) : WE (ev cal b0 (.idx a b) ρ) Q := by
  simp only [ev]
  exact WE.bind (h.mono fun x ρ1 h => WE.bind (h.mono fun y ρ2 h => ofO_we h))
theorem we_idv {i : Nat} {b : CE} {d : D} (hi : ρ[i]? = some (some (d, false))) (h : WE (ev cal b0 b ρ) fun y ρ1 => ∃ e, idxD d y = some e ∧ Q e ρ1) : WE (ev cal b0 (.idv i b) ρ) Q := by
  simp only [ev, hi]
  exact WE.bind (h.mono fun y ρ2 h => ofO_we h)
theorem we_idvO {i : Nat} {b : CE} {d : D} (hi : ρ[i]? = some (some (d, true))) (h : WE (ev cal b0 b ρ) fun y ρ1 => ∃ d, ρ1[i]? = some (some (d, true)) ∧ ∃ e, idxD d y = some e ∧ Q e ρ1) : WE (ev cal b0 (.idv i b) ρ) Q := by
  simp only [ev, hi]
  refine WE.bind (h.mono fun y ρ2 h => ?_)
  obtain ⟨d', e, h⟩ := h
  rw [e]
  exact ofO_we h
theorem evO_none {QO : Option Int → Ro → Prop} (q : QO none ρ) : WE (evO cal b0 none ρ) QO := by simp only [evO]; exact q
theorem evO_some {e : CE} {QO : Option Int → Ro → Prop} (h : WE (ev cal b0 e ρ) fun x ρ1 => ∃ i, x = .int i ∧ QO (some i) ρ1) : WE (evO cal b0 (some e) ρ) QO := by
  simp only [evO]
  refine WE.bind (h.mono fun x ρ1 h => ?_)
  obtain ⟨i, rfl, q⟩ := h
  exact q
theorem we_slc {a : CE} {lo hi : Option CE} (h : WE (ev cal b0 a ρ) fun x ρ1 => WE (evO cal b0 lo ρ1) fun l ρ2 => WE (evO cal b0 hi ρ2) fun u ρ3 => ∃ d, slcD x l u = some d ∧ Q d ρ3) : WE (ev cal b0 (.slc a lo hi) ρ) Q := by
  simp only [ev]
  exact WE.bind (h.mono fun x ρ1 h => WE.bind (h.mono fun y ρ2 h => WE.bind (h.mono fun y ρ2 h => ofO_we h)))
theorem we_rev {a : CE} (h : WE (ev cal b0 a ρ) fun x ρ1 => ∃ d, revD x = some d ∧ Q d ρ1) : WE (ev cal b0 (.rev a) ρ) Q := by
  simp only [ev]
  exact WE.bind (h.mono fun x ρ1 h => ofO_we h)
theorem we_call {f : Str} {perm : List Nat} {args : List CE} (h : WE (evA cal b0 args ρ) fun ds ρ1 => ∃ es, permD perm ds = some es ∧ WE (callR (cal f es) ρ1) Q) : WE (ev cal b0 (.call f perm args) ρ) Q := by
  simp only [ev]
  refine WE.bind (h.mono fun ds ρ1 h => ?_)
  obtain ⟨es, e, q⟩ := h
  rw [e]
  exact q
theorem we_cio {f : Str} {i : Nat} {args : List CE} {d0 : D} (hi : ρ[i]? = some (some (d0, true))) (h : WE (evA cal b0 args ρ) fun ds ρ1 => ∃ es, ρ1[i]? = some (some (.list es, true)) ∧ WE (cioR i (cal f (.list es :: ds)) ρ1) Q) : WE (ev cal b0 (.cio f i args) ρ) Q := by
  simp only [ev, hi]
  refine WE.bind (h.mono fun ds ρ1 h => ?_)
  obtain ⟨d, e, q⟩ := h
  rw [e]
  exact q
theorem we_cfo {f g : Str} {perm : List Nat} {bs args : List CE} (h : WE (evA cal b0 bs ρ) fun ds0 ρ1 => ∃ es, permD perm ds0 = some es ∧ ∃ xs, cal g es = .ow xs none ∧ WE (evA cal b0 args ρ1) fun ds ρ2 => WE (cfoR (cal f (.list xs :: ds)) ρ2) Q) : WE (ev cal b0 (.cfo f g perm bs args) ρ) Q := by
  simp only [ev]
  refine WE.bind (h.mono fun ds ρ1 h => ?_)
  obtain ⟨es, e, xs, e2, q⟩ := h
  rw [e]
  simp only
  rw [e2]
  exact WE.bind (q.mono fun ds ρ2 h => h)
theorem we_cfoR {r : CR} {d x : D} (e : r = .ok d (some x)) (q : Q d ρ) : WE (cfoR r ρ) Q := by rw [e]; exact q
theorem we_ret {r : CR} {d : D} (e : r = .ok d none) (q : Q d ρ) : WE (callR r ρ) Q := by rw [e]; exact q
theorem we_retO {r : CR} {ds : List D} (e : r = .ow ds none) (q : Q (.list ds) ρ) : WE (callR r ρ) Q := by rw [e]; exact q
theorem we_cioR {r : CR} {i : Nat} {d x : D} (e : r = .ok d (some x)) (q : Q d (ρ.set i (some (x, true)))) : WE (cioR i r ρ) Q := by rw [e]; exact q
theorem we_cioRO {r : CR} {i : Nat} {ds : List D} {x : D} (e : r = .ow ds (some x)) (q : Q (.list ds) (ρ.set i (some (x, true)))) : WE (cioR i r ρ) Q := by rw [e]; exact q
theorem we_blt {f : Bi} {args : List CE} (h : WE (evA cal b0 args ρ) fun ds ρ1 => ∃ d, bltD f ds = some d ∧ Q d ρ1) : WE (ev cal b0 (.blt f args) ρ) Q := by
  simp only [ev]
  exact WE.bind (h.mono fun ds ρ1 h => ofO_we h)
theorem we_isi {a : CE} {c : String} (h : WE (ev cal b0 a ρ) fun x ρ1 => ∃ b, isiD x c = some b ∧ Q (.bool b) ρ1) : WE (ev cal b0 (.isi a c) ρ) Q := by
  simp only [ev]
  exact WE.bind (h.mono fun ds ρ1 h => ofM_we h)
theorem we_mth {m : Mi} {o : CE} {args : List CE} (h : WE (ev cal b0 o ρ) fun x ρ1 => recv m x = true ∧ WE (evA cal b0 args ρ1) fun ds ρ2 => ∃ d, mthD m x ds = some d ∧ Q d ρ2) : WE (ev cal b0 (.mth m o args) ρ) Q := by
  simp only [ev]
  refine WE.bind (h.mono fun x ρ1 h => ?_)
  rw [if_pos h.1]
  exact WE.bind (h.2.mono fun ds ρ1 h => ofO_we h)
theorem we_dct (q : Q (.dict []) ρ) : WE (ev cal b0 .dct ρ) Q := by simp only [ev]; exact q
theorem we_lr1 {a : CE} (h : WE (ev cal b0 a ρ) fun x ρ1 => ∃ d, lrD (.int 0) x = some d ∧ Q d ρ1) : WE (ev cal b0 (.lr1 a) ρ) Q := by
  simp only [ev]
  exact WE.bind (h.mono fun x ρ1 h => ofO_we h)
theorem we_srs {a : CE} (h : WE (ev cal b0 a ρ) fun x ρ1 => ∃ d, srsD x = some d ∧ Q d ρ1) : WE (ev cal b0 (.srs a) ρ) Q := by
  simp only [ev]
  exact WE.bind (h.mono fun x ρ1 h => ofO_we h)
theorem we_mnd {a b : CE} (h : WE (ev cal b0 a ρ) fun x ρ1 => WE (ev cal b0 b ρ1) fun y ρ2 => ∃ d, mndD x y = some d ∧ Q d ρ2) : WE (ev cal b0 (.mnd a b) ρ) Q := by
  simp only [ev]
  exact WE.bind (h.mono fun x ρ1 h => WE.bind (h.mono fun y ρ2 h => ofO_we h))
theorem we_lr2 {a b : CE} (h : WE (ev cal b0 a ρ) fun x ρ1 => WE (ev cal b0 b ρ1) fun y ρ2 => ∃ d, lrD x y = some d ∧ Q d ρ2) : WE (ev cal b0 (.lr2 a b) ρ) Q := by
  simp only [ev]
  exact WE.bind (h.mono fun x ρ1 h => WE.bind (h.mono fun y ρ2 h => ofO_we h))
theorem we_lzp {a b : CE} (h : WE (ev cal b0 a ρ) fun x ρ1 => WE (ev cal b0 b ρ1) fun y ρ2 => ∃ d, lzD x y = some d ∧ Q d ρ2) : WE (ev cal b0 (.lzp a b) ρ) Q := by
  simp only [ev]
  exact WE.bind (h.mono fun x ρ1 h => WE.bind (h.mono fun y ρ2 h => ofO_we h))
theorem we_rpo {i : Nat} {d : D} {w : Bool} (hi : ρ[i]? = some (some (d, w))) (h : ∃ e, bltD .repr [d] = some e ∧ Q e ρ) : WE (ev cal b0 (.rpo i) ρ) Q := by
  simp only [ev, hi]
  exact ofO_we h
theorem we_neq {i : Nat} {d : D} {w : Bool} (hi : ρ[i]? = some (some (d, w))) (hs : SeqAt.shaped d = true) (q : Q (.bool (!PyData.eqv d (.list []))) ρ) : WE (ev cal b0 (.neq i) ρ) Q := by
  simp only [ev, hi]
  rw [if_pos hs]
  exact q
theorem we_comp {kind : Nat} {its : List CE} {tg : List Nat} {one : Bool} {own : List Nat} {cnd : Option CE} {elt : CE} (h : WE (evComp cal b0 kind its tg one own cnd elt ρ) fun ds ρ1 => Q (.list ds) ρ1) : WE (ev cal b0 (.comp kind its tg one own cnd elt) ρ) Q := by
  rw [ev_comp]
  exact WE.bind (h.mono fun ds ρ1 h => h)
/-- a comprehension that changes nothing -/
theorem wc_pure {kind : Nat} {its : List CE} {tg : List Nat} {one : Bool} {own : List Nat} {cnd : Option CE} {elt : CE} (p : D → Bool) (g : D → D)
    (h : WE (evA cal b0 its ρ) fun ds ρ1 => ∃ xs, itemsD kind ds = some xs ∧ (free ρ1 own && !(b0 && own.contains 0) && tg.all own.contains) = true ∧ xs.length ≤ 100000 ∧ backR ρ1 (wipeR ρ1 own) own = ρ1 ∧
      (∀ x ∈ xs, ∃ ρ2, setTg b0 tg one x (wipeR ρ1 own) = some ρ2 ∧ WE (evC cal b0 cnd ρ2) (fun k ρ3 => k = p x ∧ ρ3 = ρ2) ∧ (p x = true → WE (ev cal b0 elt ρ2) fun y ρ3 => y = g x ∧ ρ3 = ρ2) ∧ wipeR ρ2 own = wipeR ρ1 own) ∧ QA ((xs.filter p).map g) ρ1) :
    WE (evComp cal b0 kind its tg one own cnd elt ρ) QA := by
  obtain ⟨ds, ρ1, e1, xs, h1, h2, h3, h4, h5, q⟩ := h.get
  rw [evComp_go p g e1 h1 h2 h3 h4 fun x hx => ?_]
  · exact q
  · obtain ⟨ρ2, a1, a2, a3, a4⟩ := h5 x hx
    obtain ⟨k, ρ3, b1, rfl, rfl⟩ := a2.get
    refine ⟨_, a1, b1, fun z => ?_, a4⟩
    obtain ⟨y, ρ4, c1, rfl, rfl⟩ := (a3 z).get
    exact c1
theorem evC_none {k : Bool} (h : k = true) : WE (evC cal b0 none ρ) (fun k' ρ3 => k' = k ∧ ρ3 = ρ) := by
  simp only [evC]; exact ⟨h.symm, rfl⟩
theorem evC_some {e : CE} {QB : Bool → Ro → Prop} (h : WE (ev cal b0 e ρ) fun x ρ1 => ∃ k, truD x = some k ∧ QB k ρ1) : WE (evC cal b0 (some e) ρ) QB := by
  simp only [evC]
  refine WE.bind (h.mono fun x ρ1 h => ?_)
  obtain ⟨k, e, q⟩ := h
  unfold truR
  rw [e]
  exact q
theorem evT_we {c : CE} {QB : Bool → Ro → Prop} (h : WE (ev cal b0 c ρ) fun x ρ1 => ∃ k, truD x = some k ∧ QB k ρ1) : WE (evT cal b0 c ρ) QB := by
  unfold evT
  refine WE.bind (h.mono fun x ρ1 h => ?_)
  obtain ⟨k, e, q⟩ := h
  unfold truR
  rw [e]
  exact q
/-! owned -/
theorem wo_lst {es : List CE} (h : WE (evA cal b0 es ρ) fun ds ρ1 => ds.length ≤ 100000 ∧ QA ds ρ1) : WE (evOwn cal b0 (.lst es) ρ) QA := by
  simp only [evOwn]
  exact WE.bind (h.mono fun ds ρ1 h => by rw [if_pos (show ds.length ≤ lim from h.1)]; exact h.2)
theorem wo_comp {kind : Nat} {its : List CE} {tg : List Nat} {one : Bool} {own : List Nat} {cnd : Option CE} {elt : CE} (h : WE (evComp cal b0 kind its tg one own cnd elt ρ) QA) : WE (evOwn cal b0 (.comp kind its tg one own cnd elt) ρ) QA := by
  simp only [evOwn]; exact h
theorem wo_mul {a b : CE} (h : WE (ev cal b0 a ρ) fun x ρ1 => WE (ev cal b0 b ρ1) fun y ρ2 => ∃ xs j, x = .list xs ∧ y = .int j ∧ 0 ≤ j ∧ j ≤ 100000 ∧ xs.length * j.toNat ≤ 100000 ∧ QA (List.replicate j.toNat xs).flatten ρ2) : WE (evOwn cal b0 (.bin .Mult a b) ρ) QA := by
  simp only [evOwn]
  refine WE.bind (h.mono fun x ρ1 h => WE.bind (h.mono fun y ρ2 h => ?_))
  obtain ⟨xs, j, rfl, rfl, h1, h2, h3, q⟩ := h
  simp only
  rw [if_pos ⟨h1, h2, h3⟩]
  exact q
theorem wo_add {a b : CE} (h : WE (ev cal b0 a ρ) fun x ρ1 => WE (ev cal b0 b ρ1) fun y ρ2 => ∃ xs ys, x = .list xs ∧ y = .list ys ∧ xs.length + ys.length ≤ 100000 ∧ QA (xs ++ ys) ρ2) : WE (evOwn cal b0 (.bin .Add a b) ρ) QA := by
  simp only [evOwn]
  refine WE.bind (h.mono fun x ρ1 h => WE.bind (h.mono fun y ρ2 h => ?_))
  obtain ⟨xs, ys, rfl, rfl, h1, q⟩ := h
  simp only
  rw [if_pos (show xs.length + ys.length ≤ lim from h1)]
  exact q
theorem wo_list {a : CE} (h : WE (ev cal b0 a ρ) fun x ρ1 => ∃ xs, (x = .list xs ∨ x = .tuple xs) ∧ QA xs ρ1) : WE (evOwn cal b0 (.blt .list [a]) ρ) QA := by
  simp only [evOwn]
  refine WE.bind (h.mono fun x ρ1 h => ?_)
  obtain ⟨xs, rfl | rfl, q⟩ := h <;> exact q
theorem wo_srt {a : CE} (h : WE (ev cal b0 a ρ) fun x ρ1 => ∃ xs, sortedD [x] = some (.list xs) ∧ QA xs ρ1) : WE (evOwn cal b0 (.blt .sorted [a]) ρ) QA := by
  simp only [evOwn]
  refine WE.bind (h.mono fun x ρ1 h => ?_)
  obtain ⟨xs, e, q⟩ := h
  rw [e]
  exact q
theorem wo_ite {c a b : CE} (h : WE (ev cal b0 c ρ) fun x ρ1 => ∃ k, truD x = some k ∧ (k = true → WE (evOwn cal b0 a ρ1) QA) ∧ (k = false → WE (evOwn cal b0 b ρ1) QA)) : WE (evOwn cal b0 (.ite c a b) ρ) QA := by
  simp only [evOwn]
  refine WE.bind (r := evT cal b0 c ρ) ?_
  refine evT_we (h.mono fun x ρ1 h => ?_)
  obtain ⟨k, e, h1, h2⟩ := h
  refine ⟨k, e, ?_⟩
  cases k with
  | true => exact h1 rfl
  | false => exact h2 rfl
theorem we_gcd {a b : CE} (h : WE (ev cal b0 a ρ) fun x ρ1 => WE (ev cal b0 b ρ1) fun y ρ2 => ∃ d, gcdD x y = some d ∧ Q d ρ2) : WE (ev cal b0 (.gcd a b) ρ) Q := by
  simp only [ev]
  exact WE.bind (h.mono fun x ρ1 h => WE.bind (h.mono fun y ρ2 h => ofO_we h))
theorem wo_call {f : Str} {perm : List Nat} {args : List CE} (h : WE (evA cal b0 args ρ) fun ds ρ1 => ∃ es, permD perm ds = some es ∧ ∃ xs, cal f es = .ow xs none ∧ QA xs ρ1) : WE (evOwn cal b0 (.call f perm args) ρ) QA := by
  simp only [evOwn]
  refine WE.bind (h.mono fun ds ρ1 h => ?_)
  obtain ⟨es, e, xs, e2, q⟩ := h
  rw [e]
  simp only
  rw [e2]
  exact q
theorem wo_cio {f : Str} {i : Nat} {args : List CE} {d0 : D} (hi : ρ[i]? = some (some (d0, true))) (h : WE (evA cal b0 args ρ) fun ds ρ1 => ∃ es, ρ1[i]? = some (some (.list es, true)) ∧ ∃ xs x, cal f (.list es :: ds) = .ow xs (some x) ∧ QA xs (ρ1.set i (some (x, true)))) : WE (evOwn cal b0 (.cio f i args) ρ) QA := by
  simp only [evOwn, hi]
  refine WE.bind (h.mono fun ds ρ1 h => ?_)
  obtain ⟨d, e, xs, x, e2, q⟩ := h
  rw [e]
  simp only
  rw [e2]
  exact q
end
section
variable {cal : Cal} {b0 : Bool} {ρ : Ro} {Q : SR → Prop} {ss : List CS}
theorem st_ws {α : Type} {r : Rs α} {f : α → Ro → SR} (h : WE r fun a ρ => Q (f a ρ)) : Q (r.st f) := by
  cases r with
  | ok a ρ => exact h
  | er c f ρ => exact h.elim
  | bad => exact h.elim
theorem ws_seq {s : CS} (h : WS (evS cal b0 s ρ) (sq (fun ρ' => WS (evB cal b0 ss ρ') Q) Q)) : WS (evB cal b0 (s :: ss) ρ) Q := by
  unfold WS at *
  simp only [evB]
  cases hr : evS cal b0 s ρ <;> rw [hr] at h <;> exact h
theorem ws_nil (h : Q (.nx ρ)) : WS (evB cal b0 [] ρ) Q := by unfold WS; simp only [evB]; exact h
theorem ws_nilq {K : Ro → Prop} (h : K ρ) : WS (evB cal b0 [] ρ) (sq K Q) := ws_nil h
theorem ws_nill {N B : Ro → Prop} (h : N ρ) : WS (evB cal b0 [] ρ) (lq N B Q) := ws_nil h
theorem ws_asg {i : Nat} {e : CE} (h0 : (b0 && i == 0) = false) (h : WE (ev cal b0 e ρ) fun d ρ1 => WS (evB cal b0 ss (ρ1.set i (some (d, false)))) Q) : WS (evB cal b0 (.asg i e :: ss) ρ) Q := by
  refine ws_seq ?_
  unfold WS at *
  simp only [evS]
  refine st_ws (Q := sq _ Q) (h.mono fun d ρ1 h => ?_)
  unfold set0 ofS
  rw [h0]
  exact h
theorem ws_own {i : Nat} {e : CE} (h0 : (b0 && i == 0) = false) (h : WE (evOwn cal b0 e ρ) fun ds ρ1 => WS (evB cal b0 ss (ρ1.set i (some (.list ds, true)))) Q) : WS (evB cal b0 (.own i e :: ss) ρ) Q := by
  refine ws_seq ?_
  unfold WS at *
  simp only [evS]
  refine st_ws (Q := sq _ Q) (h.mono fun d ρ1 h => ?_)
  unfold setOwn ofS
  rw [h0]
  exact h
theorem ws_par {is : List Nat} {es : List (Bool × CE)} (h : WE (evPa cal b0 es ρ) fun ds ρ1 => ∃ ρ2, setPa b0 is ds ρ1 = some ρ2 ∧ WS (evB cal b0 ss ρ2) Q) : WS (evB cal b0 (.par is es :: ss) ρ) Q := by
  refine ws_seq ?_
  unfold WS at *
  simp only [evS]
  refine st_ws (Q := sq _ Q) (h.mono fun d ρ1 h => ?_)
  obtain ⟨ρ2, e, q⟩ := h
  rw [e]
  exact q
theorem wp_nil {QP : List (D × Bool) → Ro → Prop} (h : QP [] ρ) : WE (evPa cal b0 [] ρ) QP := by simp only [evPa]; exact h
theorem wp_own {e : CE} {es : List (Bool × CE)} {QP : List (D × Bool) → Ro → Prop} (h : WE (evOwn cal b0 e ρ) fun ds ρ1 => WE (evPa cal b0 es ρ1) fun r ρ2 => QP ((.list ds, true) :: r) ρ2) : WE (evPa cal b0 ((true, e) :: es) ρ) QP := by
  simp only [evPa]
  exact WE.bind (h.mono fun ds ρ1 h => WE.bind (h.mono fun ds ρ1 h => h))
theorem wp_ev {e : CE} {es : List (Bool × CE)} {QP : List (D × Bool) → Ro → Prop} (h : WE (ev cal b0 e ρ) fun d ρ1 => WE (evPa cal b0 es ρ1) fun r ρ2 => QP ((d, false) :: r) ρ2) : WE (evPa cal b0 ((false, e) :: es) ρ) QP := by
  simp only [evPa]
  exact WE.bind (h.mono fun ds ρ1 h => WE.bind (h.mono fun ds ρ1 h => h))
theorem ws_aug {op : Operator} {i : Nat} {e : CE} {x : Int} (hi : ρ[i]? = some (some (.int x, false))) (h0 : (b0 && i == 0) = false) (h : WE (ev cal b0 e ρ) fun y ρ1 => ∃ d, augD op (.int x) y = some d ∧ WS (evB cal b0 ss (ρ1.set i (some (d, false)))) Q) : WS (evB cal b0 (.aug op i e :: ss) ρ) Q := by
  refine ws_seq ?_
  unfold WS at *
  simp only [evS, hi]
  refine st_ws (Q := sq _ Q) (h.mono fun d ρ1 h => ?_)
  obtain ⟨d', e, q⟩ := h
  rw [e]
  unfold set0 ofS
  rw [h0]
  exact q
theorem ws_unp {is : List Nat} {e : CE} (h : WE (ev cal b0 e ρ) fun d ρ1 => ∃ ρ2, setTg b0 is false d ρ1 = some ρ2 ∧ WS (evB cal b0 ss ρ2) Q) : WS (evB cal b0 (.unp is e :: ss) ρ) Q := by
  refine ws_seq ?_
  unfold WS at *
  simp only [evS]
  refine st_ws (Q := sq _ Q) (h.mono fun d ρ1 h => ?_)
  obtain ⟨ρ2, e, q⟩ := h
  rw [e]
  exact q
theorem ws_sub {i : Nat} {ix e : CE} {d0 : D} (hi : ρ[i]? = some (some (d0, true))) (h : WE (ev cal b0 e ρ) fun d ρ1 => WE (ev cal b0 ix ρ1) fun k ρ2 => ∃ ds j m, ρ2[i]? = some (some (.list ds, true)) ∧ k = .int j ∧ ixN ds.length j = some m ∧ WS (evB cal b0 ss (ρ2.set i (some (.list (ds.set m d), true)))) Q) : WS (evB cal b0 (.sub i ix e :: ss) ρ) Q := by
  refine ws_seq ?_
  unfold WS at *
  simp only [evS, hi]
  refine st_ws (Q := sq _ Q) (h.mono fun d ρ1 h => st_ws (Q := sq _ Q) (h.mono fun k ρ2 h => ?_))
  obtain ⟨ds, j, m, e1, rfl, e2, q⟩ := h
  rw [e1]
  simp only
  rw [e2]
  exact q
theorem ws_app {i : Nat} {e : CE} {d0 : List D} (hi : ρ[i]? = some (some (.list d0, true))) (h : WE (ev cal b0 e ρ) fun d ρ1 => ∃ ds, ρ1[i]? = some (some (.list ds, true)) ∧ ds.length < 100000 ∧ WS (evB cal b0 ss (ρ1.set i (some (.list (ds ++ [d]), true)))) Q) : WS (evB cal b0 (.app i e :: ss) ρ) Q := by
  refine ws_seq ?_
  unfold WS at *
  simp only [evS, hi]
  refine st_ws (Q := sq _ Q) (h.mono fun d ρ1 h => ?_)
  obtain ⟨ds, e1, e2, q⟩ := h
  rw [e1]
  simp only
  rw [if_pos (show ds.length < lim from e2)]
  exact q
theorem ws_exp {e : CE} (h : WE (ev cal b0 e ρ) fun _ ρ1 => WS (evB cal b0 ss ρ1) Q) : WS (evB cal b0 (.exp e :: ss) ρ) Q := by
  refine ws_seq ?_
  unfold WS at *
  simp only [evS]
  exact st_ws (Q := sq _ Q) (h.mono fun d ρ1 h => h)
theorem ws_pas (h : WS (evB cal b0 ss ρ) Q) : WS (evB cal b0 (.pas :: ss) ρ) Q := by
  refine ws_seq ?_
  unfold WS at *
  simp only [evS]
  exact h
theorem ws_iff {c : CE} {a b : List CS} (h : WE (ev cal b0 c ρ) fun x ρ1 => ∃ k, truD x = some k ∧ (k = true → WS (evB cal b0 a ρ1) (sq (fun ρ' => WS (evB cal b0 ss ρ') Q) Q)) ∧ (k = false → WS (evB cal b0 b ρ1) (sq (fun ρ' => WS (evB cal b0 ss ρ') Q) Q))) : WS (evB cal b0 (.iff c a b :: ss) ρ) Q := by
  refine ws_seq ?_
  unfold WS at *
  simp only [evS]
  refine st_ws (Q := sq _ Q) (evT_we (h.mono fun x ρ1 h => ?_))
  obtain ⟨k, e, h1, h2⟩ := h
  refine ⟨k, e, ?_⟩
  cases k with
  | true => exact h1 rfl
  | false => exact h2 rfl
theorem ws_ret {e : CE} (h : WE (ev cal b0 e ρ) fun d ρ1 => Q (.rt d ρ1)) : WS (evB cal b0 (.ret e :: ss) ρ) Q := by
  refine ws_seq ?_
  unfold WS
  simp only [evS]
  exact st_ws (Q := sq _ Q) (h.mono fun d ρ1 h => h)
theorem ws_retO {e : CE} (h : WE (evOwn cal b0 e ρ) fun ds ρ1 => Q (.ro ds ρ1)) : WS (evB cal b0 (.retO e :: ss) ρ) Q := by
  refine ws_seq ?_
  unfold WS
  simp only [evS]
  exact st_ws (Q := sq _ Q) (h.mono fun d ρ1 h => h)
theorem ws_retN (h : Q (.rt .none ρ)) : WS (evB cal b0 (.retN :: ss) ρ) Q := by
  refine ws_seq ?_
  unfold WS
  simp only [evS]
  exact h
theorem ws_retV {i : Nat} {d : D} (hi : ρ[i]? = some (some (d, false))) (h : Q (.rt d ρ)) : WS (evB cal b0 (.retV i :: ss) ρ) Q := by
  refine ws_seq ?_
  unfold WS
  simp only [evS, hi]
  exact h
theorem ws_retVO {i : Nat} {ds : List D} (hi : ρ[i]? = some (some (.list ds, true))) (h0 : (b0 && i == 0) = false) (h : Q (.ro ds (ρ.set i none))) : WS (evB cal b0 (.retV i :: ss) ρ) Q := by
  refine ws_seq ?_
  unfold WS
  simp only [evS, hi, h0]
  exact h
theorem ws_brk {N B : Ro → Prop} (h : B ρ) : WS (evB cal b0 (.brk :: ss) ρ) (lq N B Q) := by
  refine ws_seq ?_
  unfold WS
  simp only [evS]
  exact h
theorem ws_ctn {N B : Ro → Prop} (h : N ρ) : WS (evB cal b0 (.ctn :: ss) ρ) (lq N B Q) := by
  refine ws_seq ?_
  unfold WS
  simp only [evS]
  exact h
theorem ws_brkq {K : Ro → Prop} {N B : Ro → Prop} (h : B ρ) : WS (evB cal b0 (.brk :: ss) ρ) (sq K (lq N B Q)) := by
  refine ws_seq ?_
  unfold WS
  simp only [evS]
  exact h
theorem forL_ws {st : D → Ro → Option Ro} {body : Ro → SR} {B : Ro → Prop} (I : Nat → Ro → Prop) : ∀ {xs : List D} {k : Nat} {ρ : Ro}, (∀ i x ρ, xs[i]? = some x → I (k + i) ρ → ∃ ρ1, st x ρ = some ρ1 ∧ lq (I (k + i + 1)) B Q (body ρ1)) → (∀ ρ, I (k + xs.length) ρ → Q (.nx ρ)) → (∀ ρ, B ρ → Q (.nx ρ)) → I k ρ → Q (forL st body xs ρ)
  | [], k, ρ, _, h1, _, h0 => h1 ρ h0
  | x :: xs, k, ρ, h, h1, hB, h0 => by
    obtain ⟨ρ1, e1, h3⟩ := h 0 x ρ rfl h0
    unfold forL
    rw [e1]
    simp only
    have go : ∀ ρ2, I (k + 1) ρ2 → Q (forL st body xs ρ2) := fun ρ2 h2 => forL_ws I (xs := xs) (k := k + 1) (ρ := ρ2) (fun i y σ hy hi => by
      have := h (i + 1) y σ (by simpa using hy) (by rw [show k + (i + 1) = k + 1 + i by omega]; exact hi)
      rwa [show k + (i + 1) + 1 = k + 1 + i + 1 by omega] at this) (fun σ hσ => h1 σ (by rw [List.length_cons, show k + (xs.length + 1) = k + 1 + xs.length by omega]; exact hσ)) hB h2
    cases hr : body ρ1 <;> rw [hr] at h3
    case nx ρ2 => exact go ρ2 h3
    case ct ρ2 => exact go ρ2 h3
    case bk ρ2 => exact hB _ h3
    all_goals exact h3
/-- a for, by what holds ahead of each turn -/
theorem ws_fr {kind : Nat} {its : List CE} {tg : List Nat} {one : Bool} {body : List CS} (I : Nat → Ro → Prop)
    (h : WE (evA cal b0 its ρ) fun ds ρ1 => ∃ xs, itemsD kind ds = some xs ∧ I 0 ρ1 ∧ (∀ k x ρ, xs[k]? = some x → I k ρ → ∃ ρ2, setTg b0 tg one x ρ = some ρ2 ∧ WS (evB cal b0 body ρ2) (lq (I (k + 1)) (fun ρ' => WS (evB cal b0 ss ρ') Q) Q)) ∧ ∀ ρ, I xs.length ρ → WS (evB cal b0 ss ρ) Q) : WS (evB cal b0 (.fr kind its tg one body :: ss) ρ) Q := by
  obtain ⟨ds, ρ1, e1, xs, e2, h0, h1, h2⟩ := h.get
  refine ws_seq ?_
  unfold WS
  rw [evS_fr e1 e2]
  refine forL_ws (Q := sq _ Q) (B := fun ρ' => WS (evB cal b0 ss ρ') Q) I (fun i x σ hx hI => ?_) (fun σ hσ => ?_) (fun σ hσ => hσ) h0
  · rw [Nat.zero_add] at hI ⊢
    obtain ⟨ρ2, e3, h3⟩ := h1 i x σ hx hI
    refine ⟨ρ2, e3, ?_⟩
    unfold WS at h3
    cases hr : evB cal b0 body ρ2 <;> rw [hr] at h3 <;> exact h3
  · rw [Nat.zero_add] at hσ
    exact h2 σ hσ
theorem whL_ws {tst : Ro → Rs Bool} {body : Ro → SR} {B : Ro → Prop} (I : Nat → Ro → Prop) (h : ∀ m ρ, I m ρ → WE (tst ρ) fun b ρ1 => (b = true → ∃ m', m = m' + 1 ∧ lq (I m') B Q (body ρ1)) ∧ (b = false → B ρ1)) (hB : ∀ ρ, B ρ → Q (.nx ρ)) : ∀ (n m : Nat) (ρ : Ro), m < n → I m ρ → Q (whL tst body n ρ)
  | 0, m, ρ, hm, _ => by omega
  | n + 1, m, ρ, hm, h0 => by
    unfold whL
    refine st_ws (Q := Q) ((h m ρ h0).mono fun b ρ1 h3 => ?_)
    cases b with
    | true =>
      rw [if_pos rfl]
      obtain ⟨m', rfl, h4⟩ := h3.1 rfl
      clear h3
      cases hr : body ρ1 <;> rw [hr] at h4
      case nx ρ2 => exact whL_ws I h hB n m' ρ2 (by omega) h4
      case ct ρ2 => exact whL_ws I h hB n m' ρ2 (by omega) h4
      case bk ρ2 => exact hB _ h4
      all_goals exact h4
    | false =>
      rw [if_neg Bool.false_ne_true]
      exact hB _ (h3.2 rfl)
/-- a while: at most m turns are left -/
theorem ws_wh {c : CE} {body : List CS} (m : Nat) (hm : m < 100000) (I : Nat → Ro → Prop) (h0 : I m ρ)
    (h : ∀ m ρ, I m ρ → WE (ev cal b0 c ρ) fun x ρ1 => ∃ k, truD x = some k ∧ (k = true → ∃ m', m = m' + 1 ∧ WS (evB cal b0 body ρ1) (lq (I m') (fun ρ' => WS (evB cal b0 ss ρ') Q) Q)) ∧ (k = false → WS (evB cal b0 ss ρ1) Q)) : WS (evB cal b0 (.wh c body :: ss) ρ) Q := by
  refine ws_seq ?_
  unfold WS
  simp only [evS]
  refine whL_ws (Q := sq _ Q) (B := fun ρ' => WS (evB cal b0 ss ρ') Q) I (fun m ρ hI => evT_we ((h m ρ hI).mono fun x ρ1 h => ?_)) (fun ρ hρ => hρ) 100000 m ρ hm h0
  obtain ⟨k, e, h1, h2⟩ := h
  refine ⟨k, e, fun z => ?_, h2⟩
  obtain ⟨m', rfl, h3⟩ := h1 z
  refine ⟨m', rfl, ?_⟩
  unfold WS at h3
  cases hr : evB cal b0 body ρ1 <;> rw [hr] at h3 <;> exact h3
end
section
variable {tbl : List (Str × De)} {x : Str} {nN nps n : Nat} {c : List CS} {ds : List D} {d : D} {P : CR → Prop}
theorem wc_run (h : Lk tbl x nN nps false c) (hl : ds.length = nps) (q : WS (evB (calN tbl n) false c (oldR ds ++ nons (nN - ds.length))) fun r => P (outR r)) : P (calN tbl (n + 1) x ds) := by
  rw [lk_run h hl]; exact q
theorem wc_runL (h : Lk tbl x nN nps true c) (hl : ds.length + 1 = nps) (q : WS (evB (calN tbl n) true c (some (d, true) :: (oldR ds ++ nons (nN - (ds.length + 1))))) fun r => P (outL r)) : P (calN tbl (n + 1) x (d :: ds)) := by
  rw [lk_runL h hl]; exact q
end
/-! operators on ints -/
section
variable {Q : D → Prop} {R : Bool → Prop} {i j : Int}
theorem ex_add (q : Q (.int (i + j))) : ∃ d, opD .Add (.int i) (.int j) = some d ∧ Q d := ⟨_, rfl, q⟩
theorem ex_sub (q : Q (.int (i - j))) : ∃ d, opD .Sub (.int i) (.int j) = some d ∧ Q d := ⟨_, rfl, q⟩
theorem ex_mul (h : (smG i || smG j || (bigG i && bigG j)) = true) (q : Q (.int (i * j))) : ∃ d, opD .Mult (.int i) (.int j) = some d ∧ Q d := ⟨_, by rw [o_mul, if_pos h], q⟩
theorem ex_mod (h : 0 < j) (q : Q (.int (i % j))) : ∃ d, opD .Mod (.int i) (.int j) = some d ∧ Q d := ⟨_, opD_mod h, q⟩
theorem ex_fdiv (h : 0 < j) (h2 : bigG j = true) (q : Q (.int (i / j))) : ∃ d, opD .FloorDiv (.int i) (.int j) = some d ∧ Q d := ⟨_, opD_fdiv h (of_decide_eq_true h2), q⟩
theorem ex_pow {n : Nat} (hn : n ≤ 100) (h : bigG i = true) (q : Q (.int (i ^ n))) : ∃ d, opD .Pow (.int i) (.int n) = some d ∧ Q d := ⟨_, opD_pow hn (of_decide_eq_true h), q⟩
theorem ex_lt (q : R (decide (i < j))) : ∃ d, cmpD .Lt (.int i) (.int j) = some d ∧ R d := ⟨_, rfl, q⟩
theorem ex_le (q : R (decide (i ≤ j))) : ∃ d, cmpD .LtE (.int i) (.int j) = some d ∧ R d := ⟨_, rfl, q⟩
theorem ex_gt (q : R (decide (j < i))) : ∃ d, cmpD .Gt (.int i) (.int j) = some d ∧ R d := ⟨_, rfl, q⟩
theorem ex_ge (q : R (decide (j ≤ i))) : ∃ d, cmpD .GtE (.int i) (.int j) = some d ∧ R d := ⟨_, rfl, q⟩
theorem ex_eq (q : R (decide (i = j))) : ∃ d, cmpD .Eq (.int i) (.int j) = some d ∧ R d := ⟨_, c_eq i j, q⟩
theorem ex_ne (q : R (!decide (i = j))) : ∃ d, cmpD .NotEq (.int i) (.int j) = some d ∧ R d := ⟨_, c_ne i j, q⟩
theorem c_eqS (u v : Str) : cmpD .Eq (.str u) (.str v) = some (decide (u = v)) := by
  show eqD (.str u) (.str v) = _
  unfold eqD
  rw [if_pos (by rfl)]
  simp only [PyData.eqv]
  congr 1
theorem ex_eqS {u v : Str} (q : R (decide (u = v))) : ∃ d, cmpD .Eq (.str u) (.str v) = some d ∧ R d := ⟨_, c_eqS u v, q⟩
theorem ex_neS {u v : Str} (q : R (!decide (u = v))) : ∃ d, cmpD .NotEq (.str u) (.str v) = some d ∧ R d := ⟨_, by
  show (cmpD .Eq (.str u) (.str v)).map (!·) = _
  rw [c_eqS]; rfl, q⟩
theorem ex_repr {d : D} (h1 : d.showable = true) (h2 : d.hasDict = false) (h3 : d.depth ≤ 50) (h4 : wD d ≤ 100000) (q : Q (.str d.shown)) : ∃ e, bltD .repr [d] = some e ∧ Q e := ⟨_, repr_ok h1 h2 h3 h4, q⟩
theorem ex_reprI (h : Bd 1900 i) (q : Q (.str (PyData.int i).shown)) : ∃ e, bltD .repr [.int i] = some e ∧ Q e := ⟨_, repr_int h, q⟩
theorem ex_reprB {b : Bool} (q : Q (.str (PyData.bool b).shown)) : ∃ e, bltD .repr [.bool b] = some e ∧ Q e := ⟨_, repr_bool b, q⟩
theorem ex_augA {Q : D → Prop} (q : Q (.int (i + j))) : ∃ d, augD .Add (.int i) (.int j) = some d ∧ Q d := ⟨_, rfl, q⟩
theorem ex_augS {Q : D → Prop} (q : Q (.int (i - j))) : ∃ d, augD .Sub (.int i) (.int j) = some d ∧ Q d := ⟨_, rfl, q⟩
theorem ex_idx {xs : List D} (P : D → Prop) (h0 : 0 ≤ i) (h1 : i < (xs.length : Int)) (hP : ∀ x ∈ xs, P x) (q : ∀ x, P x → Q x) : ∃ d, idxD (.list xs) (.int i) = some d ∧ Q d := by
  obtain ⟨x, hx, e⟩ := idx_mem h0 h1
  exact ⟨x, e, q x (hP x hx)⟩
theorem Bd.lit {k : Nat} {i : Int} (h : decide (i.natAbs < 2 ^ k) = true) : Bd k i := of_decide_eq_true h
theorem Bd.ltr {k : Nat} {r m : Int} (h : Bd k m) (h0 : 0 ≤ r) (h1 : r < m) : Bd k r := h.between h0 (by omega)
theorem mulS1 (h : smG i = true) : (smG i || smG j || (bigG i && bigG j)) = true := by rw [h]; rfl
theorem mulS2 (h : smG j = true) : (smG i || smG j || (bigG i && bigG j)) = true := by rw [h]; simp
theorem mulB {k m : Nat} (h : Bd k i) (g : Bd m j) (hk : k ≤ 4096) (hm : m ≤ 4096) : (smG i || smG j || (bigG i && bigG j)) = true := big2 (h.big hk) (g.big hm)
theorem dec_pos {p : Prop} [Decidable p] (h : p) {A B : Prop} (a : A) : (decide p = true → A) ∧ (decide p = false → B) := ⟨fun _ => a, fun z => absurd h (of_decide_eq_false z)⟩
theorem dec_neg {p : Prop} [Decidable p] (h : ¬ p) {A B : Prop} (b : B) : (decide p = true → A) ∧ (decide p = false → B) := ⟨fun z => absurd (of_decide_eq_true z) h, fun _ => b⟩
theorem dec_both {p : Prop} [Decidable p] {A B : Prop} (a : p → A) (b : ¬ p → B) : (decide p = true → A) ∧ (decide p = false → B) := ⟨fun z => a (of_decide_eq_true z), fun z => b (of_decide_eq_false z)⟩
theorem ndec_pos {p : Prop} [Decidable p] (h : p) {A B : Prop} (b : B) : ((!decide p) = true → A) ∧ ((!decide p) = false → B) := ⟨fun z => by simp [h] at z, fun _ => b⟩
theorem ndec_neg {p : Prop} [Decidable p] (h : ¬ p) {A B : Prop} (a : A) : ((!decide p) = true → A) ∧ ((!decide p) = false → B) := ⟨fun _ => a, fun z => by simp [h] at z⟩
theorem ndec_both {p : Prop} [Decidable p] {A B : Prop} (a : ¬ p → A) (b : p → B) : ((!decide p) = true → A) ∧ ((!decide p) = false → B) := ⟨fun z => a (by simpa using z), fun z => b (by simpa using z)⟩
theorem tf_pos {A B : Prop} (a : A) : (true = true → A) ∧ (true = false → B) := ⟨fun _ => a, fun z => nomatch z⟩
theorem tf_neg {A B : Prop} (b : B) : (false = true → A) ∧ (false = false → B) := ⟨fun z => (nomatch z), fun _ => b⟩
end
end Ev
namespace Ev
open PySem PySem.Spec PyProof.Rows L2
section
variable {cal : Cal} {b0 : Bool} {ρ ρ' : Ro} {i : Nat} {v : Option (D × Bool)}
theorem wn_s {ss : List CS} {Q : SR → Prop} (e : List.set ρ i v = ρ') (h : WS (evB cal b0 ss ρ') Q) : WS (evB cal b0 ss (List.set ρ i v)) Q := by rw [e]; exact h
theorem wn_e {c : CE} {Q : D → Ro → Prop} (e : List.set ρ i v = ρ') (h : WE (ev cal b0 c ρ') Q) : WE (ev cal b0 c (List.set ρ i v)) Q := by rw [e]; exact h
theorem wn_a {c : List CE} {Q : List D → Ro → Prop} (e : List.set ρ i v = ρ') (h : WE (evA cal b0 c ρ') Q) : WE (evA cal b0 c (List.set ρ i v)) Q := by rw [e]; exact h
theorem wn_p {c : List (Bool × CE)} {Q : List (D × Bool) → Ro → Prop} (e : List.set ρ i v = ρ') (h : WE (evPa cal b0 c ρ') Q) : WE (evPa cal b0 c (List.set ρ i v)) Q := by rw [e]; exact h
theorem wn_o {c : CE} {Q : List D → Ro → Prop} (e : List.set ρ i v = ρ') (h : WE (evOwn cal b0 c ρ') Q) : WE (evOwn cal b0 c (List.set ρ i v)) Q := by rw [e]; exact h
theorem set_z {x : Option (D × Bool)} {xs : Ro} : List.set (x :: xs) 0 v = v :: xs := rfl
theorem set_s {x : Option (D × Bool)} {xs : Ro} {n : Nat} {ys : Ro} (h : List.set xs n v = ys) : List.set (x :: xs) (n + 1) v = x :: ys := by rw [List.set_cons_succ, h]
theorem xp1 {a : D} {P : List D → Prop} (q : P [a]) : ∃ es, permD [0] [a] = some es ∧ P es := ⟨_, rfl, q⟩
theorem xp0 {P : List D → Prop} (q : P []) : ∃ es, permD [] [] = some es ∧ P es := ⟨_, rfl, q⟩
theorem xp2 {a b : D} {P : List D → Prop} (q : P [a, b]) : ∃ es, permD [0, 1] [a, b] = some es ∧ P es := ⟨_, rfl, q⟩
theorem xp21 {a b : D} {P : List D → Prop} (q : P [b, a]) : ∃ es, permD [1, 0] [a, b] = some es ∧ P es := ⟨_, rfl, q⟩
theorem xp3 {a b c : D} {P : List D → Prop} (q : P [a, b, c]) : ∃ es, permD [0, 1, 2] [a, b, c] = some es ∧ P es := ⟨_, rfl, q⟩
theorem xp321 {a b c : D} {P : List D → Prop} (q : P [c, b, a]) : ∃ es, permD [2, 1, 0] [a, b, c] = some es ∧ P es := ⟨_, rfl, q⟩
theorem xp4 {a b c d : D} {P : List D → Prop} (q : P [a, b, c, d]) : ∃ es, permD [0, 1, 2, 3] [a, b, c, d] = some es ∧ P es := ⟨_, rfl, q⟩
theorem xp4321 {a b c d : D} {P : List D → Prop} (q : P [d, c, b, a]) : ∃ es, permD [3, 2, 1, 0] [a, b, c, d] = some es ∧ P es := ⟨_, rfl, q⟩
theorem xp5 {a b c d e : D} {P : List D → Prop} (q : P [a, b, c, d, e]) : ∃ es, permD [0, 1, 2, 3, 4] [a, b, c, d, e] = some es ∧ P es := ⟨_, rfl, q⟩
theorem xp54321 {a b c d e : D} {P : List D → Prop} (q : P [e, d, c, b, a]) : ∃ es, permD [4, 3, 2, 1, 0] [a, b, c, d, e] = some es ∧ P es := ⟨_, rfl, q⟩
theorem xp6 {a b c d e f : D} {P : List D → Prop} (q : P [a, b, c, d, e, f]) : ∃ es, permD [0, 1, 2, 3, 4, 5] [a, b, c, d, e, f] = some es ∧ P es := ⟨_, rfl, q⟩
end
end Ev
namespace Ev
set_option exponentiation.threshold 5000
open PySem PySem.Spec PyProof.Rows L2
section
variable {Q : D → Prop} {i : Int}
theorem xt2 (q : Q (.int 100)) : ∃ d, opD .Pow (.int 10) (.int 2) = some d ∧ Q d := ⟨_, opD_pow (n := 2) (by decide) (by decide +kernel), q⟩
theorem xt3 (q : Q (.int 1000)) : ∃ d, opD .Pow (.int 10) (.int 3) = some d ∧ Q d := ⟨_, opD_pow (n := 3) (by decide) (by decide +kernel), q⟩
theorem xt4 (q : Q (.int 10000)) : ∃ d, opD .Pow (.int 10) (.int 4) = some d ∧ Q d := ⟨_, opD_pow (n := 4) (by decide) (by decide +kernel), q⟩
theorem xt5 (q : Q (.int 100000)) : ∃ d, opD .Pow (.int 10) (.int 5) = some d ∧ Q d := ⟨_, opD_pow (n := 5) (by decide) (by decide +kernel), q⟩
theorem xt6 (q : Q (.int 1000000)) : ∃ d, opD .Pow (.int 10) (.int 6) = some d ∧ Q d := ⟨_, opD_pow (n := 6) (by decide) (by decide +kernel), q⟩
theorem xt7 (q : Q (.int 10000000)) : ∃ d, opD .Pow (.int 10) (.int 7) = some d ∧ Q d := ⟨_, opD_pow (n := 7) (by decide) (by decide +kernel), q⟩
theorem xt8 (q : Q (.int 100000000)) : ∃ d, opD .Pow (.int 10) (.int 8) = some d ∧ Q d := ⟨_, opD_pow (n := 8) (by decide) (by decide +kernel), q⟩
theorem xt9 (q : Q (.int 1000000000)) : ∃ d, opD .Pow (.int 10) (.int 9) = some d ∧ Q d := ⟨_, opD_pow (n := 9) (by decide) (by decide +kernel), q⟩
theorem xt10 (q : Q (.int 10000000000)) : ∃ d, opD .Pow (.int 10) (.int 10) = some d ∧ Q d := ⟨_, opD_pow (n := 10) (by decide) (by decide +kernel), q⟩
theorem xt12 (q : Q (.int 1000000000000)) : ∃ d, opD .Pow (.int 10) (.int 12) = some d ∧ Q d := ⟨_, opD_pow (n := 12) (by decide) (by decide +kernel), q⟩
theorem xt16 (q : Q (.int 10000000000000000)) : ∃ d, opD .Pow (.int 10) (.int 16) = some d ∧ Q d := ⟨_, opD_pow (n := 16) (by decide) (by decide +kernel), q⟩
theorem xt17 (q : Q (.int 100000000000000000)) : ∃ d, opD .Pow (.int 10) (.int 17) = some d ∧ Q d := ⟨_, opD_pow (n := 17) (by decide) (by decide +kernel), q⟩
theorem xt18 (q : Q (.int 1000000000000000000)) : ∃ d, opD .Pow (.int 10) (.int 18) = some d ∧ Q d := ⟨_, opD_pow (n := 18) (by decide) (by decide +kernel), q⟩
theorem xt19 (q : Q (.int 10000000000000000000)) : ∃ d, opD .Pow (.int 10) (.int 19) = some d ∧ Q d := ⟨_, opD_pow (n := 19) (by decide) (by decide +kernel), q⟩
theorem xt20 (q : Q (.int 100000000000000000000)) : ∃ d, opD .Pow (.int 10) (.int 20) = some d ∧ Q d := ⟨_, opD_pow (n := 20) (by decide) (by decide +kernel), q⟩
theorem xt21 (q : Q (.int 1000000000000000000000)) : ∃ d, opD .Pow (.int 10) (.int 21) = some d ∧ Q d := ⟨_, opD_pow (n := 21) (by decide) (by decide +kernel), q⟩
theorem xt22 (q : Q (.int 10000000000000000000000)) : ∃ d, opD .Pow (.int 10) (.int 22) = some d ∧ Q d := ⟨_, opD_pow (n := 22) (by decide) (by decide +kernel), q⟩
theorem xt23 (q : Q (.int 100000000000000000000000)) : ∃ d, opD .Pow (.int 10) (.int 23) = some d ∧ Q d := ⟨_, opD_pow (n := 23) (by decide) (by decide +kernel), q⟩
theorem xt24 (q : Q (.int 1000000000000000000000000)) : ∃ d, opD .Pow (.int 10) (.int 24) = some d ∧ Q d := ⟨_, opD_pow (n := 24) (by decide) (by decide +kernel), q⟩
theorem xt25 (q : Q (.int 10000000000000000000000000)) : ∃ d, opD .Pow (.int 10) (.int 25) = some d ∧ Q d := ⟨_, opD_pow (n := 25) (by decide) (by decide +kernel), q⟩
theorem xt26 (q : Q (.int 100000000000000000000000000)) : ∃ d, opD .Pow (.int 10) (.int 26) = some d ∧ Q d := ⟨_, opD_pow (n := 26) (by decide) (by decide +kernel), q⟩
theorem xt27 (q : Q (.int 1000000000000000000000000000)) : ∃ d, opD .Pow (.int 10) (.int 27) = some d ∧ Q d := ⟨_, opD_pow (n := 27) (by decide) (by decide +kernel), q⟩
theorem xt28 (q : Q (.int 10000000000000000000000000000)) : ∃ d, opD .Pow (.int 10) (.int 28) = some d ∧ Q d := ⟨_, opD_pow (n := 28) (by decide) (by decide +kernel), q⟩
theorem xt29 (q : Q (.int 100000000000000000000000000000)) : ∃ d, opD .Pow (.int 10) (.int 29) = some d ∧ Q d := ⟨_, opD_pow (n := 29) (by decide) (by decide +kernel), q⟩
theorem xt30 (q : Q (.int 1000000000000000000000000000000)) : ∃ d, opD .Pow (.int 10) (.int 30) = some d ∧ Q d := ⟨_, opD_pow (n := 30) (by decide) (by decide +kernel), q⟩
theorem xt38 (q : Q (.int 100000000000000000000000000000000000000)) : ∃ d, opD .Pow (.int 10) (.int 38) = some d ∧ Q d := ⟨_, opD_pow (n := 38) (by decide) (by decide +kernel), q⟩
theorem xt41 (q : Q (.int 100000000000000000000000000000000000000000)) : ∃ d, opD .Pow (.int 10) (.int 41) = some d ∧ Q d := ⟨_, opD_pow (n := 41) (by decide) (by decide +kernel), q⟩
theorem xt44 (q : Q (.int 100000000000000000000000000000000000000000000)) : ∃ d, opD .Pow (.int 10) (.int 44) = some d ∧ Q d := ⟨_, opD_pow (n := 44) (by decide) (by decide +kernel), q⟩
theorem xt46 (q : Q (.int 10000000000000000000000000000000000000000000000)) : ∃ d, opD .Pow (.int 10) (.int 46) = some d ∧ Q d := ⟨_, opD_pow (n := 46) (by decide) (by decide +kernel), q⟩
theorem xt50 (q : Q (.int 100000000000000000000000000000000000000000000000000)) : ∃ d, opD .Pow (.int 10) (.int 50) = some d ∧ Q d := ⟨_, opD_pow (n := 50) (by decide) (by decide +kernel), q⟩
theorem xt60 (q : Q (.int 1000000000000000000000000000000000000000000000000000000000000)) : ∃ d, opD .Pow (.int 10) (.int 60) = some d ∧ Q d := ⟨_, opD_pow (n := 60) (by decide) (by decide +kernel), q⟩
theorem xq2 (h : bigG i = true) (q : Q (.int (i ^ 2))) : ∃ d, opD .Pow (.int i) (.int 2) = some d ∧ Q d := ⟨_, opD_pow (n := 2) (by decide) (of_decide_eq_true h), q⟩
theorem xq3 (h : bigG i = true) (q : Q (.int (i ^ 3))) : ∃ d, opD .Pow (.int i) (.int 3) = some d ∧ Q d := ⟨_, opD_pow (n := 3) (by decide) (of_decide_eq_true h), q⟩
theorem Bd.pow3 {k : Nat} (h : Bd k i) : Bd (k + k + k) (i ^ 3) := by
  have e : i ^ 3 = i * i * i := by rw [show (3 : Nat) = 0 + 1 + 1 + 1 from rfl, Int.pow_succ, Int.pow_succ, Int.pow_succ, Int.pow_zero, Int.one_mul]
  rw [e]
  exact (h.mul h).mul h
theorem Bd.pow2 {k : Nat} (h : Bd k i) : Bd (k + k) (i ^ 2) := by
  have e : i ^ 2 = i * i := by rw [show (2 : Nat) = 0 + 1 + 1 from rfl, Int.pow_succ, Int.pow_succ, Int.pow_zero, Int.one_mul]
  rw [e]
  exact h.mul h
theorem Bd.modP {k : Nat} {j : Int} (h : Bd k j) (hj : 0 < j) : Bd k (i % j) := h.ltr (Int.emod_nonneg i (by omega)) (Int.emod_lt_of_pos i hj)
end
end Ev
namespace Ev
open PySem PySem.Spec PyProof.Rows L2
section
theorem xo_at {ρ : Ro} {i : Nat} {d : D} {P : D → Prop} (h : ρ[i]? = some (some (d, true))) (q : P d) : ∃ d, ρ[i]? = some (some (d, true)) ∧ P d := ⟨d, h, q⟩
theorem xo_atL {ρ : Ro} {i : Nat} {d : List D} {P : List D → Prop} (h : ρ[i]? = some (some (.list d, true))) (q : P d) : ∃ d, ρ[i]? = some (some (.list d, true)) ∧ P d := ⟨d, h, q⟩
theorem xo_ix {x y d : D} {P : D → Prop} (h : idxD x y = some d) (q : P d) : ∃ e, idxD x y = some e ∧ P e := ⟨d, h, q⟩
theorem xo_tru {b : Bool} {P : Bool → Prop} (q : P b) : ∃ k, truD (.bool b) = some k ∧ P k := ⟨b, rfl, q⟩
theorem xo_bool {b : Bool} {P : Bool → Prop} (q : P b) : ∃ k, PyData.bool b = PyData.bool k ∧ P k := ⟨b, rfl, q⟩
theorem xo_int {b : Int} {P : Int → Prop} (q : P b) : ∃ k, PyData.int b = PyData.int k ∧ P k := ⟨b, rfl, q⟩
theorem xo_tg {b0 : Bool} {is : List Nat} {one : Bool} {d : D} {ρ ρ' : Ro} {P : Ro → Prop} (h : setTg b0 is one d ρ = some ρ') (q : P ρ') : ∃ ρ2, setTg b0 is one d ρ = some ρ2 ∧ P ρ2 := ⟨ρ', h, q⟩
theorem xo_pa {b0 : Bool} {is : List Nat} {ds : List (D × Bool)} {ρ ρ' : Ro} {P : Ro → Prop} (h : setPa b0 is ds ρ = some ρ') (q : P ρ') : ∃ ρ2, setPa b0 is ds ρ = some ρ2 ∧ P ρ2 := ⟨ρ', h, q⟩
theorem xo_sub {ρ : Ro} {i m : Nat} {ds : List D} {j : Int} {P : List D → Nat → Prop} (h : ρ[i]? = some (some (.list ds, true))) (h2 : ixN ds.length j = some m) (q : P ds m) : ∃ ds j' m, ρ[i]? = some (some (.list ds, true)) ∧ PyData.int j = .int j' ∧ ixN ds.length j' = some m ∧ P ds m := ⟨ds, j, m, h, rfl, h2, q⟩
theorem xo_sub0 {ρ : Ro} {i : Nat} {ds : List D} {P : List D → Nat → Prop} (h : ρ[i]? = some (some (.list ds, true))) (h2 : 0 < ds.length) (q : P ds 0) : ∃ ds j' m, ρ[i]? = some (some (.list ds, true)) ∧ PyData.int 0 = .int j' ∧ ixN ds.length j' = some m ∧ P ds m := ⟨ds, 0, 0, h, rfl, by unfold ixN; rw [if_pos (by omega), if_pos (by omega)]; rfl, q⟩
theorem xo_sub1 {ρ : Ro} {i : Nat} {ds : List D} {P : List D → Nat → Prop} (h : ρ[i]? = some (some (.list ds, true))) (h2 : 1 < ds.length) (q : P ds 1) : ∃ ds j' m, ρ[i]? = some (some (.list ds, true)) ∧ PyData.int 1 = .int j' ∧ ixN ds.length j' = some m ∧ P ds m := ⟨ds, 1, 1, h, rfl, by unfold ixN; rw [if_pos (by omega), if_pos (by omega)]; rfl, q⟩
theorem xo_sub2 {ρ : Ro} {i : Nat} {ds : List D} {P : List D → Nat → Prop} (h : ρ[i]? = some (some (.list ds, true))) (h2 : 2 < ds.length) (q : P ds 2) : ∃ ds j' m, ρ[i]? = some (some (.list ds, true)) ∧ PyData.int 2 = .int j' ∧ ixN ds.length j' = some m ∧ P ds m := ⟨ds, 2, 2, h, rfl, by unfold ixN; rw [if_pos (by omega), if_pos (by omega)]; rfl, q⟩
theorem xo_app {ρ : Ro} {i : Nat} {ds : List D} {P : List D → Prop} (h : ρ[i]? = some (some (.list ds, true))) (h2 : ds.length < 100000) (q : P ds) : ∃ ds, ρ[i]? = some (some (.list ds, true)) ∧ ds.length < 100000 ∧ P ds := ⟨ds, h, h2, q⟩
theorem xo_its {k : Nat} {ds xs : List D} {P : List D → Prop} (h : itemsD k ds = some xs) (q : P xs) : ∃ xs, itemsD k ds = some xs ∧ P xs := ⟨xs, h, q⟩
section
variable {P : D → Prop} {i j : Int}
theorem xb_int (q : P (.int i)) : ∃ d, bltD .int [.int i] = some d ∧ P d := ⟨_, rfl, q⟩
theorem xb_max (q : P (.int (if j > i then j else i))) : ∃ d, bltD .max [.int i, .int j] = some d ∧ P d := ⟨_, rfl, q⟩
theorem xb_min (q : P (.int (if j < i then j else i))) : ∃ d, bltD .min [.int i, .int j] = some d ∧ P d := ⟨_, rfl, q⟩
theorem xb_abs (q : P (.int (if i < 0 then -i else i))) : ∃ d, bltD .abs [.int i] = some d ∧ P d := ⟨_, rfl, q⟩
theorem xb_len {xs : List D} (q : P (.int xs.length)) : ∃ d, bltD .len [.list xs] = some d ∧ P d := ⟨_, rfl, q⟩
theorem xb_lenT {xs : List D} (q : P (.int xs.length)) : ∃ d, bltD .len [.tuple xs] = some d ∧ P d := ⟨_, rfl, q⟩
theorem xb_divmod (h : 0 < j) (h2 : bigG j = true) (q : P (.tuple [.int (i / j), .int (i % j)])) : ∃ d, bltD .divmod [.int i, .int j] = some d ∧ P d := ⟨_, divmod_val h h2, q⟩
theorem xn_neg (q : P (.int (-i))) : ∃ d, negD (.int i) = some d ∧ P d := ⟨_, rfl, q⟩
end
theorem xl {ds : List D} {P : Prop} (h : ds.length ≤ 100000) (q : P) : ds.length ≤ 100000 ∧ P := ⟨h, q⟩
theorem ex_cat {xs ys : List D} {Q : D → Prop} (h : xs.length + ys.length ≤ 100000) (q : Q (.list (xs ++ ys))) : ∃ d, opD .Add (.list xs) (.list ys) = some d ∧ Q d := ⟨_, if_pos h, q⟩
theorem xi_int {i : Int} {P : Bool → Prop} (q : P true) : ∃ b, isiD (.int i) "int" = some b ∧ P b := ⟨true, by kernel_rfl, q⟩
theorem xi_bool {i : Int} {P : Bool → Prop} (q : P false) : ∃ b, isiD (.int i) "bool" = some b ∧ P b := ⟨false, by kernel_rfl, q⟩
theorem xl' {ds : List D} {P : Prop} (h : ds.length < 100000) (q : P) : ds.length < 100000 ∧ P := ⟨h, q⟩
theorem x_rr {ρ : Ro} {P : Prop} (q : P) : ρ = ρ ∧ P := ⟨rfl, q⟩
end
end Ev
namespace Ev
open PySem PySem.Spec PyProof.Rows L2
theorem nt_pos {A B : Prop} (b : B) : ((!true) = true → A) ∧ ((!true) = false → B) := ⟨fun z => (nomatch z), fun _ => b⟩
theorem nt_neg {A B : Prop} (a : A) : ((!false) = true → A) ∧ ((!false) = false → B) := ⟨fun _ => a, fun z => (nomatch z)⟩
theorem idx_ns {ns : List Int} {p : Nat} {Q : D → Prop} (h : (p : Int) < (ns.length : Int)) (q : ∀ c : Int, Q (.int c)) : ∃ e, idxD (.list (ns.map PyData.int)) (.int (p : Nat)) = some e ∧ Q e := by
  have hp : p < ns.length := by omega
  exact ⟨.int ns[p], idx_get' (by rw [List.getElem?_map, List.getElem?_eq_getElem hp]; rfl), q _⟩
theorem rng_at' {b : Int} {k : Nat} {x : D} (h : (rngL 0 b)[k]? = some x) : x = .int (k : Nat) ∧ (k : Int) < b := by
  unfold rngL at h
  rw [List.getElem?_map] at h
  cases q : (List.range (b - 0).toNat)[k]? with
  | none => rw [q] at h; cases h
  | some j =>
    rw [q] at h
    obtain ⟨h1, h2⟩ := List.getElem?_eq_some_iff.mp q
    rw [List.getElem_range] at h2
    subst h2
    rw [List.length_range] at h1
    cases h
    exact ⟨by simp, by omega⟩
end Ev


set_option Elab.async false
set_option linter.all false
set_option maxRecDepth 100000
set_option maxHeartbeats 4000000
namespace Ev
set_option exponentiation.threshold 5000
open PySem PySem.Spec PyProof.Rows L2
/-! ## data that can be written out and compared: w its width, k its depth -/
structure Rq (d : D) (w k : Nat) : Prop where
  lay : d.canLay0 = true
  sh : d.showable = true
  nd : d.hasDict = false
  dp : d.depth ≤ k
  wd : wD d ≤ w
theorem Rq.up {d : D} {w k w' k' : Nat} (h : Rq d w k) (hw : w ≤ w') (hk : k ≤ k') : Rq d w' k' := ⟨h.lay, h.sh, h.nd, Nat.le_trans h.dp hk, Nat.le_trans h.wd hw⟩
theorem rq_non : Rq .none 4 0 := ⟨rfl, rfl, rfl, by simp [PyData.depth], by simp [wD]⟩
theorem rq_bool (b : Bool) : Rq (.bool b) 5 0 := ⟨rfl, rfl, rfl, by simp [PyData.depth], by simp [wD]⟩
theorem rq_int {i : Int} {n : Nat} (h : Bd n i) (hn : n ≤ 1900) : Rq (.int i) (n + 3) 0 := by
  by_cases h0 : 0 < n
  · have := log_lt h0 h
    exact ⟨rfl, by simp [PyData.showable]; omega, rfl, by simp [PyData.depth], by simp [wD]; omega⟩
  · obtain rfl : n = 0 := by omega
    have : i = 0 := by unfold Bd at h; omega
    subst this
    exact ⟨rfl, by decide, rfl, by simp [PyData.depth], by simp only [wD]; decide⟩
theorem rq_strL {x : Str} {n : Nat} (h0 : PyData.canLay0 (.str x) = true) (h : (reprText x).length ≤ n) : Rq (.str x) n 0 := ⟨h0, rfl, rfl, by simp [PyData.depth], by simpa [wD] using h⟩
theorem rq_all {w k : Nat} : ∀ {xs : List D}, (∀ x ∈ xs, Rq x w k) → PyData.canLayAll0 xs = true ∧ PyData.showableAll xs = true ∧ PyData.hasDictAll xs = false ∧ PyData.depthAll xs ≤ k ∧ wDs xs ≤ (w + 2) * xs.length
  | [], _ => ⟨rfl, rfl, rfl, by simp [PyData.depthAll], by simp [wDs]⟩
  | x :: xs, h => by
    obtain ⟨a1, a2, a3, a4, a5⟩ := rq_all (xs := xs) fun y hy => h y (List.mem_cons_of_mem _ hy)
    obtain ⟨b1, b2, b3, b4, b5⟩ := h x List.mem_cons_self
    refine ⟨by simp [PyData.canLayAll0, a1, b1], by simp [PyData.showableAll, a2, b2], by simp [PyData.hasDictAll, a3, b3], by simp only [PyData.depthAll]; omega, ?_⟩
    rw [List.length_cons, Nat.mul_succ]
    simp only [wDs]
    omega
theorem rq_list {w k m : Nat} {xs : List D} (h : ∀ x ∈ xs, Rq x w k) (hl : xs.length ≤ m) : Rq (.list xs) ((w + 2) * m + 2) (k + 1) := by
  obtain ⟨a1, a2, a3, a4, a5⟩ := rq_all h
  have := Nat.mul_le_mul_left (w + 2) hl
  exact ⟨by simpa [PyData.canLay0] using a1, by simpa [PyData.showable] using a2, by simpa [PyData.hasDict] using a3, by simp only [PyData.depth]; omega, by simp only [wD]; omega⟩
theorem rq_tup {w k m : Nat} {xs : List D} (h : ∀ x ∈ xs, Rq x w k) (hl : xs.length ≤ m) : Rq (.tuple xs) ((w + 2) * m + 3) (k + 1) := by
  obtain ⟨a1, a2, a3, a4, a5⟩ := rq_all h
  have := Nat.mul_le_mul_left (w + 2) hl
  exact ⟨by simpa [PyData.canLay0] using a1, by simpa [PyData.showable] using a2, by simpa [PyData.hasDict] using a3, by simp only [PyData.depth]; omega, by simp only [wD]; omega⟩
theorem rq_nil {w k : Nat} : ∀ x ∈ ([] : List D), Rq x w k := fun _ h => absurd h List.not_mem_nil
theorem rq_cons {w k : Nat} {x : D} {xs : List D} (h : Rq x w k) (hs : ∀ x ∈ xs, Rq x w k) : ∀ y ∈ x :: xs, Rq y w k := List.forall_mem_cons.2 ⟨h, hs⟩
theorem rq_app {w k : Nat} {xs ys : List D} (h : ∀ x ∈ xs, Rq x w k) (hs : ∀ x ∈ ys, Rq x w k) : ∀ y ∈ xs ++ ys, Rq y w k := fun y hy => (List.mem_append.1 hy).elim (h y) (hs y)
theorem rq_map {α : Type} {w k : Nat} {f : α → D} {xs : List α} (h : ∀ a ∈ xs, Rq (f a) w k) : ∀ y ∈ xs.map f, Rq y w k := fun y hy => by
  obtain ⟨a, ha, rfl⟩ := List.mem_map.1 hy
  exact h a ha
theorem rq_filter {w k : Nat} {p : D → Bool} {xs : List D} (h : ∀ x ∈ xs, Rq x w k) : ∀ y ∈ xs.filter p, Rq y w k := fun y hy => h y (List.mem_filter.1 hy).1
section
variable {d : D} {w k : Nat}
theorem Rq.shaped (h : Rq d w k) (hk : k ≤ 60) : SeqAt.shaped d = true := by
  unfold SeqAt.shaped
  rw [h.lay, decide_eq_true (show d.depth ≤ 64 by have := h.dp; omega)]
  rfl
theorem Rq.repr (h : Rq d w k) (hw : w ≤ 100000) (hk : k ≤ 50) : bltD .repr [d] = some (.str d.shown) := repr_ok h.sh h.nd (Nat.le_trans h.dp hk) (Nat.le_trans h.wd hw)
theorem Rq.eqv (h : Rq d w k) : PyData.eqv d d = true := SeqAt.eqv_refl d h.lay
theorem Rq.eq (h : Rq d w k) (hk : k ≤ 60) : cmpD .Eq d d = some true := by
  show eqD d d = _
  unfold eqD
  rw [h.shaped hk, h.eqv, if_pos (by simp)]
theorem Rq.ne (h : Rq d w k) (hk : k ≤ 60) : cmpD .NotEq d d = some false := by
  show (cmpD .Eq d d).map (!·) = _
  rw [h.eq hk]
  rfl
theorem xr_repr {Q : D → Prop} (h : Rq d w k) (hw : w ≤ 100000) (hk : k ≤ 50) (q : Q (.str d.shown)) : ∃ e, bltD .repr [d] = some e ∧ Q e := ⟨_, h.repr hw hk, q⟩
theorem xr_eq {R : Bool → Prop} (h : Rq d w k) (hk : k ≤ 60) (q : R true) : ∃ e, cmpD .Eq d d = some e ∧ R e := ⟨_, h.eq hk, q⟩
theorem xr_ne {R : Bool → Prop} (h : Rq d w k) (hk : k ≤ 60) (q : R false) : ∃ e, cmpD .NotEq d d = some e ∧ R e := ⟨_, h.ne hk, q⟩
end
end Ev


set_option Elab.async false
set_option linter.all false
set_option maxRecDepth 100000
set_option maxHeartbeats 4000000
namespace K05
set_option exponentiation.threshold 5000
open PySem PySem.Spec PyProof.Rows L2 PySem.W Ev
local macro_rules | `(tactic| walk_at "set") => `(tactic| (repeat (with_reducible refine' set_s ?_)); exact set_z)
local macro_rules | `(tactic| walk_at "bd") => `(tactic| first
  | assumption
  | exact Bd.lit (k := 400) (by decide +kernel)
  | ((with_reducible refine' Bd.add ?b1 ?b2); (case b1 => walk_at "bd"); (case b2 => walk_at "bd"))
  | ((with_reducible refine' Bd.sub ?b1 ?b2); (case b1 => walk_at "bd"); (case b2 => walk_at "bd"))
  | ((with_reducible refine' Bd.mul ?b1 ?b2); (case b1 => walk_at "bd"); (case b2 => walk_at "bd"))
  | ((with_reducible refine' Bd.neg ?b1); (case b1 => walk_at "bd"))
  | ((with_reducible refine' Bd.pow3 ?b1); (case b1 => walk_at "bd"))
  | ((with_reducible refine' Bd.pow2 ?b1); (case b1 => walk_at "bd"))
  | ((with_reducible refine' Bd.modP ?m1 ?m2); (case m1 => walk_at "bd"); (case m2 => first | decide | omega))
  | ((with_reducible refine' Bd.div ?m1 ?m2); (case m1 => walk_at "bd"); (case m2 => first | decide | omega)))
local macro_rules | `(tactic| walk_at "mul") => `(tactic| first
  | exact mulS1 (by decide) | exact mulS2 (by decide)
  | exact mulS1 (by assumption) | exact mulS2 (by assumption)
  | (refine' mulB ?m1 ?m2 ?m3 ?m4; (case m1 => walk_at "bd"); (case m2 => walk_at "bd"); (case m3 => decide); (case m4 => decide)))
local macro_rules | `(tactic| walk_at "big") => `(tactic| first
  | assumption
  | decide
  | (refine' Bd.big ?m1 ?m2; (case m1 => walk_at "bd"); (case m2 => decide)))
local macro_rules | `(tactic| walk_at "e") => `(tactic| first
  | ((with_reducible refine' we_var ?w1 ?_); (case w1 => exact rfl))
  | ((with_reducible refine' we_varO ?w1 ?w2 ?_); (case w1 => exact rfl); (case w2 => exact rfl))
  | with_reducible refine' we_cst ?_
  | with_reducible refine' we_gcn ?_
  | with_reducible refine' we_bin ?_
  | with_reducible refine' we_cmp ?_
  | ((with_reducible refine' we_idv ?w1 ?_); (case w1 => exact rfl))
  | ((with_reducible refine' we_idvO ?w1 ?_); (case w1 => exact rfl))
  | with_reducible refine' we_call ?_
  | ((with_reducible refine' we_cio ?w1 ?_); (case w1 => exact rfl))
  | with_reducible refine' we_cfo ?_
  | with_reducible refine' we_blt ?_
  | with_reducible refine' we_nil ?_
  | with_reducible refine' we_cons ?_
  | ((with_reducible refine' wn_e ?w1 ?_); (case w1 => walk_at "set"))
  | ((with_reducible refine' wn_a ?w1 ?_); (case w1 => walk_at "set"))
  | ((with_reducible refine' wn_p ?w1 ?_); (case w1 => walk_at "set"))
  | ((with_reducible refine' wn_o ?w1 ?_); (case w1 => walk_at "set"))
  | with_reducible refine' we_tup ?_
  | with_reducible refine' we_lst ?_
  | with_reducible refine' we_idx ?_
  | with_reducible refine' we_not ?_
  | with_reducible refine' we_neg ?_
  | with_reducible refine' we_chn ?_
  | with_reducible refine' we_ite ?_
  | with_reducible refine' we_isi ?_
  | with_reducible refine' we_slc ?_
  | with_reducible refine' we_rev ?_
  | with_reducible refine' we_lr1 ?_
  | with_reducible refine' we_lr2 ?_
  | with_reducible refine' we_mnd ?_
  | with_reducible refine' we_gcd ?_
  | with_reducible refine' we_srs ?_
  | with_reducible refine' we_mth ?_
  | with_reducible refine' we_dct ?_
  | with_reducible refine' we_comp ?_
  | ((with_reducible refine' we_rpo ?w1 ?_); (case w1 => exact rfl))
  | with_reducible refine' evO_none ?_
  | with_reducible refine' evO_some ?_
  | with_reducible refine' wo_lst ?_
  | with_reducible refine' wo_comp ?_
  | with_reducible refine' wo_list ?_
  | with_reducible refine' wo_srt ?_
  | with_reducible refine' wo_ite ?_
  | with_reducible refine' wo_call ?_
  | ((with_reducible refine' wo_cio ?w1 ?_); (case w1 => exact rfl))
  | with_reducible refine' wp_nil ?_
  | with_reducible refine' wp_own ?_
  | with_reducible refine' wp_ev ?_)
local macro_rules | `(tactic| walk_at "x") => `(tactic| first
  | with_reducible refine' ex_add ?_
  | ((with_reducible refine' ex_cat ?w1 ?_); (case w1 => first | (simp only [List.length_append, List.length_cons, List.length_nil]; omega)))
  | with_reducible refine' ex_sub ?_
  | with_reducible refine' ex_augA ?_
  | with_reducible refine' ex_augS ?_
  | ((with_reducible refine' ex_mul ?w1 ?_); (case w1 => walk_at "mul"))
  | ((with_reducible refine' ex_mod ?w1 ?_); (case w1 => first | decide | omega))
  | ((with_reducible refine' ex_fdiv ?w1 ?w2 ?_); (case w1 => first | decide | omega); (case w2 => walk_at "big"))
  | with_reducible refine' xo_tru ?_
  | with_reducible refine' xo_bool ?_
  | with_reducible refine' xo_int ?_
  | ((with_reducible refine' xo_at ?w1 ?_); (case w1 => exact rfl))
  | ((with_reducible refine' xo_atL ?w1 ?_); (case w1 => exact rfl))
  | ((with_reducible refine' xo_ix ?w1 ?_); (case w1 => exact rfl))
  | ((with_reducible refine' xo_tg ?w1 ?_); (case w1 => exact rfl))
  | ((with_reducible refine' xo_pa ?w1 ?_); (case w1 => exact rfl))
  | ((with_reducible refine' xo_sub0 ?w1 ?w2 ?_); (case w1 => exact rfl); (case w2 => first | decide | omega))
  | ((with_reducible refine' xo_sub1 ?w1 ?w2 ?_); (case w1 => exact rfl); (case w2 => first | decide | omega))
  | ((with_reducible refine' xo_sub2 ?w1 ?w2 ?_); (case w1 => exact rfl); (case w2 => first | decide | omega))
  | ((with_reducible refine' xo_sub ?w1 ?w2 ?_); (case w1 => exact rfl); (case w2 => exact rfl))
  | ((with_reducible refine' xo_app ?w1 ?w2 ?_); (case w1 => exact rfl); (case w2 => first | decide | (simp only [List.length_append, List.length_cons, List.length_nil]; omega)))
  | with_reducible refine' xb_int ?_
  | with_reducible refine' xb_max ?_
  | with_reducible refine' xb_min ?_
  | with_reducible refine' xb_abs ?_
  | with_reducible refine' xb_len ?_
  | with_reducible refine' xb_lenT ?_
  | with_reducible refine' xn_neg ?_
  | ((with_reducible refine' xb_divmod ?w1 ?w2 ?_); (case w1 => first | decide | omega); (case w2 => walk_at "big"))
  | ((with_reducible refine' xl ?w1 ?_); (case w1 => first | (simp only [List.length_append, List.length_cons, List.length_nil]; omega)))
  | ((with_reducible refine' xl' ?w1 ?_); (case w1 => first | (simp only [List.length_append, List.length_cons, List.length_nil]; omega)))
  | with_reducible refine' x_rr ?_
  | with_reducible refine' xi_int ?_
  | with_reducible refine' xi_bool ?_
  | ((with_reducible refine' nt_pos ?_))
  | ((with_reducible refine' nt_neg ?_))
  | ((with_reducible refine' tf_pos ?_))
  | ((with_reducible refine' tf_neg ?_))
  | ((with_reducible refine' dec_pos ?w1 ?_); (case w1 => first | with_reducible rfl | assumption | omega))
  | ((with_reducible refine' dec_neg ?w1 ?_); (case w1 => first | with_reducible rfl | assumption | omega))
  | ((with_reducible refine' ndec_pos ?w1 ?_); (case w1 => first | with_reducible rfl | assumption | omega))
  | ((with_reducible refine' ndec_neg ?w1 ?_); (case w1 => first | with_reducible rfl | assumption | omega))
  | with_reducible refine' ex_lt ?_
  | with_reducible refine' ex_le ?_
  | with_reducible refine' ex_gt ?_
  | with_reducible refine' ex_ge ?_
  | with_reducible refine' ex_eq ?_
  | with_reducible refine' ex_ne ?_
  | with_reducible refine' ex_eqS ?_
  | with_reducible refine' ex_neS ?_
  | ((with_reducible refine' ex_reprI ?w1 ?_); (case w1 => first | (refine' Bd.up ?m1 ?m2); (case m1 => walk_at "bd"); (case m2 => decide)))
  | with_reducible refine' ex_reprB ?_
  | ((with_reducible refine' xq3 ?w1 ?_); (case w1 => walk_at "big"))
  | ((with_reducible refine' xq2 ?w1 ?_); (case w1 => walk_at "big"))
  | first | with_reducible refine' xt2 ?_ | with_reducible refine' xt3 ?_ | with_reducible refine' xt4 ?_ | with_reducible refine' xt5 ?_ | with_reducible refine' xt6 ?_ | with_reducible refine' xt7 ?_ | with_reducible refine' xt8 ?_ | with_reducible refine' xt9 ?_ | with_reducible refine' xt10 ?_ | with_reducible refine' xt12 ?_ | with_reducible refine' xt16 ?_ | with_reducible refine' xt17 ?_ | with_reducible refine' xt18 ?_ | with_reducible refine' xt19 ?_ | with_reducible refine' xt20 ?_ | with_reducible refine' xt21 ?_ | with_reducible refine' xt22 ?_ | with_reducible refine' xt23 ?_ | with_reducible refine' xt24 ?_ | with_reducible refine' xt25 ?_ | with_reducible refine' xt26 ?_ | with_reducible refine' xt27 ?_ | with_reducible refine' xt28 ?_ | with_reducible refine' xt29 ?_ | with_reducible refine' xt30 ?_ | with_reducible refine' xt38 ?_ | with_reducible refine' xt41 ?_ | with_reducible refine' xt44 ?_ | with_reducible refine' xt46 ?_ | with_reducible refine' xt50 ?_ | with_reducible refine' xt60 ?_
  | with_reducible refine' xp1 ?_ | with_reducible refine' xp2 ?_ | with_reducible refine' xp21 ?_ | with_reducible refine' xp3 ?_ | with_reducible refine' xp321 ?_
  | with_reducible refine' xp4 ?_ | with_reducible refine' xp4321 ?_ | with_reducible refine' xp5 ?_ | with_reducible refine' xp54321 ?_ | with_reducible refine' xp6 ?_ | with_reducible refine' xp0 ?_)
local macro_rules | `(tactic| walk_at "s") => `(tactic| first
  | ((with_reducible refine' wn_s ?w1 ?_); (case w1 => walk_at "set"))
  | ((with_reducible refine' ws_asg ?w1 ?_); (case w1 => exact rfl))
  | ((with_reducible refine' ws_own ?w1 ?_); (case w1 => exact rfl))
  | with_reducible refine' ws_par ?_
  | ((with_reducible refine' ws_aug ?w1 ?w2 ?_); (case w1 => exact rfl); (case w2 => exact rfl))
  | with_reducible refine' ws_unp ?_
  | ((with_reducible refine' ws_sub ?w1 ?_); (case w1 => exact rfl))
  | ((with_reducible refine' ws_app ?w1 ?_); (case w1 => exact rfl))
  | with_reducible refine' ws_exp ?_
  | with_reducible refine' ws_pas ?_
  | with_reducible refine' ws_iff ?_
  | with_reducible refine' ws_ret ?_
  | with_reducible refine' ws_retO ?_
  | with_reducible refine' ws_retN ?_
  | ((with_reducible refine' ws_retV ?w1 ?_); (case w1 => exact rfl))
  | ((with_reducible refine' ws_retVO ?w1 ?w2 ?_); (case w1 => exact rfl); (case w2 => exact rfl))
  | with_reducible refine' ws_nilq ?_
  | with_reducible refine' ws_nill ?_
  | with_reducible refine' ws_nil ?_)
local macro_rules | `(tactic| walk_at "w") => `(tactic| (repeat' (first | walk_at "e" | walk_at "s" | walk_at "x")))
local macro_rules | `(tactic| walk_at "pk") => `(tactic| (repeat' (first | exact fun _ hx => absurd hx (List.not_mem_nil) | refine List.forall_mem_cons.2 ⟨?_, ?_⟩)))
local macro_rules | `(tactic| walk_at "bdu") => `(tactic| (refine' Bd.up ?m1 ?m2; (case m1 => walk_at "bd"); (case m2 => decide)))
local macro_rules | `(tactic| walk_at "len") => `(tactic| (simp only [List.length_cons, List.length_nil]; omega))
theorem k_is_integer : Lk tbl "is_integer" 1 1 false Ev.c_is_integer := ⟨d_is_integer, by kernel_rfl, rfl, rfl, rfl, rfl⟩
theorem k_is_from : Lk tbl "is_from" 2 2 false Ev.c_is_from := ⟨d_is_from, by kernel_rfl, rfl, rfl, rfl, rfl⟩
theorem k_is_within : Lk tbl "is_within" 3 3 false Ev.c_is_within := ⟨d_is_within, by kernel_rfl, rfl, rfl, rfl, rfl⟩
theorem k_check_tick : Lk tbl "check_tick" 1 1 false K05.c_check_tick := ⟨d_check_tick, by kernel_rfl, rfl, rfl, rfl, rfl⟩
theorem k_check_display : Lk tbl "check_display" 5 1 false K05.c_check_display := ⟨d_check_display, by kernel_rfl, rfl, rfl, rfl, rfl⟩
theorem k_is_place : Lk tbl "is_place" 2 2 false Ev.c_is_place := ⟨d_is_place, by kernel_rfl, rfl, rfl, rfl, rfl⟩
theorem k_check_place : Lk tbl "check_place" 2 2 false K05.c_check_place := ⟨d_check_place, by kernel_rfl, rfl, rfl, rfl, rfl⟩
theorem k_is_display : Lk tbl "is_display" 1 1 false c_is_display := ⟨d_is_display, by kernel_rfl, rfl, rfl, rfl, rfl⟩
theorem k_round_of : Lk tbl "round_of" 1 1 false Ev.c_round_of := ⟨d_round_of, by kernel_rfl, rfl, rfl, rfl, rfl⟩
theorem k_is_lit : Lk tbl "is_lit" 7 3 false Ev.c_is_lit := ⟨d_is_lit, by kernel_rfl, rfl, rfl, rfl, rfl⟩
theorem k_place_at : Lk tbl "place_at" 8 2 false Ev.c_place_at := ⟨d_place_at, by kernel_rfl, rfl, rfl, rfl, rfl⟩
theorem k_lit_place : Lk tbl "lit_place" 2 2 false Ev.c_lit_place := ⟨d_lit_place, by kernel_rfl, rfl, rfl, rfl, rfl⟩
theorem k_lit_ahead : Lk tbl "lit_ahead" 9 3 false Ev.c_lit_ahead := ⟨d_lit_ahead, by kernel_rfl, rfl, rfl, rfl, rfl⟩
theorem k_lit_between : Lk tbl "lit_between" 4 4 false Ev.c_lit_between := ⟨d_lit_between, by kernel_rfl, rfl, rfl, rfl, rfl⟩
theorem k_lit_ticks : Lk tbl "lit_ticks" 4 4 false Ev.c_lit_ticks := ⟨d_lit_ticks, by kernel_rfl, rfl, rfl, rfl, rfl⟩
theorem k_law_source : Lk tbl "_law_source" 4 2 false Ev.sourceC := ⟨d__law_source, by kernel_rfl, rfl, rfl, rfl, rfl⟩
theorem k_law_draw : Lk tbl "_law_draw" 4 2 true Ev.drawC := ⟨d__law_draw, by kernel_rfl, rfl, rfl, rfl, rfl⟩
theorem k_law_pane : Lk tbl "_law_pane" 5 3 true Ev.c_law_pane := ⟨d__law_pane, by kernel_rfl, rfl, rfl, rfl, rfl⟩
theorem k_law_is_lit : Lk tbl "_law_is_lit" 4 3 false c__law_is_lit := ⟨d__law_is_lit, by kernel_rfl, rfl, rfl, rfl, rfl⟩
theorem k_law_things : Lk tbl "_law_things" 8 1 false c__law_things := ⟨d__law_things, by kernel_rfl, rfl, rfl, rfl, rfl⟩
theorem k_law_is_right : Lk tbl "_law_is_right" 2 1 false c__law_is_right := ⟨d__law_is_right, by kernel_rfl, rfl, rfl, rfl, rfl⟩
theorem k_law_ticks_right : Lk tbl "_law_ticks_right" 8 1 false c__law_ticks_right := ⟨d__law_ticks_right, by kernel_rfl, rfl, rfl, rfl, rfl⟩
theorem k_law_windows_right : Lk tbl "_law_windows_right" 9 2 true c__law_windows_right := ⟨d__law_windows_right, by kernel_rfl, rfl, rfl, rfl, rfl⟩
theorem k_law : Lk tbl "law" 8 1 false c_law := ⟨d_law, by kernel_rfl, rfl, rfl, rfl, rfl⟩
def rD : Nat → CS
  | 0 => .rax "InvalidDisplay" "index" (.cst .none)
  | 1 => .rax "InvalidDisplay" "index" (.cst (.int 0))
  | 2 => .rax "InvalidDisplay" "index" (.cst (.int 1))
  | 3 => .rax "InvalidDisplay" "index" (.cst (.int 2))
  | _ => .rax "InvalidDisplay" "index" (.cst (.int 3))
theorem kT : Dsp0 tbl := ⟨k_is_integer, k_is_from, k_is_within, ⟨.rai "InvalidTick", k_check_tick⟩, ⟨rD, k_check_display⟩, k_is_place, ⟨.rai "InvalidPlace", k_check_place⟩⟩
variable {n : Nat}
/-! what any value is -/
def isT : D → Bool
  | .tuple _ => true
  | _ => false
def isI : D → Bool
  | .int _ => true
  | _ => false
theorem isi_tup (x : D) : isiD x "tuple" = some (isT x) := by cases x <;> kernel_rfl
theorem isi_int (x : D) : isiD x "int" = some (match x with | .int _ => true | .bool _ => true | _ => false) := by cases x <;> kernel_rfl
theorem isi_boo (x : D) : isiD x "bool" = some (match x with | .bool _ => true | _ => false) := by cases x <;> kernel_rfl
theorem isi_str (x : D) : isiD x "str" = some (match x with | .str _ => true | _ => false) := by cases x <;> kernel_rfl
theorem ix_n : ixD .none = true := rfl
theorem ix_0 : ixD (.int 0) = true := by decide
theorem ix_1 : ixD (.int 1) = true := by decide
theorem ix_2 : ixD (.int 2) = true := by decide
theorem ix_3 : ixD (.int 3) = true := by decide
def wiB : D → Int → Int → Bool
  | .int i, a, b => decide (a ≤ i ∧ i ≤ b)
  | _, _, _ => false
def frB : D → Int → Bool
  | .int i, a => decide (a ≤ i)
  | _, _ => false
theorem wi_val (x : D) (a b : Int) : calN tbl (n + 1) "is_within" [x, .int a, .int b] = .ok (.bool (wiB x a b)) none := by
  cases x with
  | int i => exact is_within_val k_is_within i a b
  | _ => rw [lk_run k_is_within rfl]; simp [Ev.c_is_within, evB, evS, evT, ev, evA, evO, evC, Rs.st, Rs.bind, ofO, SR.seq, set0, ofS, setTg, setMany, truR, truD, callR, permD, outR, oldR, nons, List.replicate, lim, isi_int, isi_boo, wiB]
theorem fr_val (x : D) (a : Int) : calN tbl (n + 1) "is_from" [x, .int a] = .ok (.bool (frB x a)) none := by
  cases x with
  | int i => exact is_from_val k_is_from i a
  | _ => rw [lk_run k_is_from rfl]; simp [Ev.c_is_from, evB, evS, evT, ev, evA, evO, evC, Rs.st, Rs.bind, ofO, SR.seq, set0, ofS, setTg, setMany, truR, truD, callR, permD, outR, oldR, nons, List.replicate, lim, isi_int, isi_boo, frB]
def drB : D → Bool
  | .str e => decide (e = ("now" : Str)) || decide (e = ("round" : Str))
  | _ => false
theorem dr_notin (e : Str) : cmpD .NotIn (.str e) (.tuple [.str "now", .str "round"]) = some (!drB (.str e)) := by
  show (inD (.str e) [.str "now", .str "round"] false).map (!·) = _
  unfold inD
  rw [if_pos (by rfl)]
  have hb : ∀ a b : Str, (a == b) = decide (b = a) := fun a b => by
    rw [Bool.eq_iff_iff, beq_iff_eq, decide_eq_true_iff]
    exact eq_comm
  simp [PyData.eqv, drB, hb]
def okP : D → Bool
  | .tuple [p, s, l, e] => wiB p 1 8 && frB s 1 && (match s with | .int k => wiB l 1 k | _ => false) && drB e
  | _ => false
theorem len_t (xs : List D) : bltD .len [.tuple xs] = some (.int xs.length) := rfl
theorem four {xs : List D} (h : xs.length = 4) : ∃ a b c e, xs = [a, b, c, e] := by
  match xs, h with
  | [a, b, c, e], _ => exact ⟨a, b, c, e, rfl⟩
theorem chk_val (x : D) : (okP x = true → calN tbl (n + 3) "check_display" [x] = .ok .none none) ∧ (okP x = false → ∃ f, calN tbl (n + 3) "check_display" [x] = .er "InvalidDisplay" f none) := by
  rw [lk_run k_check_display rfl]
  have tt := isi_tup x
  cases x with
  | tuple xs =>
    by_cases hl : xs.length = 4
    · obtain ⟨a, b, c, e, rfl⟩ := four hl
      have e0 := len_t [a, b, c, e]
      have e1 := wi_val (n := n + 1) a 1 8
      have e2 := fr_val (n := n + 1) b 1
      cases h1 : wiB a 1 8 with
      | false =>
        rw [h1] at e1
        refine ⟨fun z => by simp [okP, h1] at z, fun _ => ⟨some ("index", .int 0), ?_⟩⟩
        simp [K05.c_check_display, evB, evS, evT, ev, evA, evO, evC, Rs.st, Rs.bind, ofO, SR.seq, set0, ofS, setTg, setMany, truR, truD, callR, permD, outR, oldR, nons, List.replicate, lim, isT, tt, e0, e1, c_ne, ix_n, ix_0, ix_1, ix_2, ix_3, lim]
      | true =>
        rw [h1] at e1
        cases h2 : frB b 1 with
        | false =>
          rw [h2] at e2
          refine ⟨fun z => by simp [okP, h2] at z, fun _ => ⟨some ("index", .int 1), ?_⟩⟩
          simp [K05.c_check_display, evB, evS, evT, ev, evA, evO, evC, Rs.st, Rs.bind, ofO, SR.seq, set0, ofS, setTg, setMany, truR, truD, callR, permD, outR, oldR, nons, List.replicate, lim, isT, tt, e0, e1, e2, c_ne, ix_n, ix_0, ix_1, ix_2, ix_3, lim]
        | true =>
          rw [h2] at e2
          obtain ⟨s, rfl⟩ : ∃ s, b = .int s := by
            cases b <;> first | exact ⟨_, rfl⟩ | cases h2
          have e3 := wi_val (n := n + 1) c 1 s
          cases h3 : wiB c 1 s with
          | false =>
            rw [h3] at e3
            refine ⟨fun z => by simp [okP, h3] at z, fun _ => ⟨some ("index", .int 2), ?_⟩⟩
            simp [K05.c_check_display, evB, evS, evT, ev, evA, evO, evC, Rs.st, Rs.bind, ofO, SR.seq, set0, ofS, setTg, setMany, truR, truD, callR, permD, outR, oldR, nons, List.replicate, lim, isT, tt, e0, e1, e2, e3, c_ne, ix_n, ix_0, ix_1, ix_2, ix_3, lim]
          | true =>
            rw [h3] at e3
            have e4 := isi_str e
            cases h4 : drB e with
            | false =>
              refine ⟨fun z => by simp [okP, h4] at z, fun _ => ⟨some ("index", .int 3), ?_⟩⟩
              cases e with
              | str w =>
                have e5 := dr_notin w
                rw [h4] at e5
                simp [K05.c_check_display, evB, evS, evT, ev, evA, evO, evC, Rs.st, Rs.bind, ofO, SR.seq, set0, ofS, setTg, setMany, truR, truD, callR, permD, outR, oldR, nons, List.replicate, lim, isT, tt, e0, e1, e2, e3, e4, e5, c_ne, ix_n, ix_0, ix_1, ix_2, ix_3, lim]
              | _ =>
                simp [K05.c_check_display, evB, evS, evT, ev, evA, evO, evC, Rs.st, Rs.bind, ofO, SR.seq, set0, ofS, setTg, setMany, truR, truD, callR, permD, outR, oldR, nons, List.replicate, lim, isT, tt, e0, e1, e2, e3, e4, c_ne, ix_n, ix_0, ix_1, ix_2, ix_3, lim]
            | true =>
              refine ⟨fun _ => ?_, fun z => by simp [okP, h1, h2, h3, h4] at z⟩
              cases e with
              | str w =>
                have e5 := dr_notin w
                rw [h4] at e5
                simp [K05.c_check_display, evB, evS, evT, ev, evA, evO, evC, Rs.st, Rs.bind, ofO, SR.seq, set0, ofS, setTg, setMany, truR, truD, callR, permD, outR, oldR, nons, List.replicate, lim, isT, tt, e0, e1, e2, e3, e4, e5, c_ne, ix_n, ix_0, ix_1, ix_2, ix_3, lim]
              | _ => cases h4
    · have e0 := len_t xs
      have hne : ¬ (xs.length : Int) = 4 := by omega
      refine ⟨fun z => ?_, fun _ => ⟨some ("index", .none), ?_⟩⟩
      · exfalso
        unfold okP at z
        split at z
        · rename_i q
          cases q
          exact hl rfl
        · cases z
      · simp [K05.c_check_display, evB, evS, evT, ev, evA, evO, evC, Rs.st, Rs.bind, ofO, SR.seq, set0, ofS, setTg, setMany, truR, truD, callR, permD, outR, oldR, nons, List.replicate, lim, isT, tt, e0, c_ne, hne, ix_n, ix_0, ix_1, ix_2, ix_3, lim]
  | _ =>
    refine ⟨(fun z => by cases z), fun _ => ⟨some ("index", .none), ?_⟩⟩
    simp [K05.c_check_display, evB, evS, evT, ev, evA, evO, evC, Rs.st, Rs.bind, ofO, SR.seq, set0, ofS, setTg, setMany, truR, truD, callR, permD, outR, oldR, nons, List.replicate, lim, isT, tt, ix_n, ix_0, ix_1, ix_2, ix_3, lim]
theorem disp_val (x : D) : calN tbl (n + 4) "is_display" [x] = .ok (.bool (okP x)) none := by
  rw [lk_run k_is_display rfl]
  obtain ⟨q1, q2⟩ := chk_val (n := n) x
  cases h : okP x with
  | true =>
    have e := q1 h
    simp [c_is_display, evB, evS, evT, ev, evA, evO, evC, Rs.st, Rs.bind, ofO, SR.seq, set0, ofS, setTg, setMany, truR, truD, callR, permD, outR, oldR, nons, List.replicate, lim, e]
  | false =>
    obtain ⟨f, e⟩ := q2 h
    have hm : exM ("InvalidDisplay" : Str) ("InvalidDisplay" : Str) = true := by decide +kernel
    simp [c_is_display, evB, evS, evT, ev, evA, evO, evC, Rs.st, Rs.bind, ofO, SR.seq, set0, ofS, setTg, setMany, truR, truD, callR, permD, outR, oldR, nons, List.replicate, lim, e, evH, suR, hm]
def pB (x : D) : Bool := !isI x
theorem ne_nil (xs : List D) (h : xs.length ≤ 3) (h1 : ∀ x ∈ xs, x = .int 1) : cmpD .NotEq (.list xs) (.list []) = some (!xs.isEmpty) := by
  match xs, h with
  | [], _ => kernel_rfl
  | [a], _ => rw [h1 a (by simp)]; kernel_rfl
  | [a, b], _ => rw [h1 a (by simp), h1 b (by simp)]; kernel_rfl
  | [a, b, c], _ => rw [h1 a (by simp), h1 b (by simp), h1 c (by simp)]; kernel_rfl
theorem right_val (x : D) : calN tbl (n + 1) "_law_is_right" [x] = .ok (.bool (okP x)) none := by
  have tt := isi_tup x
  cases x with
  | tuple xs =>
    by_cases hl : xs.length = 4
    · obtain ⟨a, b, c, e, rfl⟩ := four hl
      refine wc_run (P := fun z => z = .ok (.bool (okP _)) none) k_law_is_right rfl ?_
      show WS (evB (calN tbl n) false c__law_is_right [some (.tuple [a, b, c, e], false), none]) _
      unfold c__law_is_right
      have e0 := len_t [a, b, c, e]
      have w1 : evS (calN tbl n) false (.iff (.or (.not (.isi (.var 0) "tuple")) (.cmp .NotEq (.blt .len [(.var 0)]) (.cst (PyData.int 4)))) [.ret (.cst (PyData.bool false))] []) [some (.tuple [a, b, c, e], false), none] = .nx [some (.tuple [a, b, c, e], false), none] := by
        simp [evB, evS, evT, ev, evA, evO, evC, Rs.st, Rs.bind, ofO, SR.seq, set0, ofS, setTg, setMany, truR, truD, callR, permD, outR, oldR, nons, List.replicate, lim, isT, tt, e0, c_ne]
      rw [evB_cons w1]
      refine ws_iff ?_
      walk_at "w"
      refine wc_pure pB (fun _ => .int 1) ?_
      walk_at "w"
      refine ⟨_, rfl, ?_⟩
      walk_at "w"
      refine ⟨_, rfl, rfl, by show 3 ≤ 100000; decide, rfl, ?_, ?_⟩
      · intro x hx
        refine ⟨_, rfl, ?_, fun _ => ?_, rfl⟩
        · refine evC_some ?_
          refine we_or ?_
          walk_at "w"
          refine ⟨_, isi_int _, ?_⟩
          cases x <;> (refine ⟨_, rfl, _, rfl, fun z => ?_, fun z => ?_⟩ <;> first
            | (cases z; done)
            | exact ⟨_, rfl, rfl, rfl⟩
            | (walk_at "w"; exact ⟨_, isi_boo _, _, rfl, rfl, rfl⟩))
        · walk_at "w"
          exact ⟨rfl, rfl⟩
      · walk_at "w"
        refine ⟨_, ne_nil (List.map (fun _ => PyData.int 1) (List.filter pB [a, b, c])) (by rw [List.length_map]; exact List.length_filter_le _ _) (fun x hx => by obtain ⟨_, _, rfl⟩ := List.mem_map.mp hx; rfl), ?_⟩
        have he : (List.map (fun _ => PyData.int 1) (List.filter pB [a, b, c])).isEmpty = !(pB a || pB b || pB c) := by
          simp only [List.filter]
          cases pB a <;> cases pB b <;> cases pB c <;> rfl
        rw [he, Bool.not_not]
        refine ⟨_, rfl, fun z => ?_, fun z => ?_⟩
        · walk_at "w"
          have : okP (.tuple [a, b, c, e]) = false := by
            unfold pB at z
            unfold okP
            cases a <;> cases b <;> cases c <;> first | rfl | (cases z; done) | simp [wiB, frB]
          rw [this]
          rfl
        · obtain ⟨p, rfl⟩ : ∃ p, a = .int p := by cases a <;> first | exact ⟨_, rfl⟩ | (simp [pB, isI] at z)
          obtain ⟨s, rfl⟩ : ∃ p, b = .int p := by cases b <;> first | exact ⟨_, rfl⟩ | (simp [pB, isI] at z)
          obtain ⟨l, rfl⟩ : ∃ p, c = .int p := by cases c <;> first | exact ⟨_, rfl⟩ | (simp [pB, isI] at z)
          clear z he w1 e0 tt hl
          have e4 := isi_str e
          have i3 : idxD (.tuple [.int p, .int s, .int l, e]) (.int 3) = some e := rfl
          have i2 : idxD (.tuple [.int p, .int s, .int l, e]) (.int 2) = some (.int l) := rfl
          have i1 : idxD (.tuple [.int p, .int s, .int l, e]) (.int 1) = some (.int s) := rfl
          have i0 : idxD (.tuple [.int p, .int s, .int l, e]) (.int 0) = some (.int p) := rfl
          show outR _ = _
          generalize hx : (PyData.tuple [.int p, .int s, .int l, e]) = X at *
          have ho : okP X = (drB e && (decide (1 ≤ p) && decide (p ≤ 8) && (decide (1 ≤ l) && decide (l ≤ s)))) := by
            rw [← hx]
            simp only [okP, wiB, frB]
            rw [Bool.eq_iff_iff]
            simp only [Bool.and_eq_true, decide_eq_true_eq]
            constructor
            · rintro ⟨⟨⟨h1, h2⟩, h3⟩, h4⟩
              exact ⟨h4, h1, h3⟩
            · rintro ⟨h4, h1, h3⟩
              exact ⟨⟨⟨h1, by omega⟩, h3⟩, h4⟩
          rw [ho]
          clear ho hx
          cases h4 : drB e with
          | false =>
            cases e with
            | str w =>
              have e5 := dr_notin w
              rw [h4] at e5
              simp [evB, evS, evT, ev, evA, evO, evC, Rs.st, Rs.bind, ofO, SR.seq, set0, ofS, setTg, setMany, truR, truD, callR, permD, outR, oldR, nons, List.replicate, lim, e4, e5, i0, i1, i2, i3]
            | _ => simp [evB, evS, evT, ev, evA, evO, evC, Rs.st, Rs.bind, ofO, SR.seq, set0, ofS, setTg, setMany, truR, truD, callR, permD, outR, oldR, nons, List.replicate, lim, e4, i0, i1, i2, i3]
          | true =>
            cases e with
            | str w =>
              have e5 := dr_notin w
              rw [h4] at e5
              by_cases c1 : 1 ≤ p <;> by_cases c2 : p ≤ 8 <;> by_cases c3 : 1 ≤ l <;> by_cases c4 : l ≤ s <;> simp [evB, evS, evT, ev, evA, evO, evC, Rs.st, Rs.bind, ofO, SR.seq, set0, ofS, setTg, setMany, truR, truD, callR, permD, outR, oldR, nons, List.replicate, lim, e4, e5, i0, i1, i2, i3, c_le, c1, c2, c3, c4]
            | _ => cases h4
    · rw [lk_run k_law_is_right rfl]
      have e0 := len_t xs
      have hne : ¬ (xs.length : Int) = 4 := by omega
      have : okP (.tuple xs) = false := by
        unfold okP
        split
        · rename_i q
          cases q
          exact absurd rfl hl
        · rfl
      rw [this]
      simp [c__law_is_right, evB, evS, evT, ev, evA, evO, evC, Rs.st, Rs.bind, ofO, SR.seq, set0, ofS, setTg, setMany, truR, truD, callR, permD, outR, oldR, nons, List.replicate, lim, isT, tt, e0, c_ne, hne, lim]
  | _ =>
    rw [lk_run k_law_is_right rfl]
    simp [c__law_is_right, evB, evS, evT, ev, evA, evO, evC, Rs.st, Rs.bind, ofO, SR.seq, set0, ofS, setTg, setMany, truR, truD, callR, permD, outR, oldR, nons, List.replicate, lim, isT, tt, okP]
end K05


set_option Elab.async false
set_option linter.all false
set_option maxRecDepth 100000
set_option maxHeartbeats 4000000
namespace K05
set_option exponentiation.threshold 5000
open PySem PySem.Spec PyProof.Rows L2 PySem.W Ev
local macro_rules | `(tactic| walk_at "set") => `(tactic| (repeat (with_reducible refine' set_s ?_)); exact set_z)
local macro_rules | `(tactic| walk_at "bd") => `(tactic| first
  | assumption
  | exact Bd.lit (k := 400) (by decide +kernel)
  | ((with_reducible refine' Bd.add ?b1 ?b2); (case b1 => walk_at "bd"); (case b2 => walk_at "bd"))
  | ((with_reducible refine' Bd.sub ?b1 ?b2); (case b1 => walk_at "bd"); (case b2 => walk_at "bd"))
  | ((with_reducible refine' Bd.mul ?b1 ?b2); (case b1 => walk_at "bd"); (case b2 => walk_at "bd"))
  | ((with_reducible refine' Bd.neg ?b1); (case b1 => walk_at "bd"))
  | ((with_reducible refine' Bd.pow3 ?b1); (case b1 => walk_at "bd"))
  | ((with_reducible refine' Bd.pow2 ?b1); (case b1 => walk_at "bd"))
  | ((with_reducible refine' Bd.modP ?m1 ?m2); (case m1 => walk_at "bd"); (case m2 => first | decide | omega))
  | ((with_reducible refine' Bd.div ?m1 ?m2); (case m1 => walk_at "bd"); (case m2 => first | decide | omega)))
local macro_rules | `(tactic| walk_at "mul") => `(tactic| first
  | exact mulS1 (by decide) | exact mulS2 (by decide)
  | exact mulS1 (by assumption) | exact mulS2 (by assumption)
  | (refine' mulB ?m1 ?m2 ?m3 ?m4; (case m1 => walk_at "bd"); (case m2 => walk_at "bd"); (case m3 => decide); (case m4 => decide)))
local macro_rules | `(tactic| walk_at "big") => `(tactic| first
  | assumption
  | decide
  | (refine' Bd.big ?m1 ?m2; (case m1 => walk_at "bd"); (case m2 => decide)))
local macro_rules | `(tactic| walk_at "e") => `(tactic| first
  | ((with_reducible refine' we_var ?w1 ?_); (case w1 => exact rfl))
  | ((with_reducible refine' we_varO ?w1 ?w2 ?_); (case w1 => exact rfl); (case w2 => exact rfl))
  | with_reducible refine' we_cst ?_
  | with_reducible refine' we_gcn ?_
  | with_reducible refine' we_bin ?_
  | with_reducible refine' we_cmp ?_
  | ((with_reducible refine' we_idv ?w1 ?_); (case w1 => exact rfl))
  | ((with_reducible refine' we_idvO ?w1 ?_); (case w1 => exact rfl))
  | with_reducible refine' we_call ?_
  | ((with_reducible refine' we_cio ?w1 ?_); (case w1 => exact rfl))
  | with_reducible refine' we_cfo ?_
  | with_reducible refine' we_blt ?_
  | with_reducible refine' we_nil ?_
  | with_reducible refine' we_cons ?_
  | ((with_reducible refine' wn_e ?w1 ?_); (case w1 => walk_at "set"))
  | ((with_reducible refine' wn_a ?w1 ?_); (case w1 => walk_at "set"))
  | ((with_reducible refine' wn_p ?w1 ?_); (case w1 => walk_at "set"))
  | ((with_reducible refine' wn_o ?w1 ?_); (case w1 => walk_at "set"))
  | with_reducible refine' we_tup ?_
  | with_reducible refine' we_lst ?_
  | with_reducible refine' we_idx ?_
  | with_reducible refine' we_not ?_
  | with_reducible refine' we_neg ?_
  | with_reducible refine' we_chn ?_
  | with_reducible refine' we_ite ?_
  | with_reducible refine' we_isi ?_
  | with_reducible refine' we_slc ?_
  | with_reducible refine' we_rev ?_
  | with_reducible refine' we_lr1 ?_
  | with_reducible refine' we_lr2 ?_
  | with_reducible refine' we_mnd ?_
  | with_reducible refine' we_gcd ?_
  | with_reducible refine' we_srs ?_
  | with_reducible refine' we_mth ?_
  | with_reducible refine' we_dct ?_
  | with_reducible refine' we_comp ?_
  | ((with_reducible refine' we_rpo ?w1 ?_); (case w1 => exact rfl))
  | with_reducible refine' evO_none ?_
  | with_reducible refine' evO_some ?_
  | with_reducible refine' wo_lst ?_
  | with_reducible refine' wo_comp ?_
  | with_reducible refine' wo_list ?_
  | with_reducible refine' wo_srt ?_
  | with_reducible refine' wo_ite ?_
  | with_reducible refine' wo_call ?_
  | ((with_reducible refine' wo_cio ?w1 ?_); (case w1 => exact rfl))
  | with_reducible refine' wp_nil ?_
  | with_reducible refine' wp_own ?_
  | with_reducible refine' wp_ev ?_)
local macro_rules | `(tactic| walk_at "x") => `(tactic| first
  | with_reducible refine' ex_add ?_
  | ((with_reducible refine' ex_cat ?w1 ?_); (case w1 => first | (simp only [List.length_append, List.length_cons, List.length_nil]; omega)))
  | with_reducible refine' ex_sub ?_
  | with_reducible refine' ex_augA ?_
  | with_reducible refine' ex_augS ?_
  | ((with_reducible refine' ex_mul ?w1 ?_); (case w1 => walk_at "mul"))
  | ((with_reducible refine' ex_mod ?w1 ?_); (case w1 => first | decide | omega))
  | ((with_reducible refine' ex_fdiv ?w1 ?w2 ?_); (case w1 => first | decide | omega); (case w2 => walk_at "big"))
  | with_reducible refine' xo_tru ?_
  | with_reducible refine' xo_bool ?_
  | with_reducible refine' xo_int ?_
  | ((with_reducible refine' xo_at ?w1 ?_); (case w1 => exact rfl))
  | ((with_reducible refine' xo_atL ?w1 ?_); (case w1 => exact rfl))
  | ((with_reducible refine' xo_ix ?w1 ?_); (case w1 => exact rfl))
  | ((with_reducible refine' xo_tg ?w1 ?_); (case w1 => exact rfl))
  | ((with_reducible refine' xo_pa ?w1 ?_); (case w1 => exact rfl))
  | ((with_reducible refine' xo_sub0 ?w1 ?w2 ?_); (case w1 => exact rfl); (case w2 => first | decide | omega))
  | ((with_reducible refine' xo_sub1 ?w1 ?w2 ?_); (case w1 => exact rfl); (case w2 => first | decide | omega))
  | ((with_reducible refine' xo_sub2 ?w1 ?w2 ?_); (case w1 => exact rfl); (case w2 => first | decide | omega))
  | ((with_reducible refine' xo_sub ?w1 ?w2 ?_); (case w1 => exact rfl); (case w2 => exact rfl))
  | ((with_reducible refine' xo_app ?w1 ?w2 ?_); (case w1 => exact rfl); (case w2 => first | decide | (simp only [List.length_append, List.length_cons, List.length_nil]; omega)))
  | with_reducible refine' xb_int ?_
  | with_reducible refine' xb_max ?_
  | with_reducible refine' xb_min ?_
  | with_reducible refine' xb_abs ?_
  | with_reducible refine' xb_len ?_
  | with_reducible refine' xb_lenT ?_
  | with_reducible refine' xn_neg ?_
  | ((with_reducible refine' xb_divmod ?w1 ?w2 ?_); (case w1 => first | decide | omega); (case w2 => walk_at "big"))
  | ((with_reducible refine' xl ?w1 ?_); (case w1 => first | (simp only [List.length_append, List.length_cons, List.length_nil]; omega)))
  | ((with_reducible refine' xl' ?w1 ?_); (case w1 => first | (simp only [List.length_append, List.length_cons, List.length_nil]; omega)))
  | with_reducible refine' x_rr ?_
  | with_reducible refine' xi_int ?_
  | with_reducible refine' xi_bool ?_
  | ((with_reducible refine' nt_pos ?_))
  | ((with_reducible refine' nt_neg ?_))
  | ((with_reducible refine' tf_pos ?_))
  | ((with_reducible refine' tf_neg ?_))
  | ((with_reducible refine' dec_pos ?w1 ?_); (case w1 => first | with_reducible rfl | assumption | omega))
  | ((with_reducible refine' dec_neg ?w1 ?_); (case w1 => first | with_reducible rfl | assumption | omega))
  | ((with_reducible refine' ndec_pos ?w1 ?_); (case w1 => first | with_reducible rfl | assumption | omega))
  | ((with_reducible refine' ndec_neg ?w1 ?_); (case w1 => first | with_reducible rfl | assumption | omega))
  | with_reducible refine' ex_lt ?_
  | with_reducible refine' ex_le ?_
  | with_reducible refine' ex_gt ?_
  | with_reducible refine' ex_ge ?_
  | with_reducible refine' ex_eq ?_
  | with_reducible refine' ex_ne ?_
  | with_reducible refine' ex_eqS ?_
  | with_reducible refine' ex_neS ?_
  | ((with_reducible refine' ex_reprI ?w1 ?_); (case w1 => first | (refine' Bd.up ?m1 ?m2); (case m1 => walk_at "bd"); (case m2 => decide)))
  | with_reducible refine' ex_reprB ?_
  | ((with_reducible refine' xq3 ?w1 ?_); (case w1 => walk_at "big"))
  | ((with_reducible refine' xq2 ?w1 ?_); (case w1 => walk_at "big"))
  | first | with_reducible refine' xt2 ?_ | with_reducible refine' xt3 ?_ | with_reducible refine' xt4 ?_ | with_reducible refine' xt5 ?_ | with_reducible refine' xt6 ?_ | with_reducible refine' xt7 ?_ | with_reducible refine' xt8 ?_ | with_reducible refine' xt9 ?_ | with_reducible refine' xt10 ?_ | with_reducible refine' xt12 ?_ | with_reducible refine' xt16 ?_ | with_reducible refine' xt17 ?_ | with_reducible refine' xt18 ?_ | with_reducible refine' xt19 ?_ | with_reducible refine' xt20 ?_ | with_reducible refine' xt21 ?_ | with_reducible refine' xt22 ?_ | with_reducible refine' xt23 ?_ | with_reducible refine' xt24 ?_ | with_reducible refine' xt25 ?_ | with_reducible refine' xt26 ?_ | with_reducible refine' xt27 ?_ | with_reducible refine' xt28 ?_ | with_reducible refine' xt29 ?_ | with_reducible refine' xt30 ?_ | with_reducible refine' xt38 ?_ | with_reducible refine' xt41 ?_ | with_reducible refine' xt44 ?_ | with_reducible refine' xt46 ?_ | with_reducible refine' xt50 ?_ | with_reducible refine' xt60 ?_
  | with_reducible refine' xp1 ?_ | with_reducible refine' xp2 ?_ | with_reducible refine' xp21 ?_ | with_reducible refine' xp3 ?_ | with_reducible refine' xp321 ?_
  | with_reducible refine' xp4 ?_ | with_reducible refine' xp4321 ?_ | with_reducible refine' xp5 ?_ | with_reducible refine' xp54321 ?_ | with_reducible refine' xp6 ?_ | with_reducible refine' xp0 ?_)
local macro_rules | `(tactic| walk_at "s") => `(tactic| first
  | ((with_reducible refine' wn_s ?w1 ?_); (case w1 => walk_at "set"))
  | ((with_reducible refine' ws_asg ?w1 ?_); (case w1 => exact rfl))
  | ((with_reducible refine' ws_own ?w1 ?_); (case w1 => exact rfl))
  | with_reducible refine' ws_par ?_
  | ((with_reducible refine' ws_aug ?w1 ?w2 ?_); (case w1 => exact rfl); (case w2 => exact rfl))
  | with_reducible refine' ws_unp ?_
  | ((with_reducible refine' ws_sub ?w1 ?_); (case w1 => exact rfl))
  | ((with_reducible refine' ws_app ?w1 ?_); (case w1 => exact rfl))
  | with_reducible refine' ws_exp ?_
  | with_reducible refine' ws_pas ?_
  | with_reducible refine' ws_iff ?_
  | with_reducible refine' ws_ret ?_
  | with_reducible refine' ws_retO ?_
  | with_reducible refine' ws_retN ?_
  | ((with_reducible refine' ws_retV ?w1 ?_); (case w1 => exact rfl))
  | ((with_reducible refine' ws_retVO ?w1 ?w2 ?_); (case w1 => exact rfl); (case w2 => exact rfl))
  | with_reducible refine' ws_nilq ?_
  | with_reducible refine' ws_nill ?_
  | with_reducible refine' ws_nil ?_)
local macro_rules | `(tactic| walk_at "w") => `(tactic| (repeat' (first | walk_at "e" | walk_at "s" | walk_at "x")))
local macro_rules | `(tactic| walk_at "pk") => `(tactic| (repeat' (first | exact fun _ hx => absurd hx (List.not_mem_nil) | refine List.forall_mem_cons.2 ⟨?_, ?_⟩)))
local macro_rules | `(tactic| walk_at "bdu") => `(tactic| (refine' Bd.up ?m1 ?m2; (case m1 => walk_at "bd"); (case m2 => decide)))
local macro_rules | `(tactic| walk_at "len") => `(tactic| (simp only [List.length_cons, List.length_nil]; omega))
variable {n : Nat} {P S L : Int} {d : Str}
def thD (n : Nat) (P S L : Int) (d : Str) : List D := match calN tbl (n + 1) "_law_things" [dsp P S L d] with
  | .ok (.list xs) none => xs
  | _ => []
def isOkL : CR → Bool
  | .ok (.list _) none => true
  | _ => false
theorem th_ok : isOkL (calN tbl (n + 1) "_law_things" [dsp P S L d]) = true := by kernel_rfl
theorem th_val : calN tbl (n + 1) "_law_things" [dsp P S L d] = .ok (.list (thD n P S L d)) none := by
  have h := th_ok (n := n) (P := P) (S := S) (L := L) (d := d)
  unfold thD
  revert h
  generalize calN tbl (n + 1) "_law_things" [dsp P S L d] = r
  intro h
  unfold isOkL at h
  split at h
  · rfl
  · cases h
/-! a list of truths, one of them or none true -/
def rowB (k q : Nat) : List D := (List.range k).map fun j => .bool (decide (j = q))
def isI? : Option D → Option Int
  | some (.int i) => some i
  | _ => none
theorem isI_of {o : Option D} {i : Int} (h : isI? o = some i) : o = some (.int i) := by
  unfold isI? at h
  split at h
  · cases h; rfl
  · cases h
def tB (x : D) : Bool := truD x == some true
def rowK (k q : Nat) : Bool := (cmpD .In (.bool true) (.list (rowB k q)) == some (decide (q < k))) && (decide (k ≤ q) || isI? (mthD .index (.list (rowB k q)) [.bool true]) == some (q : Int)) && decide (((rowB k q).filter tB).length ≤ 1) && recv .index (.list (rowB k q))
theorem row_k : ∀ k < 9, ∀ q < 9, rowK k q = true := by decide +kernel
theorem row_facts {k q : Nat} (hk : k ≤ 8) (hq : q ≤ 8) : cmpD .In (.bool true) (.list (rowB k q)) = some (decide (q < k)) ∧ (q < k → mthD .index (.list (rowB k q)) [.bool true] = some (.int q)) ∧ ((rowB k q).filter tB).length ≤ 1 ∧ recv .index (.list (rowB k q)) = true := by
  have h := row_k k (by omega) q (by omega)
  unfold rowK at h
  simp only [Bool.and_eq_true, Bool.or_eq_true, beq_iff_eq, decide_eq_true_eq] at h
  obtain ⟨⟨⟨h1, h2⟩, h3⟩, h4⟩ := h
  exact ⟨h1, fun z => isI_of (h2.resolve_left (by omega)), h3, h4⟩
theorem row_bool {k q : Nat} {x : D} (h : x ∈ rowB k q) : ∃ b, x = .bool b := by
  obtain ⟨j, _, rfl⟩ := List.mem_map.mp h
  exact ⟨_, rfl⟩
/-- the place that is lit -/
def plN (P S L t : Int) : Nat := if t % (P * S) % S < L then (t % (P * S) / S).toNat else P.toNat
theorem tick_at (v : Val P S L d) (t : Int) : ∃ T p a : Int, t = T * (P * S) + p * S + a ∧ 0 ≤ p ∧ p < P ∧ 0 ≤ a ∧ a < S ∧ t % (P * S) / S = p ∧ t % (P * S) % S = a := by
  have s1 := v.s1
  have sR := v.sR.2
  have u0 := Int.emod_nonneg t (show P * S ≠ 0 by omega)
  have u1 := Int.emod_lt_of_pos t sR
  have e := Lit.split t (P * S)
  have e2 := Lit.split (t % (P * S)) S
  have a0 := Int.emod_nonneg (t % (P * S)) (show S ≠ 0 by omega)
  have a1 := Int.emod_lt_of_pos (t % (P * S)) (show 0 < S by omega)
  have p0 := Int.ediv_nonneg u0 (show 0 ≤ S by omega)
  have p1 : t % (P * S) / S < P := Int.ediv_lt_of_lt_mul (by omega) u1
  exact ⟨t / (P * S), t % (P * S) / S, t % (P * S) % S, by omega, p0, p1, a0, a1, rfl, rfl⟩
theorem lit_iff (v : Val P S L d) {j : Int} (h0 : 0 ≤ j) (h1 : j < P) (t : Int) : (t - j * S) % (P * S) < L ↔ j = (plN P S L t : Int) := by
  have s1 := v.s1
  have l1 := v.l1
  have l2 := v.l2
  obtain ⟨T, p, a, e, p0, p1, a0, a1, e1, e2⟩ := tick_at v t
  have hpl : (plN P S L t : Int) = if a < L then p else P := by
    unfold plN
    rw [e1, e2]
    split
    · exact Int.toNat_of_nonneg p0
    · exact Int.toNat_of_nonneg (by omega)
  rw [hpl]
  have hj : t - j * S = T * (P * S) + ((p - j) * S + a) := by rw [Int.sub_mul]; omega
  rcases Int.lt_trichotomy j p with h | h | h
  · have k1 := Lit.mul_le (show 1 ≤ p - j by omega) (show 0 ≤ S by omega)
    have k2 := Lit.mul_le (show p - j + 1 ≤ P by omega) (show 0 ≤ S by omega)
    rw [Int.add_mul] at k2
    have := (Lit.div_of (R := P * S) (q := T) (u := t - j * S) (r := (p - j) * S + a) (by omega) (by omega) hj).2
    rw [this]
    split <;> omega
  · subst h
    have k2 := Lit.mul_le (show 1 ≤ P by omega) (show 0 ≤ S by omega)
    have := (Lit.div_of (R := P * S) (q := T) (u := t - j * S) (r := a) a0 (by omega) (by rw [hj, Int.sub_self]; omega)).2
    rw [this]
    split <;> omega
  · have k1 := Lit.mul_le (show 1 ≤ P + p - j by omega) (show 0 ≤ S by omega)
    have k2 := Lit.mul_le (show P + p - j + 1 ≤ P by omega) (show 0 ≤ S by omega)
    rw [Int.add_mul] at k2
    have := (Lit.div_of (R := P * S) (q := T - 1) (u := t - j * S) (r := (P + p - j) * S + a) (by omega) (by omega) (by
      rw [hj, Int.sub_mul T, show P + p - j = P + (p - j) by omega, Int.add_mul P]
      omega)).2
    rw [this]
    split <;> omega
theorem plN_le (v : Val P S L d) (t : Int) : plN P S L t ≤ P.toNat := by
  obtain ⟨T, p, a, e, p0, p1, a0, a1, e1, e2⟩ := tick_at v t
  unfold plN
  rw [e1, e2]
  split <;> omega
theorem plc_eq (v : Val P S L d) (t : Int) : Ev.plc P S L t = if plN P S L t < P.toNat then .int (plN P S L t : Int) else .none := by
  obtain ⟨T, p, a, e, p0, p1, a0, a1, e1, e2⟩ := tick_at v t
  unfold plN Ev.plc
  rw [e1, e2]
  by_cases h : a < L
  · rw [if_pos h, if_pos h, if_pos (by omega), Int.toNat_of_nonneg p0]
  · rw [if_neg h, if_neg h, if_neg (by omega)]
/-- the row of a tick -/
def gB (P S L t : Int) : D → D
  | .int j => .bool (decide ((t - j * S) % (P * S) < L))
  | x => x
theorem row_eq (v : Val P S L d) (t : Int) : ((rngL 0 P).filter fun _ => true).map (gB P S L t) = rowB P.toNat (plN P S L t) := by
  rw [List.filter_eq_self.mpr (fun _ _ => rfl)]
  unfold rngL rowB
  rw [List.map_map, Int.sub_zero]
  refine List.map_congr_left fun k hk => ?_
  have hk' := List.mem_range.mp hk
  show PyData.bool _ = PyData.bool _
  congr 1
  have := lit_iff v (j := 0 + (k : Int)) (by omega) (by omega) t
  rw [decide_eq_decide, this]
  omega
theorem own_val (v : Val P S L d) {j : Int} (h0 : 0 ≤ j) (h1 : j < P) (t : Int) : calN tbl (n + 1) "_law_is_lit" [dsp P S L d, .int j, .int t] = .ok (.bool (decide ((t - j * S) % (P * S) < L))) none := by
  rw [lk_run k_law_is_lit rfl]
  have m1 := mul_sm (j := S) (smG_le8 h0 (by have := v.p8; omega))
  have m2 := mul_sm (j := S) (smG_le8 (i := P) (by have := v.p1; omega) v.p8)
  have m3 := opD_mod (i := t - j * S) v.sR.2
  simp [c__law_is_lit, evB, evS, evT, ev, evA, evO, evC, Rs.st, Rs.bind, ofO, SR.seq, set0, ofS, setTg, setMany, truR, truD, callR, permD, outR, oldR, nons, List.replicate, lim, idx_p, idx_s, idx_l, o_sub, m1, m2, m3, c_lt, int_val]
def tlC : List CS := [.iff (.or (.cmp .NotEq (.rpo 4) (.rpo 3)) (.cmp .NotEq (.blt .repr [(.call "lit_place" [1, 0] [(.var 2), (.var 0)])]) (.rpo 5))) [.ret (.cst (PyData.bool false))] [], .iff (.cmp .Gt (.blt .len [(.comp 9 [(.var 3)] [7] true [7] (some (.var 7)) (.var 7))]) (.cst (PyData.int 1))) [.ret (.cst (PyData.bool false))] []]
theorem tail_val {t : Int} {x1 x5 : D} {rows : List D} {Q : SR → Prop} (LP : calN tbl (n + 5) "lit_place" [dsp P S L d, .int t] = .ok x5 none) (f5 : Rq (.list rows) 60 1) (f3 : (List.filter tB rows).length ≤ 1) (f7 : ∀ x ∈ rows, ∃ b, x = .bool b) (f8 : Rq x5 60 1) (f6 : rows.length ≤ 8)
    (hq : Q (.nx [some (dsp P S L d, false), some (x1, false), some (.int t, false), some (.list rows, false), some (.list rows, true), some (x5, false), none, none])) :
    WS (evB (calN tbl (n + 5)) false tlC [some (dsp P S L d, false), some (x1, false), some (.int t, false), some (.list rows, false), some (.list rows, true), some (x5, false), none, none]) Q := by
  have r1 := f5.repr (by decide) (by decide)
  have r2 := f8.repr (by decide) (by decide)
  unfold tlC
  refine ws_iff ?_
  refine we_or ?_
  walk_at "w"
  refine ⟨_, r1, ?_⟩
  walk_at "w"
  refine ⟨_, r1, ?_⟩
  walk_at "w"
  refine we_ret LP ?_
  walk_at "w"
  refine ⟨_, r2, ?_⟩
  walk_at "w"
  refine ⟨_, r2, ?_⟩
  walk_at "w"
  refine wc_pure tB id ?_
  walk_at "w"
  refine ⟨_, rfl, rfl, by show rows.length ≤ 100000; omega, rfl, ?_, ?_⟩
  · intro x hx
    obtain ⟨b, rfl⟩ := f7 x hx
    refine ⟨_, rfl, ?_, fun _ => ?_, rfl⟩
    · refine evC_some ?_
      walk_at "w"
      exact ⟨by cases b <;> rfl, rfl⟩
    · walk_at "w"
      exact ⟨rfl, rfl⟩
  · walk_at "w"
    refine dec_both (fun h => ?_) (fun h => ?_)
    · rw [List.length_map] at h
      omega
    · walk_at "w"
      exact hq
theorem ticks_val (v : Val P S L d) (hS : S ≤ 12) : calN tbl (n + 6) "_law_ticks_right" [dsp P S L d] = .ok (.bool true) none := by
  refine wc_run (P := fun z => z = .ok (.bool true) none) k_law_ticks_right rfl ?_
  show WS (evB (calN tbl (n + 5)) false c__law_ticks_right [some (dsp P S L d, false), none, none, none, none, none, none, none]) _
  have p1 := v.p1
  have p8 := v.p8
  have s1 := v.s1
  have r1 : P * S ≤ 96 := by
    have := Int.mul_le_mul p8 hS (by omega) (by omega)
    omega
  have r0 := v.sR.2
  have m2 := mul_sm (j := S) (smG_le8 (i := P) (by omega) p8)
  have bR : Bd 20 (P * S) := by unfold Bd; omega
  unfold c__law_ticks_right
  walk_at "w"
  refine ⟨_, m2, ?_⟩
  walk_at "w"
  refine we_ret (round_of_val (n := n + 1) kT k_round_of v) ?_
  walk_at "w"
  refine ws_fr (fun _ ρ => ∃ o2 o3 o4 o5, ρ = [some (dsp P S L d, false), some (.int (P * S), false), o2, o3, o4, o5, none, none]) ?_
  walk_at "w"
  refine ⟨_, rfl, ⟨_, _, _, _, rfl⟩, ?_, ?_⟩
  · rintro k x ρ hx ⟨o2, o3, o4, o5, rfl⟩
    obtain ⟨t, rfl⟩ : ∃ t, x = .int t := by
      obtain ⟨j, _, e⟩ := List.mem_map.mp (List.mem_of_getElem? hx)
      exact ⟨_, e.symm⟩
    clear hx
    refine ⟨_, rfl, ?_⟩
    have inr : ∀ x ∈ rngL 0 P, ∃ j, x = .int j ∧ 0 ≤ j ∧ j < P := fun x hx => by
      obtain ⟨j, hj, e⟩ := List.mem_map.mp hx
      have := List.mem_range.mp hj
      exact ⟨_, e.symm, by omega, by omega⟩
    have ln : (rngL 0 P).length ≤ 100000 := by
      unfold rngL
      rw [List.length_map, List.length_range]
      omega
    have RE := row_eq v t
    obtain ⟨f1, f2, f3, f4⟩ := row_facts (k := P.toNat) (q := plN P S L t) (by omega) (by have := plN_le v t; omega)
    have f5 : Rq (.list (rowB P.toNat (plN P S L t))) 60 1 := (rq_list (w := 5) (k := 0) (m := 8) (fun x hx => by obtain ⟨b, rfl⟩ := row_bool hx; exact rq_bool b) (by unfold rowB; rw [List.length_map, List.length_range]; omega)).up (by decide) (by decide)
    have f6 : (rowB P.toNat (plN P S L t)).length ≤ 8 := by unfold rowB; rw [List.length_map, List.length_range]; omega
    have f7 : ∀ x ∈ rowB P.toNat (plN P S L t), ∃ b, x = .bool b := fun x hx => row_bool hx
    have PE := plc_eq v t
    have LP := lit_place_val (n := n + 1) kT k_place_at k_lit_place v t
    rw [PE] at LP
    have hq1 := plN_le v t
    generalize rowB P.toNat (plN P S L t) = rows at *
    generalize plN P S L t = q at *
    walk_at "w"
    refine wc_pure (fun _ => true) (gB P S L t) ?_
    walk_at "w"
    refine ⟨_, rfl, rfl, ln, rfl, ?_, ?_⟩
    · intro x hx
      obtain ⟨j, rfl, j0, j1⟩ := inr x hx
      refine ⟨_, rfl, ⟨rfl, rfl⟩, fun _ => ?_, rfl⟩
      walk_at "w"
      refine we_ret (own_val (n := n + 4) v j0 j1 t) ?_
      exact ⟨rfl, rfl⟩
    rw [RE]
    walk_at "w"
    refine wc_pure (fun _ => true) (gB P S L t) ?_
    walk_at "w"
    refine ⟨_, rfl, rfl, ln, rfl, ?_, ?_⟩
    · intro x hx
      obtain ⟨j, rfl, j0, j1⟩ := inr x hx
      refine ⟨_, rfl, ⟨rfl, rfl⟩, fun _ => ?_, rfl⟩
      walk_at "w"
      refine we_ret (is_lit_val (n := n) kT k_is_lit v j0 j1 t) ?_
      exact ⟨rfl, rfl⟩
    rw [RE]
    clear RE inr ln
    walk_at "w"
    refine ⟨_, f1, _, rfl, fun z => ?_, fun z => ?_⟩
    · have hqq := of_decide_eq_true z
      rw [if_pos hqq] at LP
      walk_at "w"
      refine ⟨f4, ?_⟩
      walk_at "w"
      refine ⟨_, f2 hqq, ?_⟩
      refine tail_val LP f5 f3 f7 ((rq_int (i := (q : Int)) (n := 10) (by unfold Bd; omega) (by decide)).up (by decide) (by decide)) f6 ?_
      exact ⟨_, _, _, _, rfl⟩
    · have hqq : ¬ q < P.toNat := of_decide_eq_false z
      rw [if_neg hqq] at LP
      refine we_cst ?_
      refine tail_val LP f5 f3 f7 (rq_non.up (by decide) (by decide)) f6 ?_
      exact ⟨_, _, _, _, rfl⟩
  · rintro ρ ⟨o2, o3, o4, o5, rfl⟩
    walk_at "w"
    rfl
end K05


set_option Elab.async false
set_option linter.all false
set_option maxRecDepth 100000
set_option maxHeartbeats 4000000
namespace K05
set_option exponentiation.threshold 5000
open PySem PySem.Spec PyProof.Rows L2 PySem.W Ev
local macro_rules | `(tactic| walk_at "set") => `(tactic| (repeat (with_reducible refine' set_s ?_)); exact set_z)
local macro_rules | `(tactic| walk_at "bd") => `(tactic| first
  | assumption
  | exact Bd.lit (k := 400) (by decide +kernel)
  | ((with_reducible refine' Bd.add ?b1 ?b2); (case b1 => walk_at "bd"); (case b2 => walk_at "bd"))
  | ((with_reducible refine' Bd.sub ?b1 ?b2); (case b1 => walk_at "bd"); (case b2 => walk_at "bd"))
  | ((with_reducible refine' Bd.mul ?b1 ?b2); (case b1 => walk_at "bd"); (case b2 => walk_at "bd"))
  | ((with_reducible refine' Bd.neg ?b1); (case b1 => walk_at "bd"))
  | ((with_reducible refine' Bd.pow3 ?b1); (case b1 => walk_at "bd"))
  | ((with_reducible refine' Bd.pow2 ?b1); (case b1 => walk_at "bd"))
  | ((with_reducible refine' Bd.modP ?m1 ?m2); (case m1 => walk_at "bd"); (case m2 => first | decide | omega))
  | ((with_reducible refine' Bd.div ?m1 ?m2); (case m1 => walk_at "bd"); (case m2 => first | decide | omega)))
local macro_rules | `(tactic| walk_at "mul") => `(tactic| first
  | exact mulS1 (by decide) | exact mulS2 (by decide)
  | exact mulS1 (by assumption) | exact mulS2 (by assumption)
  | (refine' mulB ?m1 ?m2 ?m3 ?m4; (case m1 => walk_at "bd"); (case m2 => walk_at "bd"); (case m3 => decide); (case m4 => decide)))
local macro_rules | `(tactic| walk_at "big") => `(tactic| first
  | assumption
  | decide
  | (refine' Bd.big ?m1 ?m2; (case m1 => walk_at "bd"); (case m2 => decide)))
local macro_rules | `(tactic| walk_at "e") => `(tactic| first
  | ((with_reducible refine' we_var ?w1 ?_); (case w1 => exact rfl))
  | ((with_reducible refine' we_varO ?w1 ?w2 ?_); (case w1 => exact rfl); (case w2 => exact rfl))
  | with_reducible refine' we_cst ?_
  | with_reducible refine' we_gcn ?_
  | with_reducible refine' we_bin ?_
  | with_reducible refine' we_cmp ?_
  | ((with_reducible refine' we_idv ?w1 ?_); (case w1 => exact rfl))
  | ((with_reducible refine' we_idvO ?w1 ?_); (case w1 => exact rfl))
  | with_reducible refine' we_call ?_
  | ((with_reducible refine' we_cio ?w1 ?_); (case w1 => exact rfl))
  | with_reducible refine' we_cfo ?_
  | with_reducible refine' we_blt ?_
  | with_reducible refine' we_nil ?_
  | with_reducible refine' we_cons ?_
  | ((with_reducible refine' wn_e ?w1 ?_); (case w1 => walk_at "set"))
  | ((with_reducible refine' wn_a ?w1 ?_); (case w1 => walk_at "set"))
  | ((with_reducible refine' wn_p ?w1 ?_); (case w1 => walk_at "set"))
  | ((with_reducible refine' wn_o ?w1 ?_); (case w1 => walk_at "set"))
  | with_reducible refine' we_tup ?_
  | with_reducible refine' we_lst ?_
  | with_reducible refine' we_idx ?_
  | with_reducible refine' we_not ?_
  | with_reducible refine' we_neg ?_
  | with_reducible refine' we_chn ?_
  | with_reducible refine' we_ite ?_
  | with_reducible refine' we_isi ?_
  | with_reducible refine' we_slc ?_
  | with_reducible refine' we_rev ?_
  | with_reducible refine' we_lr1 ?_
  | with_reducible refine' we_lr2 ?_
  | with_reducible refine' we_mnd ?_
  | with_reducible refine' we_gcd ?_
  | with_reducible refine' we_srs ?_
  | with_reducible refine' we_mth ?_
  | with_reducible refine' we_dct ?_
  | with_reducible refine' we_comp ?_
  | ((with_reducible refine' we_rpo ?w1 ?_); (case w1 => exact rfl))
  | with_reducible refine' evO_none ?_
  | with_reducible refine' evO_some ?_
  | with_reducible refine' wo_lst ?_
  | with_reducible refine' wo_comp ?_
  | with_reducible refine' wo_list ?_
  | with_reducible refine' wo_srt ?_
  | with_reducible refine' wo_ite ?_
  | with_reducible refine' wo_call ?_
  | ((with_reducible refine' wo_cio ?w1 ?_); (case w1 => exact rfl))
  | with_reducible refine' wp_nil ?_
  | with_reducible refine' wp_own ?_
  | with_reducible refine' wp_ev ?_)
local macro_rules | `(tactic| walk_at "x") => `(tactic| first
  | with_reducible refine' ex_add ?_
  | ((with_reducible refine' ex_cat ?w1 ?_); (case w1 => first | (simp only [List.length_append, List.length_cons, List.length_nil]; omega)))
  | with_reducible refine' ex_sub ?_
  | with_reducible refine' ex_augA ?_
  | with_reducible refine' ex_augS ?_
  | ((with_reducible refine' ex_mul ?w1 ?_); (case w1 => walk_at "mul"))
  | ((with_reducible refine' ex_mod ?w1 ?_); (case w1 => first | decide | omega))
  | ((with_reducible refine' ex_fdiv ?w1 ?w2 ?_); (case w1 => first | decide | omega); (case w2 => walk_at "big"))
  | with_reducible refine' xo_tru ?_
  | with_reducible refine' xo_bool ?_
  | with_reducible refine' xo_int ?_
  | ((with_reducible refine' xo_at ?w1 ?_); (case w1 => exact rfl))
  | ((with_reducible refine' xo_atL ?w1 ?_); (case w1 => exact rfl))
  | ((with_reducible refine' xo_ix ?w1 ?_); (case w1 => exact rfl))
  | ((with_reducible refine' xo_tg ?w1 ?_); (case w1 => exact rfl))
  | ((with_reducible refine' xo_pa ?w1 ?_); (case w1 => exact rfl))
  | ((with_reducible refine' xo_sub0 ?w1 ?w2 ?_); (case w1 => exact rfl); (case w2 => first | decide | omega))
  | ((with_reducible refine' xo_sub1 ?w1 ?w2 ?_); (case w1 => exact rfl); (case w2 => first | decide | omega))
  | ((with_reducible refine' xo_sub2 ?w1 ?w2 ?_); (case w1 => exact rfl); (case w2 => first | decide | omega))
  | ((with_reducible refine' xo_sub ?w1 ?w2 ?_); (case w1 => exact rfl); (case w2 => exact rfl))
  | ((with_reducible refine' xo_app ?w1 ?w2 ?_); (case w1 => exact rfl); (case w2 => first | decide | (simp only [List.length_append, List.length_cons, List.length_nil]; omega)))
  | with_reducible refine' xb_int ?_
  | with_reducible refine' xb_max ?_
  | with_reducible refine' xb_min ?_
  | with_reducible refine' xb_abs ?_
  | with_reducible refine' xb_len ?_
  | with_reducible refine' xb_lenT ?_
  | with_reducible refine' xn_neg ?_
  | ((with_reducible refine' xb_divmod ?w1 ?w2 ?_); (case w1 => first | decide | omega); (case w2 => walk_at "big"))
  | ((with_reducible refine' xl ?w1 ?_); (case w1 => first | (simp only [List.length_append, List.length_cons, List.length_nil]; omega)))
  | ((with_reducible refine' xl' ?w1 ?_); (case w1 => first | (simp only [List.length_append, List.length_cons, List.length_nil]; omega)))
  | with_reducible refine' x_rr ?_
  | with_reducible refine' xi_int ?_
  | with_reducible refine' xi_bool ?_
  | ((with_reducible refine' nt_pos ?_))
  | ((with_reducible refine' nt_neg ?_))
  | ((with_reducible refine' tf_pos ?_))
  | ((with_reducible refine' tf_neg ?_))
  | ((with_reducible refine' dec_pos ?w1 ?_); (case w1 => first | with_reducible rfl | assumption | omega))
  | ((with_reducible refine' dec_neg ?w1 ?_); (case w1 => first | with_reducible rfl | assumption | omega))
  | ((with_reducible refine' ndec_pos ?w1 ?_); (case w1 => first | with_reducible rfl | assumption | omega))
  | ((with_reducible refine' ndec_neg ?w1 ?_); (case w1 => first | with_reducible rfl | assumption | omega))
  | with_reducible refine' ex_lt ?_
  | with_reducible refine' ex_le ?_
  | with_reducible refine' ex_gt ?_
  | with_reducible refine' ex_ge ?_
  | with_reducible refine' ex_eq ?_
  | with_reducible refine' ex_ne ?_
  | with_reducible refine' ex_eqS ?_
  | with_reducible refine' ex_neS ?_
  | ((with_reducible refine' ex_reprI ?w1 ?_); (case w1 => first | (refine' Bd.up ?m1 ?m2); (case m1 => walk_at "bd"); (case m2 => decide)))
  | with_reducible refine' ex_reprB ?_
  | ((with_reducible refine' xq3 ?w1 ?_); (case w1 => walk_at "big"))
  | ((with_reducible refine' xq2 ?w1 ?_); (case w1 => walk_at "big"))
  | first | with_reducible refine' xt2 ?_ | with_reducible refine' xt3 ?_ | with_reducible refine' xt4 ?_ | with_reducible refine' xt5 ?_ | with_reducible refine' xt6 ?_ | with_reducible refine' xt7 ?_ | with_reducible refine' xt8 ?_ | with_reducible refine' xt9 ?_ | with_reducible refine' xt10 ?_ | with_reducible refine' xt12 ?_ | with_reducible refine' xt16 ?_ | with_reducible refine' xt17 ?_ | with_reducible refine' xt18 ?_ | with_reducible refine' xt19 ?_ | with_reducible refine' xt20 ?_ | with_reducible refine' xt21 ?_ | with_reducible refine' xt22 ?_ | with_reducible refine' xt23 ?_ | with_reducible refine' xt24 ?_ | with_reducible refine' xt25 ?_ | with_reducible refine' xt26 ?_ | with_reducible refine' xt27 ?_ | with_reducible refine' xt28 ?_ | with_reducible refine' xt29 ?_ | with_reducible refine' xt30 ?_ | with_reducible refine' xt38 ?_ | with_reducible refine' xt41 ?_ | with_reducible refine' xt44 ?_ | with_reducible refine' xt46 ?_ | with_reducible refine' xt50 ?_ | with_reducible refine' xt60 ?_
  | with_reducible refine' xp1 ?_ | with_reducible refine' xp2 ?_ | with_reducible refine' xp21 ?_ | with_reducible refine' xp3 ?_ | with_reducible refine' xp321 ?_
  | with_reducible refine' xp4 ?_ | with_reducible refine' xp4321 ?_ | with_reducible refine' xp5 ?_ | with_reducible refine' xp54321 ?_ | with_reducible refine' xp6 ?_ | with_reducible refine' xp0 ?_)
local macro_rules | `(tactic| walk_at "s") => `(tactic| first
  | ((with_reducible refine' wn_s ?w1 ?_); (case w1 => walk_at "set"))
  | ((with_reducible refine' ws_asg ?w1 ?_); (case w1 => exact rfl))
  | ((with_reducible refine' ws_own ?w1 ?_); (case w1 => exact rfl))
  | with_reducible refine' ws_par ?_
  | ((with_reducible refine' ws_aug ?w1 ?w2 ?_); (case w1 => exact rfl); (case w2 => exact rfl))
  | with_reducible refine' ws_unp ?_
  | ((with_reducible refine' ws_sub ?w1 ?_); (case w1 => exact rfl))
  | ((with_reducible refine' ws_app ?w1 ?_); (case w1 => exact rfl))
  | with_reducible refine' ws_exp ?_
  | with_reducible refine' ws_pas ?_
  | with_reducible refine' ws_iff ?_
  | with_reducible refine' ws_ret ?_
  | with_reducible refine' ws_retO ?_
  | with_reducible refine' ws_retN ?_
  | ((with_reducible refine' ws_retV ?w1 ?_); (case w1 => exact rfl))
  | ((with_reducible refine' ws_retVO ?w1 ?w2 ?_); (case w1 => exact rfl); (case w2 => exact rfl))
  | with_reducible refine' ws_nilq ?_
  | with_reducible refine' ws_nill ?_
  | with_reducible refine' ws_nil ?_)
local macro_rules | `(tactic| walk_at "w") => `(tactic| (repeat' (first | walk_at "e" | walk_at "s" | walk_at "x")))
local macro_rules | `(tactic| walk_at "pk") => `(tactic| (repeat' (first | exact fun _ hx => absurd hx (List.not_mem_nil) | refine List.forall_mem_cons.2 ⟨?_, ?_⟩)))
local macro_rules | `(tactic| walk_at "bdu") => `(tactic| (refine' Bd.up ?m1 ?m2; (case m1 => walk_at "bd"); (case m2 => decide)))
local macro_rules | `(tactic| walk_at "len") => `(tactic| (simp only [List.length_cons, List.length_nil]; omega))
variable {n : Nat} {P S L : Int} {d : Str}
theorem we_dr {ρ : Ro} {i C : Nat} {s : List D} {m : Int} {Q : D → Ro → Prop} (hs : SrcOk C s) (hC : C < 2 ^ 60) (hm : 0 < m) (bm : Bd 4096 m)
    (q : ∀ r s', 0 ≤ r → r < m → SrcOk (C + 1) s' → Q (.int r) (ρ.set i (some (.list s', true)))) : WE (cioR i (calN tbl (n + 1) "_law_draw" (.list s :: [.int m])) ρ) Q := by
  obtain ⟨r, s', e, h0, h1, h2⟩ := draw_lk (n := n) k_law_draw hC hs hm bm
  exact we_cioR e (q r s' h0 h1 h2)
def pW (P S L j : Int) : D → Bool
  | .int t => decide ((t - j * S) % (P * S) < L)
  | _ => false
theorem win_len (v : Val P S L d) (j a b : Int) : ((((rngL a b).filter (pW P S L j)).length : Nat) : Int) = win P S L j a b := by
  have l1 := v.l1
  have l2 := v.l2
  have hR : L ≤ P * S := by
    have := Lit.mul_le v.p1 (show 0 ≤ S by have := v.s1; omega)
    omega
  have hl := congrArg List.length (Lit.lit_list (L := L) (R := P * S) (by omega) hR (a - j * S) (b - a).toNat)
  rw [List.filter_map, List.length_map, List.length_map, List.length_range] at hl
  have e : (rngL a b).filter (pW P S L j) = ((List.range (b - a).toNat).filter ((fun v => decide (v % (P * S) < L)) ∘ fun k : Nat => a - j * S + (k : Int))).map fun (k : Nat) => PyData.int (a + k) := by
    unfold rngL
    rw [List.filter_map]
    congr 1
    refine List.filter_congr fun k _ => ?_
    show decide _ = decide _
    rw [show a + (k : Int) - j * S = a - j * S + (k : Int) by omega]
  rw [e, List.length_map, hl]
  have mo := Lit.cnt_add (L := L) (R := P * S) (by omega) hR (a - j * S) (b - a).toNat
  unfold win ahd
  split
  · rw [show a - j * S + ((b - a).toNat : Int) = b - j * S by omega] at mo ⊢
    omega
  · rw [show (b - a).toNat = 0 by omega] at mo ⊢
    omega
theorem windows_val (v : Val P S L d) (hS : S ≤ 12) {C : Nat} (hC : C + 100 < 2 ^ 60) {s : List D} (hs : SrcOk C s) : ∃ s', calN tbl (n + 6) "_law_windows_right" [.list s, dsp P S L d] = .ok (.bool true) (some (.list s')) ∧ SrcOk (C + 48) s' := by
  refine wc_runL (P := fun z => ∃ s', z = .ok (.bool true) (some (.list s')) ∧ SrcOk (C + 48) s') k_law_windows_right rfl ?_
  show WS (evB (calN tbl (n + 5)) true c__law_windows_right [some (.list s, true), some (dsp P S L d, false), none, none, none, none, none, none, none]) _
  have p1 := v.p1
  have p8 := v.p8
  have s1 := v.s1
  have r1 : P * S ≤ 96 := by
    have := Int.mul_le_mul p8 hS (by omega) (by omega)
    omega
  have r0 := v.sR.2
  have m2 := mul_sm (j := S) (smG_le8 (i := P) (by omega) p8)
  have bR : Bd 20 (P * S) := by unfold Bd; omega
  unfold c__law_windows_right
  walk_at "w"
  refine ⟨_, m2, ?_⟩
  walk_at "w"
  refine ws_fr (fun i ρ => ∃ s o3 o4 o5 o6 o7, ρ = [some (.list s, true), some (dsp P S L d, false), some (.int (P * S), false), o3, o4, o5, o6, o7, none] ∧ SrcOk (C + 4 * i) s) ?_
  walk_at "w"
  refine ⟨_, rfl, ⟨s, _, _, _, _, _, rfl, hs⟩, ?_, ?_⟩
  · clear hs
    rintro i x ρ hx ⟨s, o3, o4, o5, o6, o7, rfl, hs⟩
    obtain ⟨rfl, hi⟩ := rng_at' hx
    refine ⟨_, rfl, ?_⟩
    walk_at "w"
    refine we_dr hs (by omega) (by omega) (v.pb.up (by decide)) fun j s1 a1 b1 h1 => ?_
    walk_at "w"
    refine we_dr h1 (by omega) (by omega) (by unfold Bd; omega) fun r s2 a2 b2 h2 => ?_
    walk_at "w"
    refine we_dr h2 (by omega) (by omega) (by unfold Bd; omega) fun m s3 a3 b3 h3 => ?_
    walk_at "w"
    refine we_dr h3 (by omega) (by decide) (by decide) fun q s4 a4 b4 h4 => ?_
    walk_at "w"
    refine ex_idx (fun x => ∃ z, x = .int z ∧ 0 ≤ z ∧ z ≤ P * S) a4 (by walk_at "len") ?_ ?_
    · walk_at "pk"
      · exact ⟨0, rfl, by omega, by omega⟩
      · exact ⟨0, rfl, by omega, by omega⟩
      · exact ⟨_, rfl, by omega, by omega⟩
    rintro x ⟨z, rfl, z0, z1⟩
    walk_at "w"
    have W := win_len v j (r - 2 * (P * S)) (r - 2 * (P * S) + m - z)
    have T := lit_ticks_val (n := n) kT k_lit_ahead k_lit_between k_lit_ticks v a1 b1 (a := r - 2 * (P * S)) (b := r - 2 * (P * S) + m - z) (by unfold Bd; omega) (by unfold Bd; omega)
    rw [← W] at T
    have ln : (rngL (r - 2 * (P * S)) (r - 2 * (P * S) + m - z)).length ≤ 100000 := by
      unfold rngL
      rw [List.length_map, List.length_range]
      omega
    have inr : ∀ x ∈ rngL (r - 2 * (P * S)) (r - 2 * (P * S) + m - z), ∃ t, x = .int t := fun x hx => by
      obtain ⟨t, _, e⟩ := List.mem_map.mp hx
      exact ⟨_, e.symm⟩
    have lf : ((rngL (r - 2 * (P * S)) (r - 2 * (P * S) + m - z)).filter (pW P S L j)).length ≤ 100000 := Nat.le_trans (List.length_filter_le _ _) ln
    clear W hx
    refine wc_pure (pW P S L j) id ?_
    walk_at "w"
    refine ⟨_, rfl, rfl, ln, rfl, ?_, ?_⟩
    · intro x hx
      obtain ⟨t, rfl⟩ := inr x hx
      refine ⟨_, rfl, ?_, fun _ => ?_, rfl⟩
      · refine evC_some ?_
        walk_at "w"
        refine we_ret (own_val (n := n + 4) v a1 b1 t) ?_
        exact ⟨_, rfl, rfl, rfl⟩
      · walk_at "w"
        exact ⟨rfl, rfl⟩
    have rp := (rq_int (i := ((((rngL (r - 2 * (P * S)) (r - 2 * (P * S) + m - z)).filter (pW P S L j)).length : Nat) : Int)) (n := 20) (by unfold Bd; omega) (by decide)).repr (by decide) (by decide)
    rw [List.map_id]
    generalize ((rngL (r - 2 * (P * S)) (r - 2 * (P * S) + m - z)).filter (pW P S L j)) = fl at *
    walk_at "w"
    refine we_ret T ?_
    walk_at "w"
    refine ⟨_, rp, ?_⟩
    walk_at "w"
    refine ⟨_, rp, ?_⟩
    walk_at "w"
    exact ⟨s4, _, _, _, _, _, rfl, h4⟩
  · rintro ρ ⟨s, o3, o4, o5, o6, o7, rfl, hs⟩
    walk_at "w"
    have hl : (rngL 0 12).length = 12 := by rw [rng_len']; rfl
    rw [hl] at hs
    exact ⟨s, rfl, hs⟩
end K05


set_option Elab.async false
set_option linter.all false
set_option maxRecDepth 100000
set_option maxHeartbeats 4000000
namespace K05
set_option exponentiation.threshold 5000
open PySem PySem.Spec PyProof.Rows L2 PySem.W Ev
local macro_rules | `(tactic| walk_at "set") => `(tactic| (repeat (with_reducible refine' set_s ?_)); exact set_z)
local macro_rules | `(tactic| walk_at "bd") => `(tactic| first
  | assumption
  | exact Bd.lit (k := 400) (by decide +kernel)
  | ((with_reducible refine' Bd.add ?b1 ?b2); (case b1 => walk_at "bd"); (case b2 => walk_at "bd"))
  | ((with_reducible refine' Bd.sub ?b1 ?b2); (case b1 => walk_at "bd"); (case b2 => walk_at "bd"))
  | ((with_reducible refine' Bd.mul ?b1 ?b2); (case b1 => walk_at "bd"); (case b2 => walk_at "bd"))
  | ((with_reducible refine' Bd.neg ?b1); (case b1 => walk_at "bd"))
  | ((with_reducible refine' Bd.pow3 ?b1); (case b1 => walk_at "bd"))
  | ((with_reducible refine' Bd.pow2 ?b1); (case b1 => walk_at "bd"))
  | ((with_reducible refine' Bd.modP ?m1 ?m2); (case m1 => walk_at "bd"); (case m2 => first | decide | omega))
  | ((with_reducible refine' Bd.div ?m1 ?m2); (case m1 => walk_at "bd"); (case m2 => first | decide | omega)))
local macro_rules | `(tactic| walk_at "mul") => `(tactic| first
  | exact mulS1 (by decide) | exact mulS2 (by decide)
  | exact mulS1 (by assumption) | exact mulS2 (by assumption)
  | (refine' mulB ?m1 ?m2 ?m3 ?m4; (case m1 => walk_at "bd"); (case m2 => walk_at "bd"); (case m3 => decide); (case m4 => decide)))
local macro_rules | `(tactic| walk_at "big") => `(tactic| first
  | assumption
  | decide
  | (refine' Bd.big ?m1 ?m2; (case m1 => walk_at "bd"); (case m2 => decide)))
local macro_rules | `(tactic| walk_at "e") => `(tactic| first
  | ((with_reducible refine' we_var ?w1 ?_); (case w1 => exact rfl))
  | ((with_reducible refine' we_varO ?w1 ?w2 ?_); (case w1 => exact rfl); (case w2 => exact rfl))
  | with_reducible refine' we_cst ?_
  | with_reducible refine' we_gcn ?_
  | with_reducible refine' we_bin ?_
  | with_reducible refine' we_cmp ?_
  | ((with_reducible refine' we_idv ?w1 ?_); (case w1 => exact rfl))
  | ((with_reducible refine' we_idvO ?w1 ?_); (case w1 => exact rfl))
  | with_reducible refine' we_call ?_
  | ((with_reducible refine' we_cio ?w1 ?_); (case w1 => exact rfl))
  | with_reducible refine' we_cfo ?_
  | with_reducible refine' we_blt ?_
  | with_reducible refine' we_nil ?_
  | with_reducible refine' we_cons ?_
  | ((with_reducible refine' wn_e ?w1 ?_); (case w1 => walk_at "set"))
  | ((with_reducible refine' wn_a ?w1 ?_); (case w1 => walk_at "set"))
  | ((with_reducible refine' wn_p ?w1 ?_); (case w1 => walk_at "set"))
  | ((with_reducible refine' wn_o ?w1 ?_); (case w1 => walk_at "set"))
  | with_reducible refine' we_tup ?_
  | with_reducible refine' we_lst ?_
  | with_reducible refine' we_idx ?_
  | with_reducible refine' we_not ?_
  | with_reducible refine' we_neg ?_
  | with_reducible refine' we_chn ?_
  | with_reducible refine' we_ite ?_
  | with_reducible refine' we_isi ?_
  | with_reducible refine' we_slc ?_
  | with_reducible refine' we_rev ?_
  | with_reducible refine' we_lr1 ?_
  | with_reducible refine' we_lr2 ?_
  | with_reducible refine' we_mnd ?_
  | with_reducible refine' we_gcd ?_
  | with_reducible refine' we_srs ?_
  | with_reducible refine' we_mth ?_
  | with_reducible refine' we_dct ?_
  | with_reducible refine' we_comp ?_
  | ((with_reducible refine' we_rpo ?w1 ?_); (case w1 => exact rfl))
  | with_reducible refine' evO_none ?_
  | with_reducible refine' evO_some ?_
  | with_reducible refine' wo_lst ?_
  | with_reducible refine' wo_comp ?_
  | with_reducible refine' wo_list ?_
  | with_reducible refine' wo_srt ?_
  | with_reducible refine' wo_ite ?_
  | with_reducible refine' wo_call ?_
  | ((with_reducible refine' wo_cio ?w1 ?_); (case w1 => exact rfl))
  | with_reducible refine' wp_nil ?_
  | with_reducible refine' wp_own ?_
  | with_reducible refine' wp_ev ?_)
local macro_rules | `(tactic| walk_at "x") => `(tactic| first
  | with_reducible refine' ex_add ?_
  | ((with_reducible refine' ex_cat ?w1 ?_); (case w1 => first | (simp only [List.length_append, List.length_cons, List.length_nil]; omega)))
  | with_reducible refine' ex_sub ?_
  | with_reducible refine' ex_augA ?_
  | with_reducible refine' ex_augS ?_
  | ((with_reducible refine' ex_mul ?w1 ?_); (case w1 => walk_at "mul"))
  | ((with_reducible refine' ex_mod ?w1 ?_); (case w1 => first | decide | omega))
  | ((with_reducible refine' ex_fdiv ?w1 ?w2 ?_); (case w1 => first | decide | omega); (case w2 => walk_at "big"))
  | with_reducible refine' xo_tru ?_
  | with_reducible refine' xo_bool ?_
  | with_reducible refine' xo_int ?_
  | ((with_reducible refine' xo_at ?w1 ?_); (case w1 => exact rfl))
  | ((with_reducible refine' xo_atL ?w1 ?_); (case w1 => exact rfl))
  | ((with_reducible refine' xo_ix ?w1 ?_); (case w1 => exact rfl))
  | ((with_reducible refine' xo_tg ?w1 ?_); (case w1 => exact rfl))
  | ((with_reducible refine' xo_pa ?w1 ?_); (case w1 => exact rfl))
  | ((with_reducible refine' xo_sub0 ?w1 ?w2 ?_); (case w1 => exact rfl); (case w2 => first | decide | omega))
  | ((with_reducible refine' xo_sub1 ?w1 ?w2 ?_); (case w1 => exact rfl); (case w2 => first | decide | omega))
  | ((with_reducible refine' xo_sub2 ?w1 ?w2 ?_); (case w1 => exact rfl); (case w2 => first | decide | omega))
  | ((with_reducible refine' xo_sub ?w1 ?w2 ?_); (case w1 => exact rfl); (case w2 => exact rfl))
  | ((with_reducible refine' xo_app ?w1 ?w2 ?_); (case w1 => exact rfl); (case w2 => first | decide | (simp only [List.length_append, List.length_cons, List.length_nil]; omega)))
  | with_reducible refine' xb_int ?_
  | with_reducible refine' xb_max ?_
  | with_reducible refine' xb_min ?_
  | with_reducible refine' xb_abs ?_
  | with_reducible refine' xb_len ?_
  | with_reducible refine' xb_lenT ?_
  | with_reducible refine' xn_neg ?_
  | ((with_reducible refine' xb_divmod ?w1 ?w2 ?_); (case w1 => first | decide | omega); (case w2 => walk_at "big"))
  | ((with_reducible refine' xl ?w1 ?_); (case w1 => first | (simp only [List.length_append, List.length_cons, List.length_nil]; omega)))
  | ((with_reducible refine' xl' ?w1 ?_); (case w1 => first | (simp only [List.length_append, List.length_cons, List.length_nil]; omega)))
  | with_reducible refine' x_rr ?_
  | with_reducible refine' xi_int ?_
  | with_reducible refine' xi_bool ?_
  | ((with_reducible refine' nt_pos ?_))
  | ((with_reducible refine' nt_neg ?_))
  | ((with_reducible refine' tf_pos ?_))
  | ((with_reducible refine' tf_neg ?_))
  | ((with_reducible refine' dec_pos ?w1 ?_); (case w1 => first | with_reducible rfl | assumption | omega))
  | ((with_reducible refine' dec_neg ?w1 ?_); (case w1 => first | with_reducible rfl | assumption | omega))
  | ((with_reducible refine' ndec_pos ?w1 ?_); (case w1 => first | with_reducible rfl | assumption | omega))
  | ((with_reducible refine' ndec_neg ?w1 ?_); (case w1 => first | with_reducible rfl | assumption | omega))
  | with_reducible refine' ex_lt ?_
  | with_reducible refine' ex_le ?_
  | with_reducible refine' ex_gt ?_
  | with_reducible refine' ex_ge ?_
  | with_reducible refine' ex_eq ?_
  | with_reducible refine' ex_ne ?_
  | with_reducible refine' ex_eqS ?_
  | with_reducible refine' ex_neS ?_
  | ((with_reducible refine' ex_reprI ?w1 ?_); (case w1 => first | (refine' Bd.up ?m1 ?m2); (case m1 => walk_at "bd"); (case m2 => decide)))
  | with_reducible refine' ex_reprB ?_
  | ((with_reducible refine' xq3 ?w1 ?_); (case w1 => walk_at "big"))
  | ((with_reducible refine' xq2 ?w1 ?_); (case w1 => walk_at "big"))
  | first | with_reducible refine' xt2 ?_ | with_reducible refine' xt3 ?_ | with_reducible refine' xt4 ?_ | with_reducible refine' xt5 ?_ | with_reducible refine' xt6 ?_ | with_reducible refine' xt7 ?_ | with_reducible refine' xt8 ?_ | with_reducible refine' xt9 ?_ | with_reducible refine' xt10 ?_ | with_reducible refine' xt12 ?_ | with_reducible refine' xt16 ?_ | with_reducible refine' xt17 ?_ | with_reducible refine' xt18 ?_ | with_reducible refine' xt19 ?_ | with_reducible refine' xt20 ?_ | with_reducible refine' xt21 ?_ | with_reducible refine' xt22 ?_ | with_reducible refine' xt23 ?_ | with_reducible refine' xt24 ?_ | with_reducible refine' xt25 ?_ | with_reducible refine' xt26 ?_ | with_reducible refine' xt27 ?_ | with_reducible refine' xt28 ?_ | with_reducible refine' xt29 ?_ | with_reducible refine' xt30 ?_ | with_reducible refine' xt38 ?_ | with_reducible refine' xt41 ?_ | with_reducible refine' xt44 ?_ | with_reducible refine' xt46 ?_ | with_reducible refine' xt50 ?_ | with_reducible refine' xt60 ?_
  | with_reducible refine' xp1 ?_ | with_reducible refine' xp2 ?_ | with_reducible refine' xp21 ?_ | with_reducible refine' xp3 ?_ | with_reducible refine' xp321 ?_
  | with_reducible refine' xp4 ?_ | with_reducible refine' xp4321 ?_ | with_reducible refine' xp5 ?_ | with_reducible refine' xp54321 ?_ | with_reducible refine' xp6 ?_ | with_reducible refine' xp0 ?_)
local macro_rules | `(tactic| walk_at "s") => `(tactic| first
  | ((with_reducible refine' wn_s ?w1 ?_); (case w1 => walk_at "set"))
  | ((with_reducible refine' ws_asg ?w1 ?_); (case w1 => exact rfl))
  | ((with_reducible refine' ws_own ?w1 ?_); (case w1 => exact rfl))
  | with_reducible refine' ws_par ?_
  | ((with_reducible refine' ws_aug ?w1 ?w2 ?_); (case w1 => exact rfl); (case w2 => exact rfl))
  | with_reducible refine' ws_unp ?_
  | ((with_reducible refine' ws_sub ?w1 ?_); (case w1 => exact rfl))
  | ((with_reducible refine' ws_app ?w1 ?_); (case w1 => exact rfl))
  | with_reducible refine' ws_exp ?_
  | with_reducible refine' ws_pas ?_
  | with_reducible refine' ws_iff ?_
  | with_reducible refine' ws_ret ?_
  | with_reducible refine' ws_retO ?_
  | with_reducible refine' ws_retN ?_
  | ((with_reducible refine' ws_retV ?w1 ?_); (case w1 => exact rfl))
  | ((with_reducible refine' ws_retVO ?w1 ?w2 ?_); (case w1 => exact rfl); (case w2 => exact rfl))
  | with_reducible refine' ws_nilq ?_
  | with_reducible refine' ws_nill ?_
  | with_reducible refine' ws_nil ?_)
local macro_rules | `(tactic| walk_at "w") => `(tactic| (repeat' (first | walk_at "e" | walk_at "s" | walk_at "x")))
local macro_rules | `(tactic| walk_at "pk") => `(tactic| (repeat' (first | exact fun _ hx => absurd hx (List.not_mem_nil) | refine List.forall_mem_cons.2 ⟨?_, ?_⟩)))
local macro_rules | `(tactic| walk_at "bdu") => `(tactic| (refine' Bd.up ?m1 ?m2; (case m1 => walk_at "bd"); (case m2 => decide)))
local macro_rules | `(tactic| walk_at "len") => `(tactic| (simp only [List.length_cons, List.length_nil]; omega))
def level : Nat := 9
abbrev O := Option (D × Bool)
def lapB : List CS := [.asg 2 (.cio "_law_pane" 4 [(.cst (PyData.int 8)), (.idx (.lst [(.cst (PyData.int 3)), (.cst (PyData.int 9)), (.cst (PyData.int 12))]) (.var 5))]), .iff (.or (.not (.call "_law_ticks_right" [0] [(.var 2)])) (.not (.cio "_law_windows_right" 4 [(.var 2)]))) [.ret (.cst (PyData.bool false))] []]
def thB : List CS := [.iff (.cmp .NotEq (.blt .repr [(.call "is_display" [0] [(.var 6)])]) (.blt .repr [(.call "_law_is_right" [0] [(.var 6)])])) [.ret (.cst (PyData.bool false))] []]
def atB : List CS := [.own 4 (.call "_law_source" [0, 1] [(.var 0), (.var 1)]), .fr 1 [(.cst (PyData.int 3))] [5] true lapB, .fr 9 [(.call "_law_things" [0] [(.cio "_law_pane" 4 [(.cst (PyData.int 8)), (.bin .Pow (.cst (PyData.int 10)) (.cst (PyData.int 29)))])])] [6] true thB]
def tlB : List CS := c_law.drop 1
theorem c_law_eq : c_law = .fr 1 [manyCE (5 : Nat)] [1] true atB :: tlB := by kernel_rfl
theorem last_part (sd : D) (o1 o2 o3 o4 o5 o6 : O) : ∃ ρ, evB (calN tbl 8) false tlB [some (sd, false), o1, o2, o3, o4, o5, o6, none] = .rt (.bool true) ρ := by
  apply isRT_ok
  kernel_rfl
theorem lap_val {sd ad : D} {k : Nat} (hk : k < 3) {C : Nat} (hC : C + 200 < 2 ^ 60) {s : List D} (hs : SrcOk C s) {o2 o3 o6 : O} {Q : SR → Prop}
    (hq : ∀ s' o2, SrcOk (C + 60) s' → Q (.nx [some (sd, false), some (ad, false), o2, o3, some (.list s', true), some (.int (k : Nat), false), o6, none])) :
    WS (evB (calN tbl 8) false lapB [some (sd, false), some (ad, false), o2, o3, some (.list s, true), some (.int (k : Nat), false), o6, none]) Q := by
  unfold lapB
  walk_at "w"
  refine ex_idx (fun x => ∃ z, x = .int z ∧ 1 ≤ z ∧ z ≤ 12) (by omega) (by walk_at "len") ?_ ?_
  · walk_at "pk"
    · exact ⟨3, rfl, by omega, by omega⟩
    · exact ⟨9, rfl, by omega, by omega⟩
    · exact ⟨12, rfl, by omega, by omega⟩
  rintro x ⟨z, rfl, z0, z1⟩
  walk_at "w"
  obtain ⟨P, S, L, d, s1, e1, v, hP, hS, h1⟩ := pane_val (n := 6) k_law_draw k_law_pane (by omega) hs (most := 8) (far := z) (by decide) (by decide) z0 (by omega)
  have hS' : S ≤ 12 := by omega
  refine we_cioR e1 ?_
  walk_at "w"
  refine we_or ?_
  walk_at "w"
  refine we_ret (ticks_val (n := 2) v hS') ?_
  walk_at "w"
  obtain ⟨s2, e2, h2⟩ := windows_val (n := 2) v hS' (by omega) h1
  refine we_cioR e2 ?_
  walk_at "w"
  refine hq s2 _ ?_
  obtain ⟨a, b, c', e, q1, q2, q3, q4, q5⟩ := h2
  exact ⟨a, b, c', e, q1, q2, q3, q4, by omega⟩
theorem th_lap {sd ad x : D} {o2 o3 o4 o5 : O} {Q : SR → Prop} (hq : Q (.nx [some (sd, false), some (ad, false), o2, o3, o4, o5, some (x, false), none])) :
    WS (evB (calN tbl 8) false thB [some (sd, false), some (ad, false), o2, o3, o4, o5, some (x, false), none]) Q := by
  have r := (rq_bool (okP x)).repr (by decide) (by decide)
  unfold thB
  walk_at "w"
  refine we_ret (disp_val (n := 4) x) ?_
  walk_at "w"
  refine we_ret (right_val (n := 7) x) ?_
  walk_at "w"
  exact hq
theorem law_val (ns : List Int) (h : ns.length ≤ 63) : calN tbl level "law" [.list (ns.map .int)] = .ok (.bool true) none := by
  refine wc_run (n := 8) (P := fun z => z = .ok (.bool true) none) k_law rfl ?_
  show WS (evB (calN tbl 8) false c_law [some (.list (ns.map .int), false), none, none, none, none, none, none, none]) _
  rw [c_law_eq]
  refine ws_fr (fun _ ρ => ∃ o1 o2 o3 o4 o5 o6, ρ = [some (.list (ns.map .int), false), o1, o2, o3, o4, o5, o6, none]) ?_
  unfold manyCE
  walk_at "w"
  refine ⟨_, rfl, ⟨_, _, _, _, _, _, rfl⟩, ?_, ?_⟩
  · rintro k x ρ hx ⟨o1, o2, o3, o4, o5, o6, rfl⟩
    obtain ⟨rfl, hk⟩ := rng_at' hx
    rw [List.length_map] at hk
    have hk' : k ≤ 100 := by split at hk <;> split at hk <;> omega
    obtain ⟨s, e1, hs⟩ := source_lk (n := 7) k_law_source ns hk'
    refine ⟨_, rfl, ?_⟩
    unfold atB
    walk_at "w"
    refine ⟨_, e1, ?_⟩
    walk_at "w"
    refine ws_fr (fun j ρ => ∃ s o2 o3 o5 o6, ρ = [some (.list (ns.map .int), false), some (.int (k : Nat), false), o2, o3, some (.list s, true), o5, o6, none] ∧ SrcOk (100 * j) s) ?_
    walk_at "w"
    refine ⟨_, rfl, ⟨s, _, _, _, _, rfl, hs⟩, ?_, ?_⟩
    · clear hs e1
      rintro j x ρ hx ⟨s, o2, o3, o5, o6, rfl, hs⟩
      obtain ⟨rfl, hj⟩ := rng_at' hx
      refine ⟨_, rfl, ?_⟩
      refine lap_val (k := j) (by omega) (by omega) hs fun s' o2 hs' => ?_
      exact ⟨s', _, _, _, _, rfl, by
        obtain ⟨a, b, c', e, q1, q2, q3, q4, q5⟩ := hs'
        exact ⟨a, b, c', e, q1, q2, q3, q4, by omega⟩⟩
    · rintro ρ ⟨s, o2, o3, o5, o6, rfl, hs⟩
      have hl : (rngL 0 3).length = 3 := by rw [rng_len']; rfl
      rw [hl] at hs
      refine ws_fr (fun _ ρ => ∃ o2 o3 o4 o5 o6, ρ = [some (.list (ns.map .int), false), some (.int (k : Nat), false), o2, o3, o4, o5, o6, none]) ?_
      walk_at "w"
      obtain ⟨P, S, L, d, s1, e1, v, hP, hS, h1⟩ := pane_val (n := 6) k_law_draw k_law_pane (by omega) hs (most := 8) (far := 100000000000000000000000000000) (by decide) (by decide) (by decide) (by decide)
      refine we_cioR e1 ?_
      refine we_nil ?_
      refine ⟨[dsp P S L d], rfl, ?_⟩
      have tv := th_val (n := 7) (P := P) (S := S) (L := L) (d := d)
      generalize thD 7 P S L d = xs at tv
      generalize calN tbl 8 "_law_things" [dsp P S L d] = r at tv ⊢
      subst tv
      refine we_ret rfl ?_
      refine we_nil ?_
      refine ⟨_, rfl, ⟨_, _, _, _, _, rfl⟩, ?_, ?_⟩
      · rintro i x ρ hx ⟨o2, o3, o4, o5, o6, rfl⟩
        refine ⟨_, rfl, ?_⟩
        refine th_lap ?_
        exact ⟨_, _, _, _, _, rfl⟩
      · rintro ρ ⟨o2, o3, o4, o5, o6, rfl⟩
        walk_at "w"
        exact ⟨_, _, _, _, _, _, rfl⟩
  · rintro ρ ⟨o1, o2, o3, o4, o5, o6, rfl⟩
    obtain ⟨ρ, e⟩ := last_part (.list (ns.map .int)) o1 o2 o3 o4 o5 o6
    show outR _ = _
    rw [e]
    rfl
end K05


open PySem PySem.W PyProof.Rows
set_option maxRecDepth 100000 in
set_option maxHeartbeats 0 in
theorem PySem.Challenge.cw_litdigits_k05_displays_and_lit_ticks_holds : PySem.Challenge.rw_litdigits_k05_displays_and_lit_ticks.Holds := by
  w_on; o_law; k_head; (case hw => w_witness2)
  k_fill
  refine Ev.row_of (l := PySem.Challenge.rw_litdigits_k05_displays_and_lit_ticks) (n := 63) (k := K05.level) (x := "script") rfl (by decide) rfl ⟨rfl, by decide, by decide⟩ (fun w h Y => PySem.W.kIn_of Y) ?F
  case F =>
    intro w mg fa h KX G hmg
    refine' Ev.law_F (e := K05.d_law) (Ev.tab_go (fns := K05.fns) (gvs := K05.gvs) (tbl := K05.tbl) (sts := K05.sts) rfl K05.tx KX G ?B ?bl ?gv ?px (by rfl)) rfl rfl hmg K05.law_val
    case B =>
      refine' And.intro (Ev.inK_mk ?a0 ?l0 ?c0 ?k0) (And.intro (Ev.inK_mk ?a1 ?l1 ?c1 ?k1) (And.intro (Ev.inK_mk ?a2 ?l2 ?c2 ?k2) (And.intro (Ev.inK_mk ?a3 ?l3 ?c3 ?k3) (And.intro (Ev.inK_mk ?a4 ?l4 ?c4 ?k4) (And.intro (Ev.inK_mk ?a5 ?l5 ?c5 ?k5) (And.intro (Ev.inK_mk ?a6 ?l6 ?c6 ?k6) (And.intro (Ev.inK_mk ?a7 ?l7 ?c7 ?k7) (And.intro (Ev.inK_mk ?a8 ?l8 ?c8 ?k8) (And.intro (Ev.inK_mk ?a9 ?l9 ?c9 ?k9) (And.intro (Ev.inK_mk ?a10 ?l10 ?c10 ?k10) (And.intro (Ev.inK_mk ?a11 ?l11 ?c11 ?k11) (And.intro (Ev.inK_mk ?a12 ?l12 ?c12 ?k12) (And.intro (Ev.inK_mk ?a13 ?l13 ?c13 ?k13) (And.intro (Ev.inK_mk ?a14 ?l14 ?c14 ?k14) (And.intro (Ev.inK_mk ?a15 ?l15 ?c15 ?k15) (And.intro (Ev.inK_mk ?a16 ?l16 ?c16 ?k16) (And.intro (Ev.inK_mk ?a17 ?l17 ?c17 ?k17) (And.intro (Ev.inK_mk ?a18 ?l18 ?c18 ?k18) (And.intro (Ev.inK_mk ?a19 ?l19 ?c19 ?k19) (And.intro (Ev.inK_mk ?a20 ?l20 ?c20 ?k20) (And.intro (Ev.inK_mk ?a21 ?l21 ?c21 ?k21) (And.intro (Ev.inK_mk ?a22 ?l22 ?c22 ?k22) (And.intro (Ev.inK_mk ?a23 ?l23 ?c23 ?k23) (True.intro))))))))))))))))))))))))
      (case a0 => k_is)
      (case l0 => k_is)
      (case c0 => k_is)
      (case k0 => k_is)
      (case a1 => k_is)
      (case l1 => k_is)
      (case c1 => k_is)
      (case k1 => k_is)
      (case a2 => k_is)
      (case l2 => k_is)
      (case c2 => k_is)
      (case k2 => k_is)
      (case a3 => k_is)
      (case l3 => k_is)
      (case c3 => k_is)
      (case k3 => k_is)
      (case a4 => k_is)
      (case l4 => k_is)
      (case c4 => k_is)
      (case k4 => k_is)
      (case a5 => k_is)
      (case l5 => k_is)
      (case c5 => k_is)
      (case k5 => k_is)
      (case a6 => k_is)
      (case l6 => k_is)
      (case c6 => k_is)
      (case k6 => k_is)
      (case a7 => k_is)
      (case l7 => k_is)
      (case c7 => k_is)
      (case k7 => k_is)
      (case a8 => k_is)
      (case l8 => k_is)
      (case c8 => k_is)
      (case k8 => k_is)
      (case a9 => k_is)
      (case l9 => k_is)
      (case c9 => k_is)
      (case k9 => k_is)
      (case a10 => k_is)
      (case l10 => k_is)
      (case c10 => k_is)
      (case k10 => k_is)
      (case a11 => k_is)
      (case l11 => k_is)
      (case c11 => k_is)
      (case k11 => k_is)
      (case a12 => k_is)
      (case l12 => k_is)
      (case c12 => k_is)
      (case k12 => k_is)
      (case a13 => k_is)
      (case l13 => k_is)
      (case c13 => k_is)
      (case k13 => k_is)
      (case a14 => k_is)
      (case l14 => k_is)
      (case c14 => k_is)
      (case k14 => k_is)
      (case a15 => k_is)
      (case l15 => k_is)
      (case c15 => k_is)
      (case k15 => k_is)
      (case a16 => k_is)
      (case l16 => k_is)
      (case c16 => k_is)
      (case k16 => k_is)
      (case a17 => k_is)
      (case l17 => k_is)
      (case c17 => k_is)
      (case k17 => k_is)
      (case a18 => k_is)
      (case l18 => k_is)
      (case c18 => k_is)
      (case k18 => k_is)
      (case a19 => k_is)
      (case l19 => k_is)
      (case c19 => k_is)
      (case k19 => k_is)
      (case a20 => k_is)
      (case l20 => k_is)
      (case c20 => k_is)
      (case k20 => k_is)
      (case a21 => k_is)
      (case l21 => k_is)
      (case c21 => k_is)
      (case k21 => k_is)
      (case a22 => k_is)
      (case l22 => k_is)
      (case c22 => k_is)
      (case k22 => k_is)
      (case a23 => k_is)
      (case l23 => k_is)
      (case c23 => k_is)
      (case k23 => k_is)
    case bl =>
      refine' And.intro (?b0) (And.intro (?b1) (And.intro (?b2) (And.intro (?b3) (And.intro (?b4) (And.intro (?b5) (And.intro (?b6) (And.intro (?b7) (And.intro (?b8) (And.intro (?b9) (And.intro (?b10) (And.intro (?b11) (And.intro (?b12) (And.intro (?b13) (And.intro (?b14) (And.intro (?b15) (And.intro (?b16) (And.intro (?b17) (And.intro (?b18) (And.intro (?b19) (And.intro (?b20) (And.intro (?b21) (True.intro))))))))))))))))))))))
      (case b0 => k_is)
      (case b1 => k_is)
      (case b2 => k_is)
      (case b3 => k_is)
      (case b4 => k_is)
      (case b5 => k_is)
      (case b6 => k_is)
      (case b7 => k_is)
      (case b8 => k_is)
      (case b9 => k_is)
      (case b10 => k_is)
      (case b11 => k_is)
      (case b12 => k_is)
      (case b13 => k_is)
      (case b14 => k_is)
      (case b15 => k_is)
      (case b16 => k_is)
      (case b17 => k_is)
      (case b18 => k_is)
      (case b19 => k_is)
      (case b20 => k_is)
      (case b21 => k_is)
    case gv =>
      refine' And.intro (Ev.gv_of (Ev.gv_int ?evg0)) (And.intro (Ev.gv_of (Ev.gv_str ?evg1)) (And.intro (Ev.gv_of (Ev.gv_str ?evg2)) (And.intro (Ev.gv_ex ?ex3_0 ?ex3_1 ?ex3_2 ?ex3_3 ?ex3_4 ?ex3_5 ?ex3_6 ?ex3_7 ?ex3_8 ?ex3_9 ?ex3_10 ?ex3_11) (And.intro (Ev.gv_ex ?ex4_0 ?ex4_1 ?ex4_2 ?ex4_3 ?ex4_4 ?ex4_5 ?ex4_6 ?ex4_7 ?ex4_8 ?ex4_9 ?ex4_10 ?ex4_11) (And.intro (Ev.gv_ex ?ex5_0 ?ex5_1 ?ex5_2 ?ex5_3 ?ex5_4 ?ex5_5 ?ex5_6 ?ex5_7 ?ex5_8 ?ex5_9 ?ex5_10 ?ex5_11) (And.intro (Ev.gv_exi ?ex6_0 (Ev.ini_mk K05.s_InvalidDisplay "index" K05.it_InvalidDisplay K05.ib_InvalidDisplay ?i1_6 ?i2_6 ?i3_6 ?i4_6 ?i5_6 ?i6_6 ?i7_6 ?i8_6 ?o1_6 ?o2_6 ?o3_6 ?o4_6 ?o5_6 ?o6_6 ?t1_6 ?t2_6 ?t3_6 ?t4_6 ?t5_6 ?t6_6 ?t7_6) ?ex6_2 ?ex6_3 ?ex6_4 ?ex6_5 ?ex6_6 ?ex6_7 ?ex6_8 ?ex6_9 ?ex6_10 ?ex6_11) (True.intro)))))))
      (case evg0 => k_is)
      (case evg1 => k_is)
      (case evg2 => k_is)
      (case ex3_0 => k_is)
      (case ex3_1 => k_exc)
      (case ex3_2 => k_is)
      (case ex3_3 => k_is)
      (case ex3_4 => k_is)
      (case ex3_5 => k_is)
      (case ex3_6 => k_is)
      (case ex3_7 => k_is)
      (case ex3_8 => k_is)
      (case ex3_9 => k_is)
      (case ex3_10 => k_is)
      (case ex3_11 => k_is)
      (case ex4_0 => k_is)
      (case ex4_1 => k_exc)
      (case ex4_2 => k_is)
      (case ex4_3 => k_is)
      (case ex4_4 => k_is)
      (case ex4_5 => k_is)
      (case ex4_6 => k_is)
      (case ex4_7 => k_is)
      (case ex4_8 => k_is)
      (case ex4_9 => k_is)
      (case ex4_10 => k_is)
      (case ex4_11 => k_is)
      (case ex5_0 => k_is)
      (case ex5_1 => k_exc)
      (case ex5_2 => k_is)
      (case ex5_3 => k_is)
      (case ex5_4 => k_is)
      (case ex5_5 => k_is)
      (case ex5_6 => k_is)
      (case ex5_7 => k_is)
      (case ex5_8 => k_is)
      (case ex5_9 => k_is)
      (case ex5_10 => k_is)
      (case ex5_11 => k_is)
      (case ex6_0 => k_is)
      (case i1_6 => k_is)
      (case i2_6 => k_is)
      (case i3_6 => k_is)
      (case i4_6 => k_is)
      (case i5_6 => k_is)
      (case i6_6 => rfl)
      (case i7_6 => first | rfl | decide +kernel)
      (case i8_6 => k_is)
      (case o1_6 => k_is)
      (case o2_6 => rfl)
      (case o3_6 => k_is)
      (case o4_6 => k_is)
      (case o5_6 => k_is)
      (case o6_6 => k_is)
      (case t1_6 => first | rfl | decide +kernel)
      (case t2_6 => k_is)
      (case t3_6 => k_is)
      (case t4_6 => ks_is)
      (case t5_6 => k_is)
      (case t6_6 => k_is)
      (case t7_6 => k_is)
      (case ex6_2 => k_is)
      (case ex6_3 => k_is)
      (case ex6_4 => k_is)
      (case ex6_5 => k_is)
      (case ex6_6 => k_is)
      (case ex6_7 => k_is)
      (case ex6_8 => k_is)
      (case ex6_9 => k_is)
      (case ex6_10 => k_is)
      (case ex6_11 => k_is)
    case px =>
      refine' And.intro (And.intro (Ev.pr_mk ?paLitError_LitError ?pbLitError_LitError ?pcLitError_LitError ?pdLitError_LitError ?peLitError_LitError ?pfLitError_LitError ?pgLitError_LitError) (And.intro (Ev.pr_mk ?paLitError_InvalidPlace ?pbLitError_InvalidPlace ?pcLitError_InvalidPlace ?pdLitError_InvalidPlace ?peLitError_InvalidPlace ?pfLitError_InvalidPlace ?pgLitError_InvalidPlace) (And.intro (Ev.pr_mk ?paLitError_InvalidTick ?pbLitError_InvalidTick ?pcLitError_InvalidTick ?pdLitError_InvalidTick ?peLitError_InvalidTick ?pfLitError_InvalidTick ?pgLitError_InvalidTick) (And.intro (Ev.pr_mk ?paLitError_InvalidDisplay ?pbLitError_InvalidDisplay ?pcLitError_InvalidDisplay ?pdLitError_InvalidDisplay ?peLitError_InvalidDisplay ?pfLitError_InvalidDisplay ?pgLitError_InvalidDisplay) (True.intro))))) (And.intro (And.intro (Ev.pr_mk ?paInvalidPlace_LitError ?pbInvalidPlace_LitError ?pcInvalidPlace_LitError ?pdInvalidPlace_LitError ?peInvalidPlace_LitError ?pfInvalidPlace_LitError ?pgInvalidPlace_LitError) (And.intro (Ev.pr_mk ?paInvalidPlace_InvalidPlace ?pbInvalidPlace_InvalidPlace ?pcInvalidPlace_InvalidPlace ?pdInvalidPlace_InvalidPlace ?peInvalidPlace_InvalidPlace ?pfInvalidPlace_InvalidPlace ?pgInvalidPlace_InvalidPlace) (And.intro (Ev.pr_mk ?paInvalidPlace_InvalidTick ?pbInvalidPlace_InvalidTick ?pcInvalidPlace_InvalidTick ?pdInvalidPlace_InvalidTick ?peInvalidPlace_InvalidTick ?pfInvalidPlace_InvalidTick ?pgInvalidPlace_InvalidTick) (And.intro (Ev.pr_mk ?paInvalidPlace_InvalidDisplay ?pbInvalidPlace_InvalidDisplay ?pcInvalidPlace_InvalidDisplay ?pdInvalidPlace_InvalidDisplay ?peInvalidPlace_InvalidDisplay ?pfInvalidPlace_InvalidDisplay ?pgInvalidPlace_InvalidDisplay) (True.intro))))) (And.intro (And.intro (Ev.pr_mk ?paInvalidTick_LitError ?pbInvalidTick_LitError ?pcInvalidTick_LitError ?pdInvalidTick_LitError ?peInvalidTick_LitError ?pfInvalidTick_LitError ?pgInvalidTick_LitError) (And.intro (Ev.pr_mk ?paInvalidTick_InvalidPlace ?pbInvalidTick_InvalidPlace ?pcInvalidTick_InvalidPlace ?pdInvalidTick_InvalidPlace ?peInvalidTick_InvalidPlace ?pfInvalidTick_InvalidPlace ?pgInvalidTick_InvalidPlace) (And.intro (Ev.pr_mk ?paInvalidTick_InvalidTick ?pbInvalidTick_InvalidTick ?pcInvalidTick_InvalidTick ?pdInvalidTick_InvalidTick ?peInvalidTick_InvalidTick ?pfInvalidTick_InvalidTick ?pgInvalidTick_InvalidTick) (And.intro (Ev.pr_mk ?paInvalidTick_InvalidDisplay ?pbInvalidTick_InvalidDisplay ?pcInvalidTick_InvalidDisplay ?pdInvalidTick_InvalidDisplay ?peInvalidTick_InvalidDisplay ?pfInvalidTick_InvalidDisplay ?pgInvalidTick_InvalidDisplay) (True.intro))))) (And.intro (And.intro (Ev.pr_mk ?paInvalidDisplay_LitError ?pbInvalidDisplay_LitError ?pcInvalidDisplay_LitError ?pdInvalidDisplay_LitError ?peInvalidDisplay_LitError ?pfInvalidDisplay_LitError ?pgInvalidDisplay_LitError) (And.intro (Ev.pr_mk ?paInvalidDisplay_InvalidPlace ?pbInvalidDisplay_InvalidPlace ?pcInvalidDisplay_InvalidPlace ?pdInvalidDisplay_InvalidPlace ?peInvalidDisplay_InvalidPlace ?pfInvalidDisplay_InvalidPlace ?pgInvalidDisplay_InvalidPlace) (And.intro (Ev.pr_mk ?paInvalidDisplay_InvalidTick ?pbInvalidDisplay_InvalidTick ?pcInvalidDisplay_InvalidTick ?pdInvalidDisplay_InvalidTick ?peInvalidDisplay_InvalidTick ?pfInvalidDisplay_InvalidTick ?pgInvalidDisplay_InvalidTick) (And.intro (Ev.pr_mk ?paInvalidDisplay_InvalidDisplay ?pbInvalidDisplay_InvalidDisplay ?pcInvalidDisplay_InvalidDisplay ?pdInvalidDisplay_InvalidDisplay ?peInvalidDisplay_InvalidDisplay ?pfInvalidDisplay_InvalidDisplay ?pgInvalidDisplay_InvalidDisplay) (True.intro))))) (True.intro))))
      (case paLitError_LitError => k_is)
      (case pbLitError_LitError => k_is)
      (case pcLitError_LitError => k_is)
      (case pdLitError_LitError => k_is)
      (case peLitError_LitError => k_is)
      (case pfLitError_LitError => k_is)
      (case pgLitError_LitError => decide +kernel)
      (case paLitError_InvalidPlace => k_is)
      (case pbLitError_InvalidPlace => k_is)
      (case pcLitError_InvalidPlace => k_is)
      (case pdLitError_InvalidPlace => k_is)
      (case peLitError_InvalidPlace => k_is)
      (case pfLitError_InvalidPlace => k_is)
      (case pgLitError_InvalidPlace => decide +kernel)
      (case paLitError_InvalidTick => k_is)
      (case pbLitError_InvalidTick => k_is)
      (case pcLitError_InvalidTick => k_is)
      (case pdLitError_InvalidTick => k_is)
      (case peLitError_InvalidTick => k_is)
      (case pfLitError_InvalidTick => k_is)
      (case pgLitError_InvalidTick => decide +kernel)
      (case paLitError_InvalidDisplay => k_is)
      (case pbLitError_InvalidDisplay => k_is)
      (case pcLitError_InvalidDisplay => k_is)
      (case pdLitError_InvalidDisplay => k_is)
      (case peLitError_InvalidDisplay => k_is)
      (case pfLitError_InvalidDisplay => k_is)
      (case pgLitError_InvalidDisplay => decide +kernel)
      (case paInvalidPlace_LitError => k_is)
      (case pbInvalidPlace_LitError => k_is)
      (case pcInvalidPlace_LitError => k_is)
      (case pdInvalidPlace_LitError => k_is)
      (case peInvalidPlace_LitError => k_is)
      (case pfInvalidPlace_LitError => k_is)
      (case pgInvalidPlace_LitError => decide +kernel)
      (case paInvalidPlace_InvalidPlace => k_is)
      (case pbInvalidPlace_InvalidPlace => k_is)
      (case pcInvalidPlace_InvalidPlace => k_is)
      (case pdInvalidPlace_InvalidPlace => k_is)
      (case peInvalidPlace_InvalidPlace => k_is)
      (case pfInvalidPlace_InvalidPlace => k_is)
      (case pgInvalidPlace_InvalidPlace => decide +kernel)
      (case paInvalidPlace_InvalidTick => k_is)
      (case pbInvalidPlace_InvalidTick => k_is)
      (case pcInvalidPlace_InvalidTick => k_is)
      (case pdInvalidPlace_InvalidTick => k_is)
      (case peInvalidPlace_InvalidTick => k_is)
      (case pfInvalidPlace_InvalidTick => k_is)
      (case pgInvalidPlace_InvalidTick => decide +kernel)
      (case paInvalidPlace_InvalidDisplay => k_is)
      (case pbInvalidPlace_InvalidDisplay => k_is)
      (case pcInvalidPlace_InvalidDisplay => k_is)
      (case pdInvalidPlace_InvalidDisplay => k_is)
      (case peInvalidPlace_InvalidDisplay => k_is)
      (case pfInvalidPlace_InvalidDisplay => k_is)
      (case pgInvalidPlace_InvalidDisplay => decide +kernel)
      (case paInvalidTick_LitError => k_is)
      (case pbInvalidTick_LitError => k_is)
      (case pcInvalidTick_LitError => k_is)
      (case pdInvalidTick_LitError => k_is)
      (case peInvalidTick_LitError => k_is)
      (case pfInvalidTick_LitError => k_is)
      (case pgInvalidTick_LitError => decide +kernel)
      (case paInvalidTick_InvalidPlace => k_is)
      (case pbInvalidTick_InvalidPlace => k_is)
      (case pcInvalidTick_InvalidPlace => k_is)
      (case pdInvalidTick_InvalidPlace => k_is)
      (case peInvalidTick_InvalidPlace => k_is)
      (case pfInvalidTick_InvalidPlace => k_is)
      (case pgInvalidTick_InvalidPlace => decide +kernel)
      (case paInvalidTick_InvalidTick => k_is)
      (case pbInvalidTick_InvalidTick => k_is)
      (case pcInvalidTick_InvalidTick => k_is)
      (case pdInvalidTick_InvalidTick => k_is)
      (case peInvalidTick_InvalidTick => k_is)
      (case pfInvalidTick_InvalidTick => k_is)
      (case pgInvalidTick_InvalidTick => decide +kernel)
      (case paInvalidTick_InvalidDisplay => k_is)
      (case pbInvalidTick_InvalidDisplay => k_is)
      (case pcInvalidTick_InvalidDisplay => k_is)
      (case pdInvalidTick_InvalidDisplay => k_is)
      (case peInvalidTick_InvalidDisplay => k_is)
      (case pfInvalidTick_InvalidDisplay => k_is)
      (case pgInvalidTick_InvalidDisplay => decide +kernel)
      (case paInvalidDisplay_LitError => k_is)
      (case pbInvalidDisplay_LitError => k_is)
      (case pcInvalidDisplay_LitError => k_is)
      (case pdInvalidDisplay_LitError => k_is)
      (case peInvalidDisplay_LitError => k_is)
      (case pfInvalidDisplay_LitError => k_is)
      (case pgInvalidDisplay_LitError => decide +kernel)
      (case paInvalidDisplay_InvalidPlace => k_is)
      (case pbInvalidDisplay_InvalidPlace => k_is)
      (case pcInvalidDisplay_InvalidPlace => k_is)
      (case pdInvalidDisplay_InvalidPlace => k_is)
      (case peInvalidDisplay_InvalidPlace => k_is)
      (case pfInvalidDisplay_InvalidPlace => k_is)
      (case pgInvalidDisplay_InvalidPlace => decide +kernel)
      (case paInvalidDisplay_InvalidTick => k_is)
      (case pbInvalidDisplay_InvalidTick => k_is)
      (case pcInvalidDisplay_InvalidTick => k_is)
      (case pdInvalidDisplay_InvalidTick => k_is)
      (case peInvalidDisplay_InvalidTick => k_is)
      (case pfInvalidDisplay_InvalidTick => k_is)
      (case pgInvalidDisplay_InvalidTick => decide +kernel)
      (case paInvalidDisplay_InvalidDisplay => k_is)
      (case pbInvalidDisplay_InvalidDisplay => k_is)
      (case pcInvalidDisplay_InvalidDisplay => k_is)
      (case pdInvalidDisplay_InvalidDisplay => k_is)
      (case peInvalidDisplay_InvalidDisplay => k_is)
      (case pfInvalidDisplay_InvalidDisplay => k_is)
      (case pgInvalidDisplay_InvalidDisplay => decide +kernel)



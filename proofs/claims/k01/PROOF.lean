import PyProof.Rows.All
import Wide.All
import OpenK.AllK
import Wide.FinOn
import HandS.ForMost
import HandS.IsInst
import HandS.Gcd
import HandS.Wide
import HandS.Style
import HandS.SortInts
import HandS.RevRange
import HandS.Conv
import HandS.Flow
import PySem.Challenge.RW_fewestlines_k01_lines
set_option Elab.async false
set_option linter.all false
set_option maxRecDepth 100000
set_option maxHeartbeats 4000000
namespace DL
open PySem L2

/-! ### data, and how a value holds it -/
inductive D where
  | non | bl (b : Bool) | int (i : Int) | str (x : Str)
  | lst (xs : List D) | tup (xs : List D) | scr (ns : List Int)
  | obj (c : Nat) (vs : List D)

/-- the program's classes: names, fields in the order in which __init__ sets them -/
def cTab : List (Str × List Str) := [("Cutting", ["pieces", "reasons"]), ("Level", ["stored", "error", "pieces"]), ("Index", ["stored", "_levels"]), ("Fitter", ["error", "count", "_strip"]), ("Strip", ["_upper", "_lower", "_greatest"]), ("Run", ["entries", "_index"])]
def cN (c : Nat) : Str := (cTab.getD c ("", [])).1
def cF (c : Nat) : List Str := (cTab.getD c ("", [])).2
mutual
inductive Rep (K : PySem.W.Frag) (mg : Str → Option Value) (G : Hp) : V → D → Prop
  | non : Rep K mg G .non .non
  | bl (b : Bool) : Rep K mg G (.bl b) (.bl b)
  | int (i : Int) : Rep K mg G (.int i) (.int i)
  | str (x : Str) : Rep K mg G (.str x) (.str x)
  | lst {a : Addr} {vs : List V} {xs : List D} (h : G a = some (.lst vs)) (r : RepL K mg G vs xs) : Rep K mg G (.ref a) (.lst xs)
  | tup {a : Addr} {vs : List V} {xs : List D} (h : G a = some (.tup vs)) (r : RepL K mg G vs xs) : Rep K mg G (.ref a) (.tup xs)
  | scr {a : Addr} {ns : List Int} (h : SqL K G a (ns.map V.int)) : Rep K mg G (.ref a) (.scr ns)
  | obj {a C dx : Addr} {c : Nat} {vs : List V} {ds : List D} (hm : mg (cN c) = some (.ref C)) (h : G a = some (.ins C dx ((cF c).zip vs))) (r : RepL K mg G vs ds) : Rep K mg G (.ref a) (.obj c ds)
inductive RepL (K : PySem.W.Frag) (mg : Str → Option Value) (G : Hp) : List V → List D → Prop
  | nil : RepL K mg G [] []
  | cons {v : V} {vs : List V} {d : D} {ds : List D} (h : Rep K mg G v d) (r : RepL K mg G vs ds) : RepL K mg G (v :: vs) (d :: ds)
end

section
variable {K : PySem.W.Frag} {mg : Str → Option Value} {G G' : Hp}
mutual
theorem Rep.mono (e : Same G G') : ∀ {v : V} {d : D}, Rep K mg G v d → Rep K mg G' v d
  | _, _, .non => .non
  | _, _, .bl b => .bl b
  | _, _, .int i => .int i
  | _, _, .str x => .str x
  | _, _, .lst h r => .lst (e _ _ h) (RepL.mono e r)
  | _, _, .tup h r => .tup (e _ _ h) (RepL.mono e r)
  | _, _, .scr h => .scr (e.seq h)
  | _, _, .obj hm h r => .obj hm (e _ _ h) (RepL.mono e r)
theorem RepL.mono (e : Same G G') : ∀ {v : List V} {d : List D}, RepL K mg G v d → RepL K mg G' v d
  | _, _, .nil => .nil
  | _, _, .cons h r => .cons (Rep.mono e h) (RepL.mono e r)
end
theorem RepL.length : ∀ {vs : List V} {ds : List D}, RepL K mg G vs ds → vs.length = ds.length
  | _, _, .nil => rfl
  | _, _, .cons _ r => by simp [RepL.length r]
theorem RepL.get : ∀ {vs : List V} {ds : List D} (i : Nat) {d : D}, RepL K mg G vs ds → ds[i]? = some d → ∃ v, vs[i]? = some v ∧ Rep K mg G v d
  | _, _, _, _, .nil, h => by simp at h
  | _, _, 0, _, .cons h _, e => by simp at e; subst e; exact ⟨_, rfl, h⟩
  | _, _, i + 1, _, .cons _ r, e => by
    obtain ⟨v, h1, h2⟩ := RepL.get i r (by simpa using e)
    exact ⟨v, by simpa using h1, h2⟩
theorem RepL.append : ∀ {vs ws : List V} {ds es : List D}, RepL K mg G vs ds → RepL K mg G ws es → RepL K mg G (vs ++ ws) (ds ++ es)
  | _, _, _, _, .nil, s => s
  | _, _, _, _, .cons h r, s => .cons h (r.append s)
theorem RepL.take : ∀ (n : Nat) {vs : List V} {ds : List D}, RepL K mg G vs ds → RepL K mg G (vs.take n) (ds.take n)
  | 0, _, _, _ => by simp; exact .nil
  | _ + 1, _, _, .nil => .nil
  | n + 1, _, _, .cons h r => .cons h (r.take n)
theorem RepL.drop : ∀ (n : Nat) {vs : List V} {ds : List D}, RepL K mg G vs ds → RepL K mg G (vs.drop n) (ds.drop n)
  | 0, _, _, r => r
  | _ + 1, _, _, .nil => .nil
  | n + 1, _, _, .cons _ r => r.drop n
theorem RepL.set : ∀ (i : Nat) {vs : List V} {ds : List D} {v : V} {d : D}, RepL K mg G vs ds → Rep K mg G v d → RepL K mg G (vs.set i v) (ds.set i d)
  | _, _, _, _, _, .nil, _ => .nil
  | 0, _, _, _, _, .cons _ r, h => .cons h r
  | i + 1, _, _, _, _, .cons h r, q => .cons h (r.set i q)
theorem RepL.reverse : ∀ {vs : List V} {ds : List D}, RepL K mg G vs ds → RepL K mg G vs.reverse ds.reverse
  | _, _, .nil => .nil
  | _, _, .cons h r => by
    rw [List.reverse_cons, List.reverse_cons]
    exact r.reverse.append (.cons h .nil)
theorem RepL.ints : ∀ {ns : List Int} {vs : List V}, RepL K mg G vs (ns.map D.int) → vs = ns.map V.int
  | [], _, r => by cases r; rfl
  | n :: ns, _, r => by
    cases r with
    | cons h r => cases h; rw [RepL.ints r]; rfl
theorem RepL.ofInts : ∀ {ns : List Int}, RepL K mg G (ns.map V.int) (ns.map D.int)
  | [] => .nil
  | n :: ns => .cons (.int n) RepL.ofInts
theorem RepL.bls : ∀ {ns : List Bool} {vs : List V}, RepL K mg G vs (ns.map D.bl) → vs = ns.map V.bl
  | [], _, r => by cases r; rfl
  | n :: ns, _, r => by
    cases r with
    | cons h r => cases h; rw [RepL.bls r]; rfl
end

/-! ### how heaps grow: G what is known and stays, H all that is tracked -/
structure Ext (G H G' H' : Hp) : Prop where
  gg : Same G G'
  hh : Same H H'
  gh : Same G' H'
  new : ∀ a, G' a ≠ none → G a ≠ none ∨ H a = none
theorem Ext.refl {G H : Hp} (h : Same G H) : Ext G H G H := ⟨Same.refl _, Same.refl _, h, fun _ h => .inl h⟩
theorem Ext.trans {G H G1 H1 G2 H2 : Hp} (a : Ext G H G1 H1) (b : Ext G1 H1 G2 H2) : Ext G H G2 H2 :=
  ⟨a.gg.trans b.gg, a.hh.trans b.hh, b.gh, fun x h => by
    rcases b.new x h with h | h
    · exact a.new x h
    · exact .inr (a.hh.free h)⟩
theorem same_upd {H : Hp} {p : Addr} {o : HO} (h : H p = none) : Same H (upd H p o) := fun b x e => by
  rw [upd_ne (ne_of_none e h)]
  exact e
theorem same_upd2 {G H : Hp} {p : Addr} {o : HO} (e : Same G H) : Same (upd G p o) (upd H p o) := fun b x h => by
  by_cases q : b = p
  · subst q; rw [upd_same] at h ⊢; exact h
  · rw [upd_ne q] at h ⊢; exact e _ _ h
/-- a new object, known from now on -/
theorem Ext.new1 {G H : Hp} {p : Addr} {o : HO} (gh : Same G H) (h : H p = none) : Ext G H (upd G p o) (upd H p o) :=
  ⟨same_upd (gh.free h), same_upd h, same_upd2 gh, fun a q => by
    by_cases e : a = p
    · subst e; exact .inr h
    · rw [upd_ne e] at q; exact .inl q⟩
/-- a new object that is kept for oneself -/
theorem Ext.own1 {G H : Hp} {p : Addr} {o : HO} (gh : Same G H) (h : H p = none) : Ext G H G (upd H p o) :=
  ⟨Same.refl _, same_upd h, fun a x q => by rw [upd_ne (ne_of_none (gh a x q) h)]; exact gh a x q, fun a q => .inl q⟩

/-! ### slots -/
inductive Sl where
  | no | sh (d : D) | ow (xs : List D)
abbrev DEnv := List Sl

def SlOk (K : PySem.W.Frag) (mg : Str → Option Value) (G H H0 : Hp) (o : Option (Option V)) : Sl → Prop
  | .no => True
  | .sh d => ∃ v, o = some (some v) ∧ Rep K mg G v d
  | .ow xs => ∃ p vs, o = some (some (.ref p)) ∧ G p = none ∧ H0 p = none ∧ H p = some (.lst vs) ∧ RepL K mg G vs xs

structure Rel (K : PySem.W.Frag) (mg : Str → Option Value) (G0 H0 : Hp) (Γ : DEnv) (σ : St) (G H : Hp) : Prop where
  len : σ.length = Γ.length
  gh : Same G H
  hh : Same H0 H
  gg : Same G0 G
  new : ∀ a, G a ≠ none → G0 a ≠ none ∨ H0 a = none
  sl : ∀ (i : Nat) s, Γ[i]? = some s → SlOk K mg G H H0 (σ[i]?) s
  dj : ∀ (i j : Nat) xs ys p, Γ[i]? = some (.ow xs) → Γ[j]? = some (.ow ys) → σ[i]? = some (some (.ref p)) → σ[j]? = some (some (.ref p)) → i = j

section
variable {K : PySem.W.Frag} {mg : Str → Option Value} {G0 H0 G H G' H' : Hp} {Γ : DEnv} {σ : St}
theorem SlOk.ext {o : Option (Option V)} {s : Sl} (e : Ext G H G' H') (h : SlOk K mg G H H0 o s) : SlOk K mg G' H' H0 o s := by
  cases s with
  | no => exact True.intro
  | sh d => obtain ⟨v, h1, h2⟩ := h; exact ⟨v, h1, h2.mono e.gg⟩
  | ow xs =>
    obtain ⟨p, vs, h1, h2, h3, h4, h5⟩ := h
    refine ⟨p, vs, h1, ?_, h3, e.hh _ _ h4, h5.mono e.gg⟩
    cases q : G' p with
    | none => rfl
    | some u =>
      rcases e.new p (by rw [q]; simp) with z | z
      · exact absurd h2 z
      · rw [h4] at z; cases z
theorem Rel.ext (r : Rel K mg G0 H0 Γ σ G H) (e : Ext G H G' H') : Rel K mg G0 H0 Γ σ G' H' :=
  ⟨r.len, e.gh, r.hh.trans e.hh, r.gg.trans e.gg, fun a q => by
    rcases e.new a q with z | z
    · exact r.new a z
    · exact .inr (r.hh.free z), fun i s h => (r.sl i s h).ext e, r.dj⟩
theorem sh_ne {Γ : DEnv} {i : Nat} {d : D} {xs : List D} : (Γ.set i (.sh d))[i]? ≠ some (.ow xs) := by
  rw [List.getElem?_set]
  by_cases z : i < Γ.length <;> simp [z]
theorem no_ne {Γ : DEnv} {i : Nat} {xs : List D} : (Γ.set i .no)[i]? ≠ some (.ow xs) := by
  rw [List.getElem?_set]
  by_cases z : i < Γ.length <;> simp [z]
/-- a slot gets a datum -/
theorem Rel.set (r : Rel K mg G0 H0 Γ σ G H) (i : Nat) {v : V} {d : D} (h : Rep K mg G v d) : Rel K mg G0 H0 (Γ.set i (.sh d)) (σ.set i (some v)) G H := by
  refine ⟨by simpa using r.len, r.gh, r.hh, r.gg, r.new, fun j s q => ?_, fun j k xs ys p h1 h2 h3 h4 => ?_⟩
  · by_cases e : i = j
    · subst e
      rw [List.getElem?_set] at q
      by_cases z : i < Γ.length
      · simp [z] at q
        subst q
        exact ⟨v, by simp [List.getElem?_set, r.len, z], h⟩
      · simp [z] at q
    · rw [List.getElem?_set_ne e] at q ⊢
      exact r.sl j s q
  · have n1 : i ≠ j := fun e => by
      subst e
      first | exact sh_ne h1 | exact no_ne h1
    have n2 : i ≠ k := fun e => by
      subst e
      first | exact sh_ne h2 | exact no_ne h2
    rw [List.getElem?_set_ne n1] at h1 h3
    rw [List.getElem?_set_ne n2] at h2 h4
    exact r.dj j k xs ys p h1 h2 h3 h4
/-- .. a new list of one's own -/
theorem Rel.setOw (r : Rel K mg G0 H0 Γ σ G H) (i : Nat) {p : Addr} {vs : List V} {xs : List D} (hp : G p = none) (h0 : H0 p = none) (h : H p = some (.lst vs)) (hr : RepL K mg G vs xs) (fr : ∀ (j : Nat) ys, Γ[j]? = some (.ow ys) → σ[j]? ≠ some (some (.ref p))) :
    Rel K mg G0 H0 (Γ.set i (.ow xs)) (σ.set i (some (.ref p))) G H := by
  refine ⟨by simpa using r.len, r.gh, r.hh, r.gg, r.new, fun j s q => ?_, fun j k zs ys p' h1 h2 h3 h4 => ?_⟩
  · by_cases e : i = j
    · subst e
      rw [List.getElem?_set] at q
      by_cases z : i < Γ.length
      · simp [z] at q
        subst q
        exact ⟨p, vs, by simp [List.getElem?_set, r.len, z], hp, h0, h, hr⟩
      · simp [z] at q
    · rw [List.getElem?_set_ne e] at q ⊢
      exact r.sl j s q
  · by_cases e1 : i = j
    · subst e1
      by_cases e2 : i = k
      · exact e2
      · exfalso
        rw [List.getElem?_set_ne e2] at h2 h4
        rw [List.getElem?_set] at h3
        by_cases z : i < σ.length
        · simp [z] at h3
          subst h3
          exact fr k ys h2 h4
        · simp [z] at h3
    · by_cases e2 : i = k
      · exfalso
        subst e2
        rw [List.getElem?_set_ne e1] at h1 h3
        rw [List.getElem?_set] at h4
        by_cases z : i < σ.length
        · simp [z] at h4
          subst h4
          exact fr j zs h1 h3
        · simp [z] at h4
      · rw [List.getElem?_set_ne e1] at h1 h3
        rw [List.getElem?_set_ne e2] at h2 h4
        exact r.dj j k zs ys p' h1 h2 h3 h4
/-- one's own list is written -/
theorem Rel.write (r : Rel K mg G0 H0 Γ σ G H) {i : Nat} {p : Addr} {xs ys : List D} {vs : List V} (hi : Γ[i]? = some (.ow xs)) (hs : σ[i]? = some (some (.ref p))) (hr : RepL K mg G vs ys) :
    Rel K mg G0 H0 (Γ.set i (.ow ys)) σ G (upd H p (.lst vs)) := by
  obtain ⟨p', vs', e1, e2, e3, e4, e5⟩ := r.sl i _ hi
  rw [hs] at e1
  cases e1
  have hlt : i < Γ.length := (List.getElem?_eq_some_iff.mp hi).1
  refine ⟨by simpa using r.len, fun a o q => ?_, fun a o q => ?_, r.gg, r.new, fun j s q => ?_, fun j k zs ys' p' h1 h2 h3 h4 => ?_⟩
  · rw [upd_ne (ne_of_none q e2)]; exact r.gh _ _ q
  · rw [upd_ne (ne_of_none q e3)]; exact r.hh _ _ q
  · by_cases e : i = j
    · subst e
      rw [List.getElem?_set] at q
      simp [hlt] at q
      subst q
      exact ⟨p, vs, hs, e2, e3, upd_same, hr⟩
    · rw [List.getElem?_set_ne e] at q
      have z := r.sl j s q
      cases s with
      | no => exact True.intro
      | sh d => exact z
      | ow zs =>
        obtain ⟨p2, v2, a1, a2, a3, a4, a5⟩ := z
        refine ⟨p2, v2, a1, a2, a3, ?_, a5⟩
        rw [upd_ne]
        · exact a4
        · intro h; subst h
          exact e (r.dj i j _ _ _ hi q hs a1)
  · have all : ∀ (j : Nat) (zs : List D), (Γ.set i (Sl.ow ys))[j]? = some (Sl.ow zs) → ∃ zs' : List D, Γ[j]? = some (Sl.ow zs') := fun j zs h => by
      by_cases e : i = j
      · subst e; exact ⟨_, hi⟩
      · rw [List.getElem?_set_ne e] at h; exact ⟨_, h⟩
    obtain ⟨z1, q1⟩ := all j zs h1
    obtain ⟨z2, q2⟩ := all k ys' h2
    exact r.dj j k z1 z2 p' q1 q2 h3 h4
/-- one's own list becomes known to all -/
theorem Rel.frz (r : Rel K mg G0 H0 Γ σ G H) {i : Nat} {xs : List D} (hi : Γ[i]? = some (.ow xs)) : ∃ G', Rel K mg G0 H0 (Γ.set i (.sh (.lst xs))) σ G' H ∧ Same G G' := by
  obtain ⟨p, vs, e1, e2, e3, e4, e5⟩ := r.sl i _ hi
  have hlt : i < Γ.length := (List.getElem?_eq_some_iff.mp hi).1
  have sg : Same G (upd G p (.lst vs)) := same_upd e2
  refine ⟨upd G p (.lst vs), ⟨by simpa using r.len, fun a o q => ?_, r.hh, r.gg.trans sg, fun a q => ?_, fun j s q => ?_, fun j k zs ys' p' h1 h2 h3 h4 => ?_⟩, sg⟩
  · by_cases e : a = p
    · subst e; rw [upd_same] at q; cases q; exact e4
    · rw [upd_ne e] at q; exact r.gh _ _ q
  · by_cases e : a = p
    · subst e; exact .inr e3
    · rw [upd_ne e] at q; exact r.new a q
  · by_cases e : i = j
    · subst e
      rw [List.getElem?_set] at q
      simp [hlt] at q
      subst q
      exact ⟨_, e1, .lst upd_same (e5.mono sg)⟩
    · rw [List.getElem?_set_ne e] at q
      have z := r.sl j s q
      cases s with
      | no => exact True.intro
      | sh d => obtain ⟨v, h1, h2⟩ := z; exact ⟨v, h1, h2.mono sg⟩
      | ow zs =>
        obtain ⟨p2, v2, a1, a2, a3, a4, a5⟩ := z
        refine ⟨p2, v2, a1, ?_, a3, a4, a5.mono sg⟩
        rw [upd_ne]
        · exact a2
        · intro h; subst h
          exact e (r.dj i j _ _ _ hi q e1 a1)
  · have n1 : i ≠ j := fun e => by
      subst e
      first | exact sh_ne h1 | exact no_ne h1
    have n2 : i ≠ k := fun e => by
      subst e
      first | exact sh_ne h2 | exact no_ne h2
    rw [List.getElem?_set_ne n1] at h1
    rw [List.getElem?_set_ne n2] at h2
    exact r.dj j k _ _ p' h1 h2 h3 h4
/-- slots forgotten -/
theorem Rel.drop (r : Rel K mg G0 H0 Γ σ G H) (i : Nat) : Rel K mg G0 H0 (Γ.set i .no) (σ.set i none) G H := by
  refine ⟨by simpa using r.len, r.gh, r.hh, r.gg, r.new, fun j s q => ?_, fun j k xs ys p h1 h2 h3 h4 => ?_⟩
  · by_cases e : i = j
    · subst e
      rw [List.getElem?_set] at q
      by_cases z : i < Γ.length
      · simp [z] at q
        subst q
        exact True.intro
      · simp [z] at q
    · rw [List.getElem?_set_ne e] at q ⊢
      exact r.sl j s q
  · have n1 : i ≠ j := fun e => by
      subst e
      first | exact sh_ne h1 | exact no_ne h1
    have n2 : i ≠ k := fun e => by
      subst e
      first | exact sh_ne h2 | exact no_ne h2
    rw [List.getElem?_set_ne n1] at h1 h3
    rw [List.getElem?_set_ne n2] at h2 h4
    exact r.dj j k xs ys p h1 h2 h3 h4
def wipeE (Γ : DEnv) : List Nat → DEnv
  | [] => Γ
  | v :: vs => (wipeE Γ vs).set v .no
theorem Rel.wipe (r : Rel K mg G0 H0 Γ σ G H) : ∀ vs : List Nat, Rel K mg G0 H0 (wipeE Γ vs) (L2.wipe σ vs) G H
  | [] => r
  | v :: vs => (r.wipe vs).drop v
/-- an object of nobody's slots is written or made -/
theorem Rel.aside (r : Rel K mg G0 H0 Γ σ G H) {p : Addr} {o : HO} (hg : G p = none) (h0 : H0 p = none) (hs : ∀ (j : Nat) ys, Γ[j]? = some (.ow ys) → σ[j]? ≠ some (some (.ref p))) : Rel K mg G0 H0 Γ σ G (upd H p o) := by
  refine ⟨r.len, fun a u q => ?_, fun a u q => ?_, r.gg, r.new, fun j s q => ?_, r.dj⟩
  · rw [upd_ne (ne_of_none q hg)]; exact r.gh _ _ q
  · rw [upd_ne (ne_of_none q h0)]; exact r.hh _ _ q
  · have z := r.sl j s q
    cases s with
    | no => exact True.intro
    | sh d => exact z
    | ow zs =>
      obtain ⟨p2, v2, a1, a2, a3, a4, a5⟩ := z
      refine ⟨p2, v2, a1, a2, a3, ?_, a5⟩
      rw [upd_ne]
      · exact a4
      · intro h; subst h; exact hs j zs q a1
end

/-! ### judgements over data -/
abbrev Ex := DEnv → Option D
abbrev Te := DEnv → Option Bool
abbrev Ag := DEnv → Option (List D)
inductive Res where
  | nx (Γ : DEnv) | rt (d : D) | bk (Γ : DEnv) | ct (Γ : DEnv)
abbrev Sm := DEnv → Option Res

structure E (X : Cx) (e : Expr) (f : Ex) : Prop where
  ex : ∃ t, PE X e t ∧ ∀ G0 H0 Γ σ G H Q d, Rel X.K X.mg G0 H0 Γ σ G H → f Γ = some d → (∀ G' H' v, Ext G H G' H' → Rep X.K X.mg G' v d → Q v H') → t σ H Q
/-- a new list -/
structure EL (X : Cx) (e : Expr) (f : Ag) : Prop where
  ex : ∃ t, PE X e t ∧ ∀ G0 H0 Γ σ G H Q ds, Rel X.K X.mg G0 H0 Γ σ G H → f Γ = some ds → (∀ G' H' p vs, Ext G H G' H' → H p = none → G' p = none → H' p = some (.lst vs) → RepL X.K X.mg G' vs ds → Q (.ref p) H') → t σ H Q
/-- a list, maybe one's own, that is only looked at -/
structure EB (X : Cx) (e : Expr) (f : Ag) : Prop where
  ex : ∃ t, PE X e t ∧ ∀ G0 H0 Γ σ G H Q ds, Rel X.K X.mg G0 H0 Γ σ G H → f Γ = some ds → (∀ G' H' p vs, Ext G H G' H' → SqL X.K H' p vs → RepL X.K X.mg G' vs ds → Q (.ref p) H') → t σ H Q
structure T (X : Cx) (e : Expr) (f : Te) : Prop where
  ex : ∃ t, PT X e t ∧ ∀ G0 H0 Γ σ G H Q b, Rel X.K X.mg G0 H0 Γ σ G H → f Γ = some b → (∀ G' H', Ext G H G' H' → Q b H') → t σ H Q
structure W (X : Cx) (e : Expr) (f : Te) : Prop where
  ex : ∃ t, PW X e t ∧ ∀ G0 H0 Γ σ G H Q b, Rel X.K X.mg G0 H0 Γ σ G H → f Γ = some b → (∀ G' H', Ext G H G' H' → Q b H') → t σ H Q
structure A (X : Cx) (es : List Expr) (f : Ag) : Prop where
  ex : ∃ t, PA X es t ∧ ∀ G0 H0 Γ σ G H Q ds, Rel X.K X.mg G0 H0 Γ σ G H → f Γ = some ds → (∀ G' H' vs, Ext G H G' H' → RepL X.K X.mg G' vs ds → Q vs H') → t σ H Q
/-- what is wanted behind a statement -/
def Fin (X : Cx) (G0 H0 : Hp) (D : Ends) : Res → Prop
  | .nx Γ => ∀ σ G H, Rel X.K X.mg G0 H0 Γ σ G H → D.nx σ H
  | .bk Γ => ∀ σ G H, Rel X.K X.mg G0 H0 Γ σ G H → D.bk σ H
  | .ct Γ => ∀ σ G H, Rel X.K X.mg G0 H0 Γ σ G H → D.ct σ H
  | .rt d => ∀ G H v, Ext G0 H0 G H → Rep X.K X.mg G v d → D.rt v H
structure S (X : Cx) (st : Stmt) (f : Sm) : Prop where
  ex : ∃ t, PS X st t ∧ ∀ G0 H0 Γ σ G H D r, Rel X.K X.mg G0 H0 Γ σ G H → f Γ = some r → Fin X G0 H0 D r → t D σ H
structure Ss (X : Cx) (st : List Stmt) (f : Sm) : Prop where
  ex : ∃ t, PSs X st t ∧ ∀ G0 H0 Γ σ G H D r, Rel X.K X.mg G0 H0 Γ σ G H → f Γ = some r → Fin X G0 H0 D r → t D σ H
end DL

namespace DL
open PySem L2

theorem obind {α β : Type} {o : Option α} {f : α → Option β} {b : β} (h : o.bind f = some b) : ∃ a, o = some a ∧ f a = some b := by
  cases o with
  | none => cases h
  | some a => exact ⟨a, rfl, h⟩

/-! ### what is looked at: a datum, or a list of one's own -/
def RepB (K : PySem.W.Frag) (mg : Str → Option Value) (G H : Hp) (v : V) (d : D) : Prop :=
  Rep K mg G v d ∨ ∃ p vs xs, d = .lst xs ∧ v = .ref p ∧ H p = some (.lst vs) ∧ RepL K mg G vs xs
structure B (X : Cx) (e : Expr) (f : Ex) : Prop where
  ex : ∃ t, PE X e t ∧ ∀ G0 H0 Γ σ G H Q d, Rel X.K X.mg G0 H0 Γ σ G H → f Γ = some d → (∀ G' H' v, Ext G H G' H' → RepB X.K X.mg G' H' v d → Q v H') → t σ H Q

section
variable {K : PySem.W.Frag} {mg : Str → Option Value} {G H G' H' : Hp} {v : V} {d : D}
theorem RepB.ext (r : RepB K mg G H v d) (e : Ext G H G' H') : RepB K mg G' H' v d := by
  rcases r with r | ⟨p, vs, xs, h1, h2, h3, h4⟩
  · exact .inl (r.mono e.gg)
  · exact .inr ⟨p, vs, xs, h1, h2, e.hh _ _ h3, h4.mono e.gg⟩
/-- a list that is looked at -/
theorem RepB.lst {xs : List D} (gh : Same G H) (r : RepB K mg G H v (.lst xs)) : ∃ p vs, v = .ref p ∧ H p = some (.lst vs) ∧ RepL K mg G vs xs := by
  rcases r with r | ⟨p, vs, xs, h1, h2, h3, h4⟩
  · cases r with
    | lst h r => exact ⟨_, _, rfl, gh _ _ h, r⟩
  · cases h1
    exact ⟨p, vs, h2, h3, h4⟩
theorem RepB.tup {xs : List D} (gh : Same G H) (r : RepB K mg G H v (.tup xs)) : ∃ p vs, v = .ref p ∧ H p = some (.tup vs) ∧ RepL K mg G vs xs := by
  rcases r with r | ⟨p, vs, xs, h1, h2, h3, h4⟩
  · cases r with
    | tup h r => exact ⟨_, _, rfl, gh _ _ h, r⟩
  · cases h1
theorem RepB.scr {ns : List Int} (gh : Same G H) (r : RepB K mg G H v (.scr ns)) : ∃ p, v = .ref p ∧ SqL K H p (ns.map V.int) := by
  rcases r with r | ⟨p, vs, xs, h1, h2, h3, h4⟩
  · cases r with
    | scr h => exact ⟨_, rfl, gh.seq h⟩
  · cases h1
theorem Rep.flat (r : Rep K mg G v d) : (∀ i, d = .int i → v = .int i) ∧ (∀ b, d = .bl b → v = .bl b) ∧ (d = .non → v = .non) ∧ (∀ x, d = .str x → v = .str x) := by
  cases r <;> simp
end

/-! ### expressions -/
def gV (i : Nat) : Ex := fun Γ => match Γ[i]? with | some (.sh d) => some d | _ => none
def gB (i : Nat) : Ex := fun Γ => match Γ[i]? with | some (.sh d) => some d | some (.ow xs) => some (.lst xs) | _ => none
def gC (d : D) : Ex := fun _ => some d
def gI (i : Int) : Ex := fun _ => some (.int i)

section
variable {X : Cx} {e a b : Expr} {es : List Expr} {f g : Ex} {fs : Ag} {pos : Pos}

theorem e_var (i : Nat) {x : Str} (hN : X.N[i]? = some x := by rfl) (hv : Vis X.env.scope x := by first | exact Or.inl rfl | exact Or.inr (Or.inl rfl) | exact Or.inr (Or.inr rfl)) (hd : (x == ("__debug__" : Str)) = false := by decide)
    (hcd : (x == ("__classdict__" : Str)) = false := by decide) : E X (.Name x pos) (gV i) := by
  refine ⟨⟨_, pe_var hN hv hd hcd, fun G0 H0 Γ σ G H Q d R hf k => ?_⟩⟩
  unfold gV at hf
  cases q : Γ[i]? with
  | none => rw [q] at hf; cases hf
  | some s =>
    rw [q] at hf
    cases s with
    | no => cases hf
    | ow xs => cases hf
    | sh d' =>
      cases hf
      obtain ⟨v, h1, h2⟩ := R.sl i _ q
      exact ⟨v, h1, k G H v (Ext.refl R.gh) h2⟩
theorem b_var (i : Nat) {x : Str} (hN : X.N[i]? = some x := by rfl) (hv : Vis X.env.scope x := by first | exact Or.inl rfl | exact Or.inr (Or.inl rfl) | exact Or.inr (Or.inr rfl)) (hd : (x == ("__debug__" : Str)) = false := by decide)
    (hcd : (x == ("__classdict__" : Str)) = false := by decide) : B X (.Name x pos) (gB i) := by
  refine ⟨⟨_, pe_var hN hv hd hcd, fun G0 H0 Γ σ G H Q d R hf k => ?_⟩⟩
  unfold gB at hf
  cases q : Γ[i]? with
  | none => rw [q] at hf; cases hf
  | some s =>
    rw [q] at hf
    cases s with
    | no => cases hf
    | ow xs =>
      cases hf
      obtain ⟨p, vs, h1, h2, h3, h4, h5⟩ := R.sl i _ q
      exact ⟨_, h1, k G H _ (Ext.refl R.gh) (.inr ⟨p, vs, xs, rfl, rfl, h4, h5⟩)⟩
    | sh d' =>
      cases hf
      obtain ⟨v, h1, h2⟩ := R.sl i _ q
      exact ⟨v, h1, k G H v (Ext.refl R.gh) (.inl h2)⟩
theorem E.bo (h : E X e f) : B X e f := by
  obtain ⟨t, h1, h2⟩ := h.ex
  exact ⟨⟨t, h1, fun G0 H0 Γ σ G H Q d R hf k => h2 G0 H0 Γ σ G H Q d R hf fun G' H' v e r => k G' H' v e (.inl r)⟩⟩
theorem e_int {i : Int} {j} : E X (.Constant (.int i) j pos) (gI i) := ⟨⟨_, pe_int, fun G0 H0 Γ σ G H Q d R hf k => by cases hf; exact k G H _ (Ext.refl R.gh) (.int i)⟩⟩
theorem e_bl {i : Bool} {j} : E X (.Constant (.bool i) j pos) (gC (.bl i)) := ⟨⟨_, pe_bl, fun G0 H0 Γ σ G H Q d R hf k => by cases hf; exact k G H _ (Ext.refl R.gh) (.bl i)⟩⟩
theorem e_non {j} : E X (.Constant .none j pos) (gC .non) := ⟨⟨_, pe_non, fun G0 H0 Γ σ G H Q d R hf k => by cases hf; exact k G H _ (Ext.refl R.gh) .non⟩⟩
theorem e_str {x : Str} {j} : E X (.Constant (.str x) j pos) (gC (.str x)) := ⟨⟨_, pe_str, fun G0 H0 Γ σ G H Q d R hf k => by cases hf; exact k G H _ (Ext.refl R.gh) (.str x)⟩⟩

/-! argument lists, displays -/
def aN : Ag := fun _ => some []
def aC (f : Ex) (r : Ag) : Ag := fun Γ => (f Γ).bind fun d => (r Γ).bind fun ds => some (d :: ds)
theorem a_nil : A X [] aN := ⟨⟨_, pa_nil, fun G0 H0 Γ σ G H Q ds R hf k => by cases hf; exact k G H _ (Ext.refl R.gh) .nil⟩⟩
theorem a_cons (he : E X e f) (hr : A X es fs) (hs : starEach (e :: es) X.env = (false, eval e X.env) :: starEach es X.env := by rfl) : A X (e :: es) (aC f fs) := by
  obtain ⟨t, h1, h2⟩ := he.ex
  obtain ⟨u, q1, q2⟩ := hr.ex
  refine ⟨⟨_, pa_cons h1 q1 hs, fun G0 H0 Γ σ G H Q ds R hf k => ?_⟩⟩
  obtain ⟨d, e1, hf⟩ := obind hf
  obtain ⟨es, e2, hf⟩ := obind hf
  cases hf
  refine h2 G0 H0 Γ σ G H _ d R e1 fun G1 H1 v x1 r1 => ?_
  refine q2 G0 H0 Γ σ G1 H1 _ es (R.ext x1) e2 fun G2 H2 vs x2 r2 => ?_
  exact k G2 H2 _ (x1.trans x2) (.cons (r1.mono x2.gg) r2)
/-- the number of items is known -/
def gTu (n : Nat) (fs : Ag) : Ex := fun Γ => (fs Γ).bind fun ds => some (.tup ds)
def gLst (fs : Ag) : Ag := fs
/-- displays are short: how many items is seen from the text -/
theorem A.len {X : Cx} : True := True.intro
end

/-- .. as a list of as many items as written -/
structure AN (X : Cx) (es : List Expr) (n : Nat) (f : Ag) : Prop where
  a : A X es f
  n : ∀ Γ ds, f Γ = some ds → ds.length = n
section
variable {X : Cx} {e a b : Expr} {es : List Expr} {f g : Ex} {fs : Ag} {pos : Pos} {n : Nat}
theorem n_nil : AN X [] 0 aN := ⟨a_nil, fun _ _ h => by cases h; rfl⟩
theorem n_cons (he : E X e f) (hr : AN X es n fs) (hs : starEach (e :: es) X.env = (false, eval e X.env) :: starEach es X.env := by rfl) : AN X (e :: es) (n + 1) (aC f fs) :=
  ⟨a_cons he hr.a hs, fun Γ ds h => by
    obtain ⟨d, e1, h⟩ := obind h
    obtain ⟨es, e2, h⟩ := obind h
    cases h
    simp [hr.n Γ es e2]⟩
theorem e_tup {x1} (h : AN X es n fs) (hn : n ≤ 1000 := by decide) : E X (.Tuple es x1 pos) (gTu n fs) := by
  obtain ⟨t, h1, h2⟩ := h.a.ex
  refine ⟨⟨_, pe_tup h1, fun G0 H0 Γ σ G H Q d R hf k => ?_⟩⟩
  obtain ⟨ds, e1, hf⟩ := obind hf
  cases hf
  refine h2 G0 H0 Γ σ G H _ ds R e1 fun G1 H1 vs x1 r1 => ⟨?_, fun p hp => ?_⟩
  · rw [r1.length, h.n Γ ds e1]; exact Nat.le_of_lt (small1000 hn)
  · have x2 := Ext.new1 (o := .tup vs) x1.gh hp
    exact k _ _ _ (x1.trans x2) (.tup upd_same (r1.mono x2.gg))
theorem el_lst (h : AN X es n fs) (hn : n ≤ 1000 := by decide) : EL X (.List es pos) fs := by
  obtain ⟨t, h1, h2⟩ := h.a.ex
  refine ⟨⟨_, pe_lst h1, fun G0 H0 Γ σ G H Q ds R hf k => ?_⟩⟩
  refine h2 G0 H0 Γ σ G H _ ds R hf fun G1 H1 vs x1 r1 => ⟨?_, fun p hp => ?_⟩
  · rw [r1.length, h.n Γ ds hf]; exact Nat.le_of_lt (small1000 hn)
  · exact k _ _ p vs (x1.trans (Ext.own1 x1.gh hp)) (x1.hh.free hp) (x1.gh.free hp) upd_same r1
/-- a new list is handed on: known from now on -/
def gL (fs : Ag) : Ex := fun Γ => (fs Γ).bind fun ds => some (.lst ds)
theorem EL.fz (h : EL X e fs) : E X e (gL fs) := by
  obtain ⟨t, h1, h2⟩ := h.ex
  refine ⟨⟨_, h1, fun G0 H0 Γ σ G H Q d R hf k => ?_⟩⟩
  obtain ⟨ds, e1, hf⟩ := obind hf
  cases hf
  refine h2 G0 H0 Γ σ G H _ ds R e1 fun G1 H1 p vs x1 hp gp h r => ?_
  have sg : Same G1 (upd G1 p (.lst vs)) := same_upd gp
  refine k (upd G1 p (.lst vs)) H1 _ ⟨x1.gg.trans sg, x1.hh, fun a o q => ?_, fun a q => ?_⟩ (.lst upd_same (r.mono sg))
  · by_cases z : a = p
    · subst z; rw [upd_same] at q; cases q; exact h
    · rw [upd_ne z] at q; exact x1.gh _ _ q
  · by_cases z : a = p
    · subst z; exact .inr hp
    · rw [upd_ne z] at q; exact x1.new a q

/-! operators -/
def OpD (X : Cx) (fn : Value → Value → Sem Value) (o : D → D → Option D) : Prop :=
  ∃ r, OpR X fn r ∧ ∀ x y d v w G H Q, Same G H → o x y = some d → Rep X.K X.mg G v x → Rep X.K X.mg G w y → (∀ G' H' u, Ext G H G' H' → Rep X.K X.mg G' u d → Q u H') → r v w H Q
def gOp (o : D → D → Option D) (f g : Ex) : Ex := fun Γ => (f Γ).bind fun x => (g Γ).bind fun y => o x y
theorem op_run {r : R2} {o : D → D → Option D} (hr : ∀ x y d v w G H Q, Same G H → o x y = some d → Rep X.K X.mg G v x → Rep X.K X.mg G w y → (∀ G' H' u, Ext G H G' H' → Rep X.K X.mg G' u d → Q u H') → r v w H Q)
    {t u : TE} (h2 : ∀ G0 H0 Γ σ G H Q d, Rel X.K X.mg G0 H0 Γ σ G H → f Γ = some d → (∀ G' H' v, Ext G H G' H' → Rep X.K X.mg G' v d → Q v H') → t σ H Q)
    (q2 : ∀ G0 H0 Γ σ G H Q d, Rel X.K X.mg G0 H0 Γ σ G H → g Γ = some d → (∀ G' H' v, Ext G H G' H' → Rep X.K X.mg G' v d → Q v H') → u σ H Q) :
    ∀ G0 H0 Γ σ G H Q d, Rel X.K X.mg G0 H0 Γ σ G H → gOp o f g Γ = some d → (∀ G' H' v, Ext G H G' H' → Rep X.K X.mg G' v d → Q v H') → tOp r t u σ H Q := fun G0 H0 Γ σ G H Q d R hf k => by
  obtain ⟨x, e1, hf⟩ := obind hf
  obtain ⟨y, e2, hf⟩ := obind hf
  refine h2 G0 H0 Γ σ G H _ x R e1 fun G1 H1 v x1 r1 => ?_
  refine q2 G0 H0 Γ σ G1 H1 _ y (R.ext x1) e2 fun G2 H2 w x2 r2 => ?_
  exact hr x y d v w G2 H2 Q x2.gh hf (r1.mono x2.gg) r2 fun G3 H3 u x3 r3 => k G3 H3 u ((x1.trans x2).trans x3) r3
theorem e_op {op : Operator} {o : D → D → Option D} (ho : OpD X (binaryOp op) o) (ha : E X a f) (hb : E X b g) : E X (.BinOp a op b pos) (gOp o f g) := by
  obtain ⟨r, hr, hr2⟩ := ho
  obtain ⟨t, h1, h2⟩ := ha.ex
  obtain ⟨u, q1, q2⟩ := hb.ex
  exact ⟨⟨_, pe_op hr h1 q1, op_run hr2 h2 q2⟩⟩
theorem e_cmp {op : CmpOp} {o : D → D → Option D} (ho : OpD X (compareOp op) o) (ha : E X a f) (hb : E X b g) (hm : behindInMarks op b = false := by first | exact nomark _ | rfl) : E X (.Compare a [op] [b] pos) (gOp o f g) := by
  obtain ⟨r, hr, hr2⟩ := ho
  obtain ⟨t, h1, h2⟩ := ha.ex
  obtain ⟨u, q1, q2⟩ := hb.ex
  exact ⟨⟨_, pe_cmpR hr h1 q1 hm, op_run hr2 h2 q2⟩⟩
/-- an expression that gives True or False, as a test -/
def gT (f : Ex) : Te := fun Γ => (f Γ).bind fun d => match d with | .bl b => some b | _ => none
theorem gT_some {Γ : DEnv} {b : Bool} (h : gT f Γ = some b) : f Γ = some (.bl b) := by
  obtain ⟨d, e, h⟩ := obind h
  cases d with
  | bl c => cases h; exact e
  | _ => cases h
theorem t_cmp {op : CmpOp} {o : D → D → Option D} (ho : OpD X (compareOp op) o) (ha : E X a f) (hb : E X b g) (hm : behindInMarks op b = false := by first | exact nomark _ | rfl) : T X (.Compare a [op] [b] pos) (gT (gOp o f g)) := by
  obtain ⟨r, hr, hr2⟩ := ho
  obtain ⟨t, h1, h2⟩ := ha.ex
  obtain ⟨u, q1, q2⟩ := hb.ex
  refine ⟨⟨_, pt_cmpR hr h1 q1 hm, fun G0 H0 Γ σ G H Q c R hf k => ?_⟩⟩
  refine op_run hr2 h2 q2 G0 H0 Γ σ G H _ _ R (gT_some hf) fun G' H' v x r => ?_
  cases r
  exact ⟨_, rfl, k G' H' x⟩
theorem t_val (h : E X e f) (he : ∀ whole, isTrue e X.env whole = (do let v ← whole; standAt e.pos; holding [v] (truthy v)) := by intro _; rfl) : T X e (gT f) := by
  obtain ⟨t, h1, h2⟩ := h.ex
  refine ⟨⟨_, pt_val h1 he, fun G0 H0 Γ σ G H Q c R hf k => ?_⟩⟩
  refine h2 G0 H0 Γ σ G H _ _ R (gT_some hf) fun G' H' v x r => ?_
  cases r
  exact ⟨_, rfl, k G' H' x⟩
/-- .. of any kind, by its truth -/
def dTru : D → Option Bool
  | .non => some false
  | .bl b => some b
  | .int i => some (i != 0)
  | .lst xs => some (!xs.isEmpty)
  | .tup xs => some (!xs.isEmpty)
  | .str x => if x.length < 1000000 then some ((x.length : Int) != 0) else none
  | _ => none
def gTru (f : Ex) : Te := fun Γ => (f Γ).bind dTru
theorem line_big : (1000000 : Nat) ≤ sizeLine := by decide
theorem dTru_ok {K : PySem.W.Frag} {mg : Str → Option Value} {G' H' : Hp} {v : V} {d : D} {c : Bool} (gh : Same G' H') (hf : dTru d = some c) (r : RepB K mg G' H' v d) : TruV K v H' c := by
  have emp : ∀ {vs : List V} {xs : List D}, RepL K mg G' vs xs → (!vs.isEmpty) = !xs.isEmpty := fun r => by cases r <;> rfl
  cases d with
  | non => cases hf; rcases r with r | ⟨p, vs, xs, z, _⟩
           · cases r; rfl
           · cases z
  | bl b => cases hf; rcases r with r | ⟨p, vs, xs, z, _⟩
            · cases r; rfl
            · cases z
  | int i => cases hf; rcases r with r | ⟨p, vs, xs, z, _⟩
             · cases r; rfl
             · cases z
  | str y =>
    rcases r with r | ⟨p, vs, xs, z, _⟩
    · cases r
      simp only [dTru] at hf
      split at hf
      · cases hf
        rename_i z
        exact ⟨Nat.le_trans (Nat.le_of_lt z) line_big, rfl⟩
      · cases hf
    · cases z
  | lst xs =>
    cases hf
    obtain ⟨p, vs, rfl, h, r⟩ := r.lst gh
    exact .inl ⟨vs, SqL.of h, (emp r).symm⟩
  | tup xs =>
    cases hf
    obtain ⟨p, vs, rfl, h, r⟩ := r.tup gh
    exact .inr (.inl ⟨vs, SqT.of h, (emp r).symm⟩)
  | scr ns => cases hf
  | obj c ds => cases hf
theorem t_tru (h : B X e f) (he : ∀ whole, isTrue e X.env whole = (do let v ← whole; standAt e.pos; holding [v] (truthy v)) := by intro _; rfl) : T X e (gTru f) := by
  obtain ⟨t, h1, h2⟩ := h.ex
  refine ⟨⟨_, pt_truth h1 he, fun G0 H0 Γ σ G H Q c R hf k => ?_⟩⟩
  obtain ⟨d, e1, hf⟩ := obind hf
  exact h2 G0 H0 Γ σ G H _ _ R e1 fun G' H' v x r => ⟨c, dTru_ok x.gh hf r, k G' H' x⟩
def gNot (f : Te) : Te := fun Γ => (f Γ).bind fun b => some (!b)
def gAnd (f g : Te) : Te := fun Γ => (f Γ).bind fun b => if b then g Γ else some false
def gOr (f g : Te) : Te := fun Γ => (f Γ).bind fun b => if b then some true else g Γ
variable {p q : Te} {rest : List Expr}
theorem t_not (h : T X e p) : T X (.UnaryOp .Not e pos) (gNot p) := by
  obtain ⟨t, h1, h2⟩ := h.ex
  refine ⟨⟨_, pt_not h1, fun G0 H0 Γ σ G H Q c R hf k => ?_⟩⟩
  obtain ⟨d, e1, hf⟩ := obind hf
  cases hf
  exact h2 G0 H0 Γ σ G H _ _ R e1 k
theorem W.t (h : W X e p) : T X e p := by
  obtain ⟨t, h1, h2⟩ := h.ex
  exact ⟨⟨t, h1.pt, h2⟩⟩
theorem w_and1 (h : T X a p) : W X (.BoolOp .And [a] pos) p := by
  obtain ⟨t, h1, h2⟩ := h.ex
  exact ⟨⟨_, pw_and1 h1, h2⟩⟩
theorem w_or1 (h : T X a p) : W X (.BoolOp .Or [a] pos) p := by
  obtain ⟨t, h1, h2⟩ := h.ex
  exact ⟨⟨_, pw_or1 h1, h2⟩⟩
theorem w_and (h : T X a p) (hr : W X (.BoolOp .And (b :: rest) pos) q) : W X (.BoolOp .And (a :: b :: rest) pos) (gAnd p q) := by
  obtain ⟨t, h1, h2⟩ := h.ex
  obtain ⟨u, q1, q2⟩ := hr.ex
  refine ⟨⟨_, pw_and h1 q1, fun G0 H0 Γ σ G H Q c R hf k => ?_⟩⟩
  obtain ⟨d, e1, hf⟩ := obind hf
  refine h2 G0 H0 Γ σ G H _ _ R e1 fun G' H' x => ?_
  cases d with
  | true =>
    refine iteT ?_
    exact q2 G0 H0 Γ σ G' H' _ _ (R.ext x) hf fun G2 H2 x2 => k G2 H2 (x.trans x2)
  | false =>
    refine iteF ?_
    cases hf
    exact k G' H' x
theorem w_or (h : T X a p) (hr : W X (.BoolOp .Or (b :: rest) pos) q) : W X (.BoolOp .Or (a :: b :: rest) pos) (gOr p q) := by
  obtain ⟨t, h1, h2⟩ := h.ex
  obtain ⟨u, q1, q2⟩ := hr.ex
  refine ⟨⟨_, pw_or h1 q1, fun G0 H0 Γ σ G H Q c R hf k => ?_⟩⟩
  obtain ⟨d, e1, hf⟩ := obind hf
  refine h2 G0 H0 Γ σ G H _ _ R e1 fun G' H' x => ?_
  cases d with
  | true =>
    refine iteT ?_
    cases hf
    exact k G' H' x
  | false =>
    refine iteF ?_
    exact q2 G0 H0 Γ σ G' H' _ _ (R.ext x) hf fun G2 H2 x2 => k G2 H2 (x.trans x2)
/-- tests as values -/
def gBl (p : Te) : Ex := fun Γ => (p Γ).bind fun b => some (.bl b)
/-- and, or of truth values as values -/
structure V1 (X : Cx) (e : Expr) (p : Te) : Prop where
  e : E X e (gBl p)
theorem E.v (h : E X e f) : V1 X e (gT f) := by
  obtain ⟨t, h1, h2⟩ := h.ex
  refine ⟨⟨⟨t, h1, fun G0 H0 Γ σ G H Q c R hf k => ?_⟩⟩⟩
  obtain ⟨d, e1, hf⟩ := obind hf
  cases hf
  exact h2 G0 H0 Γ σ G H _ _ R (gT_some e1) k
theorem v_one {op} (h : V1 X a p) : V1 X (.BoolOp op [a] pos) p := by
  obtain ⟨t, h1, h2⟩ := h.e.ex
  exact ⟨⟨⟨_, pe_one h1, h2⟩⟩⟩
theorem v_and (h : V1 X a p) (hr : V1 X (.BoolOp .And (b :: rest) pos) q) : V1 X (.BoolOp .And (a :: b :: rest) pos) (gAnd p q) := by
  obtain ⟨t, h1, h2⟩ := h.e.ex
  obtain ⟨u, q1, q2⟩ := hr.e.ex
  refine ⟨⟨⟨_, pe_and h1 q1, fun G0 H0 Γ σ G H Q c R hf k => ?_⟩⟩⟩
  obtain ⟨d0, e0, hf⟩ := obind hf
  cases hf
  obtain ⟨d, e1, hf⟩ := obind e0
  refine h2 G0 H0 Γ σ G H _ (.bl d) R (by show (p Γ).bind _ = _; rw [e1]; rfl) fun G' H' v x r => ?_
  cases r
  refine ⟨d, rfl, ?_⟩
  cases d with
  | true =>
    refine iteT ?_
    exact q2 G0 H0 Γ σ G' H' _ (.bl d0) (R.ext x) (by show (q Γ).bind _ = _; rw [show q Γ = some d0 from hf]; rfl) fun G2 H2 v x2 r => k G2 H2 v (x.trans x2) r
  | false =>
    refine iteF ?_
    cases hf
    exact k G' H' _ x (.bl _)
theorem v_or (h : V1 X a p) (hr : V1 X (.BoolOp .Or (b :: rest) pos) q) : V1 X (.BoolOp .Or (a :: b :: rest) pos) (gOr p q) := by
  obtain ⟨t, h1, h2⟩ := h.e.ex
  obtain ⟨u, q1, q2⟩ := hr.e.ex
  refine ⟨⟨⟨_, pe_or h1 q1, fun G0 H0 Γ σ G H Q c R hf k => ?_⟩⟩⟩
  obtain ⟨d0, e0, hf⟩ := obind hf
  cases hf
  obtain ⟨d, e1, hf⟩ := obind e0
  refine h2 G0 H0 Γ σ G H _ (.bl d) R (by show (p Γ).bind _ = _; rw [e1]; rfl) fun G' H' v x r => ?_
  cases r
  refine ⟨d, rfl, ?_⟩
  cases d with
  | true =>
    refine iteT ?_
    cases hf
    exact k G' H' _ x (.bl _)
  | false =>
    refine iteF ?_
    exact q2 G0 H0 Γ σ G' H' _ (.bl d0) (R.ext x) (by show (q Γ).bind _ = _; rw [show q Γ = some d0 from hf]; rfl) fun G2 H2 v x2 r => k G2 H2 v (x.trans x2) r
/-- not x as a value, x a truth value; or x by its truth (a list, a number) -/
theorem v_not (h : V1 X e p) : V1 X (.UnaryOp .Not e pos) (gNot p) := by
  obtain ⟨t, h1, h2⟩ := h.e.ex
  refine ⟨⟨⟨_, pe_not h1, fun G0 H0 Γ σ G H Q c R hf k => ?_⟩⟩⟩
  obtain ⟨d0, e0, hf⟩ := obind hf
  cases hf
  obtain ⟨d, e1, hf⟩ := obind e0
  cases hf
  refine h2 G0 H0 Γ σ G H _ (.bl d) R (by show (p Γ).bind _ = _; rw [e1]; rfl) fun G' H' v x r => ?_
  cases r
  exact ⟨d, rfl, k G' H' _ x (.bl _)⟩
/-- a if t else b -/
def gIf (t : Te) (f g : Ex) : Ex := fun Γ => (t Γ).bind fun b => if b then f Γ else g Γ
theorem e_if {c : Expr} (hc : T X c p) (ha : E X a f) (hb : E X b g) : E X (.IfExp c a b pos) (gIf p f g) := by
  obtain ⟨t, h1, h2⟩ := hc.ex
  obtain ⟨u, q1, q2⟩ := ha.ex
  obtain ⟨w, z1, z2⟩ := hb.ex
  refine ⟨⟨_, pe_ifExp h1 q1 z1, fun G0 H0 Γ σ G H Q d R hf k => ?_⟩⟩
  obtain ⟨b, e1, hf⟩ := obind hf
  refine h2 G0 H0 Γ σ G H _ _ R e1 fun G' H' x => ?_
  cases b with
  | true => exact iteT (q2 G0 H0 Γ σ G' H' _ _ (R.ext x) hf fun G2 H2 v x2 r => k G2 H2 v (x.trans x2) r)
  | false => exact iteF (z2 G0 H0 Γ σ G' H' _ _ (R.ext x) hf fun G2 H2 v x2 r => k G2 H2 v (x.trans x2) r)
end
end DL

namespace DL
open PySem L2

/-! ### operators by data -/
theorem opr_or {X : Cx} {fn : Value → Value → Sem Value} {r r' : R2} (h : OpR X fn r) (h' : OpR X fn r') : OpR X fn (fun x y H Q => r x y H Q ∨ r' x y H Q) := by
  intro pins s σ H x y v u Q I rx ry q
  rcases q with q | q
  · exact h pins s σ H x y v u Q I rx ry q
  · exact h' pins s σ H x y v u Q I rx ry q
def dAdd : D → D → Option D
  | .int i, .int j => some (.int (i + j))
  | .str x, .str y => if x.length + y.length < 1000000 then some (.str (x ++ y)) else none
  | .lst xs, .lst ys => if xs.length + ys.length < 1000000 then some (.lst (xs ++ ys)) else none
  | _, _ => none
def dSub : D → D → Option D
  | .int i, .int j => some (.int (i - j))
  | _, _ => none
def mulOk (a b : Int) : Bool := !(decide (Builtin.Int.intBits a > shortFactorBits) && decide (Builtin.Int.intBits b > shortFactorBits) && Builtin.Int.intTooBig (Builtin.Int.intBits a + Builtin.Int.intBits b))
def dMul : D → D → Option D
  | .int i, .int j => if mulOk i j then some (.int (i * j)) else none
  | _, _ => none
def dDiv : D → D → Option D
  | .int i, .int j => if 0 < j ∧ j.natAbs.log2 < 9000 then some (.int (i / j)) else none
  | _, _ => none
def dMod : D → D → Option D
  | .int i, .int j => if 0 < j then some (.int (i % j)) else none
  | _, _ => none
def dPow : D → D → Option D
  | .int i, .int j => if 0 ≤ j ∧ j ≤ 1000000 ∧ i.natAbs < 2 ^ 64 then some (.int (i ^ j.toNat)) else none
  | _, _ => none
def dLt : D → D → Option D
  | .int i, .int j => some (.bl (decide (i < j)))
  | _, _ => none
def dLe : D → D → Option D
  | .int i, .int j => some (.bl (decide (i ≤ j)))
  | _, _ => none
def dGt : D → D → Option D
  | .int i, .int j => some (.bl (decide (j < i)))
  | _, _ => none
def dGe : D → D → Option D
  | .int i, .int j => some (.bl (decide (j ≤ i)))
  | _, _ => none
section
variable {X : Cx}
theorem op_mulOk : OpR X (binaryOp .Mult) (rI (fun i j => mulOk i j = true) fun i j => .int (i * j)) := opI fun _ _ _ _ _ _ _ hc q => PyProof.Rows.mul_int q (by
  unfold IntMulOk
  unfold mulOk at hc
  intro z
  rw [z] at hc
  cases hc)
/-- an operator of two ints whose answer is a scalar -/
theorem opd_i {fn : Value → Value → Sem Value} {C : Int → Int → Prop} {g : Int → Int → V} {o : D → D → Option D} (h : OpR X fn (rI C g)) (ho : ∀ x y d, o x y = some d → ∃ i j, x = .int i ∧ y = .int j ∧ C i j ∧ ∀ K mg G, Rep K mg G (g i j) d) : OpD X fn o := by
  refine ⟨_, h, fun x y d v w G H Q gh e rx ry k => ?_⟩
  obtain ⟨i, j, rfl, rfl, c, q⟩ := ho x y d e
  cases rx
  cases ry
  exact ⟨i, j, rfl, rfl, c, k G H _ (Ext.refl gh) (q _ _ _)⟩
theorem opd_i0 {fn : Value → Value → Sem Value} {g : Int → Int → V} {o : D → D → Option D} (h : OpR X fn (rI0 g)) (ho : ∀ x y d, o x y = some d → ∃ i j, x = .int i ∧ y = .int j ∧ ∀ K mg G, Rep K mg G (g i j) d) : OpD X fn o := by
  refine ⟨_, h, fun x y d v w G H Q gh e rx ry k => ?_⟩
  obtain ⟨i, j, rfl, rfl, q⟩ := ho x y d e
  cases rx
  cases ry
  exact ⟨i, j, rfl, rfl, k G H _ (Ext.refl gh) (q _ _ _)⟩
theorem od_add : OpD X (binaryOp .Add) dAdd := by
  refine ⟨_, opr_or op_add (opr_or op_add_str op_cat), fun x y d v w G H Q gh e rx ry k => ?_⟩
  unfold dAdd at e
  split at e
  · cases e; cases rx; cases ry
    exact .inl ⟨_, _, rfl, rfl, k G H _ (Ext.refl gh) (.int _)⟩
  · split at e
    · cases e; cases rx; cases ry
      rename_i z
      exact .inr (.inl ⟨_, _, rfl, rfl, Nat.le_trans (Nat.le_of_lt z) line_big, k G H _ (Ext.refl gh) (.str _)⟩)
    · cases e
  · split at e
    · cases e
      rename_i z
      cases rx with
      | lst h1 r1 =>
        cases ry with
        | lst h2 r2 =>
          refine .inr (.inr ⟨_, _, _, _, rfl, rfl, gh _ _ h1, gh _ _ h2, ?_, fun p hp => ?_⟩)
          · rw [r1.length, r2.length]; exact Nat.le_trans (Nat.le_of_lt z) line_big
          · exact k _ _ _ (Ext.new1 gh hp) (.lst upd_same ((r1.append r2).mono (same_upd (gh.free hp))))
    · cases e
  · cases e
theorem od_sub : OpD X (binaryOp .Sub) dSub := opd_i0 op_sub fun x y d e => by
  unfold dSub at e
  split at e
  · cases e; exact ⟨_, _, rfl, rfl, fun _ _ _ => .int _⟩
  · cases e
theorem od_mul : OpD X (binaryOp .Mult) dMul := opd_i op_mulOk fun x y d e => by
  unfold dMul at e
  split at e
  · split at e
    · cases e; rename_i z; exact ⟨_, _, rfl, rfl, z, fun _ _ _ => .int _⟩
    · cases e
  · cases e
theorem od_div : OpD X (binaryOp .FloorDiv) dDiv := opd_i op_fdivW fun x y d e => by
  unfold dDiv at e
  split at e
  · split at e
    · cases e; rename_i z; exact ⟨_, _, rfl, rfl, z, fun _ _ _ => .int _⟩
    · cases e
  · cases e
theorem od_mod : OpD X (binaryOp .Mod) dMod := opd_i op_mod fun x y d e => by
  unfold dMod at e
  split at e
  · split at e
    · cases e; rename_i z; exact ⟨_, _, rfl, rfl, z, fun _ _ _ => .int _⟩
    · cases e
  · cases e
theorem od_pow : OpD X (binaryOp .Pow) dPow := opd_i op_pow fun x y d e => by
  unfold dPow at e
  split at e
  · split at e
    · cases e; rename_i z; exact ⟨_, _, rfl, rfl, z, fun _ _ _ => .int _⟩
    · cases e
  · cases e
theorem od_lt : OpD X (compareOp .Lt) dLt := opd_i0 op_lt fun x y d e => by
  unfold dLt at e
  split at e
  · cases e; exact ⟨_, _, rfl, rfl, fun _ _ _ => .bl _⟩
  · cases e
theorem od_le : OpD X (compareOp .LtE) dLe := opd_i0 op_le fun x y d e => by
  unfold dLe at e
  split at e
  · cases e; exact ⟨_, _, rfl, rfl, fun _ _ _ => .bl _⟩
  · cases e
theorem od_gt : OpD X (compareOp .Gt) dGt := opd_i0 op_gt fun x y d e => by
  unfold dGt at e
  split at e
  · cases e; exact ⟨_, _, rfl, rfl, fun _ _ _ => .bl _⟩
  · cases e
theorem od_ge : OpD X (compareOp .GtE) dGe := opd_i0 op_ge fun x y d e => by
  unfold dGe at e
  split at e
  · cases e; exact ⟨_, _, rfl, rfl, fun _ _ _ => .bl _⟩
  · cases e
end

/-! equality -/
mutual
def toPy : D → PyData
  | .non => .none
  | .bl b => .bool b
  | .int i => .int i
  | .str x => .str x
  | .lst xs => .list (toPys xs)
  | .tup xs => .tuple (toPys xs)
  | .scr ns => .list (ns.map PyData.int)
  | .obj _ _ => .none
def toPys : List D → List PyData
  | [] => []
  | x :: xs => toPy x :: toPys xs
end
mutual
def pyOk : D → Bool
  | .obj _ _ => false
  | .lst xs => pyOks xs
  | .tup xs => pyOks xs
  | _ => true
def pyOks : List D → Bool
  | [] => true
  | x :: xs => pyOk x && pyOks xs
end
section
variable {K : PySem.W.Frag} {mg : Str → Option Value} {G H : Hp}
theorem dpInts : ∀ ns : List Int, DpAll K H (ns.map V.int) (ns.map PyData.int)
  | [] => .nil
  | n :: ns => .cons (.int n) (dpInts ns)
mutual
theorem Rep.dp (gh : Same G H) : ∀ {v : V} {d : D}, Rep K mg G v d → pyOk d = true → Dp K H v (toPy d)
  | _, _, .non, _ => by rw [toPy]; exact .non
  | _, _, .bl b, _ => by rw [toPy]; exact .bl b
  | _, _, .int i, _ => by rw [toPy]; exact .int i
  | _, _, .str x, _ => by rw [toPy]; exact .str x
  | _, _, .lst h r, e => by rw [toPy]; exact .lst (SqL.of (gh _ _ h)) (RepL.dp gh r (by simpa [pyOk] using e))
  | _, _, .tup h r, e => by rw [toPy]; exact .tup (SqT.of (gh _ _ h)) (RepL.dp gh r (by simpa [pyOk] using e))
  | _, _, .scr h, _ => by rw [toPy]; exact .lst (gh.seq h) (dpInts _)
  | _, _, .obj _ _ _, e => by simp [pyOk] at e
theorem RepL.dp (gh : Same G H) : ∀ {v : List V} {d : List D}, RepL K mg G v d → pyOks d = true → DpAll K H v (toPys d)
  | _, _, .nil, _ => by rw [toPys]; exact .nil
  | _, _, .cons h r, e => by
    rw [toPys]
    have e' := e
    simp only [pyOks, Bool.and_eq_true] at e'
    exact .cons (Rep.dp gh h e'.1) (RepL.dp gh r e'.2)
end
theorem RepB.dp (gh : Same G H) {v : V} {d : D} (r : RepB K mg G H v d) (e : pyOk d = true) : Dp K H v (toPy d) := by
  rcases r with r | ⟨p, vs, xs, rfl, rfl, h, r⟩
  · exact r.dp gh e
  · rw [toPy]; exact .lst (SqL.of h) (r.dp gh (by simpa [pyOk] using e))
end
/-- == of data -/
def eqd (x y : D) : Bool := PyData.eqv (toPy x) (toPy y)
def eqOk (x : D) : Bool := pyOk x && SeqAt.shaped (toPy x)
def dEq (x y : D) : Option D := if eqOk x && eqOk y then some (.bl (eqd x y)) else none
def dNe (x y : D) : Option D := if eqOk x && eqOk y then some (.bl (!eqd x y)) else none
/-- is None, is not None -/
def isNon : D → Bool
  | .non => true
  | _ => false
def dIsN : D → D → Option D
  | x, .non => some (.bl (isNon x))
  | .bl a, .bl b => some (.bl (decide (a = b)))
  | _, _ => none
def dNoN : D → D → Option D
  | x, .non => some (.bl (!isNon x))
  | .bl a, .bl b => some (.bl (!decide (a = b)))
  | _, _ => none
section
variable {X : Cx} {e a b : Expr} {es : List Expr} {f g : Ex} {fs : Ag} {pos : Pos} {n : Nat}
/-- of what is looked at -/
def OpB (X : Cx) (fn : Value → Value → Sem Value) (o : D → D → Option D) : Prop :=
  ∃ r, OpR X fn r ∧ ∀ x y d v w G H Q, Same G H → o x y = some d → RepB X.K X.mg G H v x → RepB X.K X.mg G H w y → (∀ G' H' u, Ext G H G' H' → Rep X.K X.mg G' u d → Q u H') → r v w H Q
theorem opb_run {r : R2} {o : D → D → Option D} (hr : ∀ x y d v w G H Q, Same G H → o x y = some d → RepB X.K X.mg G H v x → RepB X.K X.mg G H w y → (∀ G' H' u, Ext G H G' H' → Rep X.K X.mg G' u d → Q u H') → r v w H Q)
    {t u : TE} (h2 : ∀ G0 H0 Γ σ G H Q d, Rel X.K X.mg G0 H0 Γ σ G H → f Γ = some d → (∀ G' H' v, Ext G H G' H' → RepB X.K X.mg G' H' v d → Q v H') → t σ H Q)
    (q2 : ∀ G0 H0 Γ σ G H Q d, Rel X.K X.mg G0 H0 Γ σ G H → g Γ = some d → (∀ G' H' v, Ext G H G' H' → RepB X.K X.mg G' H' v d → Q v H') → u σ H Q) :
    ∀ G0 H0 Γ σ G H Q d, Rel X.K X.mg G0 H0 Γ σ G H → gOp o f g Γ = some d → (∀ G' H' v, Ext G H G' H' → Rep X.K X.mg G' v d → Q v H') → tOp r t u σ H Q := fun G0 H0 Γ σ G H Q d R hf k => by
  obtain ⟨x, e1, hf⟩ := obind hf
  obtain ⟨y, e2, hf⟩ := obind hf
  refine h2 G0 H0 Γ σ G H _ x R e1 fun G1 H1 v x1 r1 => ?_
  refine q2 G0 H0 Γ σ G1 H1 _ y (R.ext x1) e2 fun G2 H2 w x2 r2 => ?_
  exact hr x y d v w G2 H2 Q x2.gh hf (r1.ext x2) r2 fun G3 H3 u x3 r3 => k G3 H3 u ((x1.trans x2).trans x3) r3
theorem e_cmpB {op : CmpOp} {o : D → D → Option D} (ho : OpB X (compareOp op) o) (ha : B X a f) (hb : B X b g) (hm : behindInMarks op b = false := by first | exact nomark _ | rfl) : E X (.Compare a [op] [b] pos) (gOp o f g) := by
  obtain ⟨r, hr, hr2⟩ := ho
  obtain ⟨t, h1, h2⟩ := ha.ex
  obtain ⟨u, q1, q2⟩ := hb.ex
  exact ⟨⟨_, pe_cmpR hr h1 q1 hm, opb_run hr2 h2 q2⟩⟩
theorem t_cmpB {op : CmpOp} {o : D → D → Option D} (ho : OpB X (compareOp op) o) (ha : B X a f) (hb : B X b g) (hm : behindInMarks op b = false := by first | exact nomark _ | rfl) : T X (.Compare a [op] [b] pos) (gT (gOp o f g)) := by
  obtain ⟨r, hr, hr2⟩ := ho
  obtain ⟨t, h1, h2⟩ := ha.ex
  obtain ⟨u, q1, q2⟩ := hb.ex
  refine ⟨⟨_, pt_cmpR hr h1 q1 hm, fun G0 H0 Γ σ G H Q c R hf k => ?_⟩⟩
  refine opb_run hr2 h2 q2 G0 H0 Γ σ G H _ _ R (gT_some hf) fun G' H' v x r => ?_
  cases r
  exact ⟨_, rfl, k G' H' x⟩
theorem ob_eq (hu : X.A.units + 64 < cLine) : OpB X (compareOp .Eq) dEq := by
  refine ⟨_, op_eqD hu, fun x y d v w G H Q gh e rx ry k => ?_⟩
  unfold dEq at e
  split at e
  · rename_i z
    cases e
    simp only [eqOk, Bool.and_eq_true] at z
    exact ⟨_, _, rx.dp gh z.1.1, ry.dp gh z.2.1, z.1.2, z.2.2, k G H _ (Ext.refl gh) (.bl _)⟩
  · cases e
theorem ob_ne (hu : X.A.units + 64 < cLine) : OpB X (compareOp .NotEq) dNe := by
  refine ⟨_, op_neD hu, fun x y d v w G H Q gh e rx ry k => ?_⟩
  unfold dNe at e
  split at e
  · rename_i z
    cases e
    simp only [eqOk, Bool.and_eq_true] at z
    exact ⟨_, _, rx.dp gh z.1.1, ry.dp gh z.2.1, z.1.2, z.2.2, k G H _ (Ext.refl gh) (.bl _)⟩
  · cases e
theorem ob_isN : OpB X (compareOp .Is) dIsN := by
  refine ⟨_, opr_or op_isN op_isBl, fun x y d v w G H Q gh e rx ry k => ?_⟩
  have nb : ∀ {w : V}, RepB X.K X.mg G H w .non → w = .non := fun r => by
    rcases r with r | ⟨_, _, _, z, _⟩
    · cases r; rfl
    · cases z
  have bb : ∀ {w : V} {b : Bool}, RepB X.K X.mg G H w (.bl b) → w = .bl b := fun r => by
    rcases r with r | ⟨_, _, _, z, _⟩
    · cases r; rfl
    · cases z
  unfold dIsN at e
  split at e
  · cases e
    have e2 := nb ry
    subst e2
    refine .inl ⟨rfl, k G H _ (Ext.refl gh) ?_⟩
    have q : decide (v = V.non) = isNon x := by
      cases x with
      | non => rw [nb rx]; rfl
      | lst xs => obtain ⟨_, _, rfl, _⟩ := rx.lst gh; rfl
      | bl b => rw [bb rx]; rfl
      | _ =>
        rcases rx with rx | ⟨_, _, _, z, _⟩
        · cases rx; rfl
        · cases z
    rw [q]
    exact .bl _
  · cases e
    rw [bb rx, bb ry]
    exact .inr ⟨_, _, rfl, rfl, k G H _ (Ext.refl gh) (.bl _)⟩
  · cases e
theorem ob_noN : OpB X (compareOp .IsNot) dNoN := by
  refine ⟨_, opr_or op_notN op_notBl, fun x y d v w G H Q gh e rx ry k => ?_⟩
  have nb : ∀ {w : V}, RepB X.K X.mg G H w .non → w = .non := fun r => by
    rcases r with r | ⟨_, _, _, z, _⟩
    · cases r; rfl
    · cases z
  have bb : ∀ {w : V} {b : Bool}, RepB X.K X.mg G H w (.bl b) → w = .bl b := fun r => by
    rcases r with r | ⟨_, _, _, z, _⟩
    · cases r; rfl
    · cases z
  unfold dNoN at e
  split at e
  · cases e
    have e2 := nb ry
    subst e2
    refine .inl ⟨rfl, k G H _ (Ext.refl gh) ?_⟩
    have q : (!decide (v = V.non)) = !isNon x := by
      cases x with
      | non => rw [nb rx]; rfl
      | lst xs => obtain ⟨_, _, rfl, _⟩ := rx.lst gh; rfl
      | bl b => rw [bb rx]; rfl
      | _ =>
        rcases rx with rx | ⟨_, _, _, z, _⟩
        · cases rx; rfl
        · cases z
    rw [q]
    exact .bl _
  · cases e
    rw [bb rx, bb ry]
    exact .inr ⟨_, _, rfl, rfl, k G H _ (Ext.refl gh) (.bl _)⟩
  · cases e

/-! a comparison in a row: a < b <= c -/
structure PCh (X : Cx) (ops : List CmpOp) (es : List Expr) (t : V → TE) : Prop where
  run : ∀ (pos : Pos) (pins : List (Addr × Obj)) (s : Shared) (σ : L2.St) (H : Hp) (Q : VK) (x : V) (v : Value), Inv X pins σ H s → RelV x v → t x σ H Q →
    wpAny (model X.prog X.w) X.A (compareChain pos v ops (evalEach es X.env)) (EP X pins σ Q) X.xe s
structure PTCh (X : Cx) (ops : List CmpOp) (es : List Expr) (t : V → TT) : Prop where
  run : ∀ (pos : Pos) (pins : List (Addr × Obj)) (s : Shared) (σ : L2.St) (H : Hp) (Q : Bool → Hp → Prop) (x : V) (v : Value), Inv X pins σ H s → RelV x v → t x σ H Q →
    wpAny (model X.prog X.w) X.A (testChain pos v ops (evalEach es X.env)) (TP X pins σ Q) X.xe s
variable {op op' : CmpOp} {ops : List CmpOp} {r r' : R2} {ta tb : TE} {tc : V → TE} {tt : V → TT} {pos' : Pos}
theorem pch_last (ho : OpR X (compareOp op) r) (hb : PE X b tb) : PCh X [op] [b] (fun x σ H Q => tb σ H fun y H1 => r x y H1 Q) := by
  refine ⟨fun pos pins s σ H Q x v I rx h => ?_⟩
  exact PyProof.Rows.chain_last (thn (hb.run pins s σ H _ I h) fun u s2 ⟨y, H2, I2, r2, q2⟩ => ho pins s2 σ H2 x y v u _ I2 rx r2 q2)
theorem pch_cons (ho : OpR X (compareOp op) r) (ha : PE X a ta) (hc : PCh X (op' :: ops) (b :: es) tc) : PCh X (op :: op' :: ops) (a :: b :: es) (fun x σ H Q => ta σ H fun y H1 => r x y H1 fun z H2 => ∃ k, z = .bl k ∧ if k = true then tc y σ H2 Q else Q (.bl false) H2) := by
  refine ⟨fun pos pins s σ H Q x v I rx h => ?_⟩
  refine PyProof.Rows.chain_link (thn (ha.run pins s σ H _ I h) fun u s2 ⟨y, H2, I2, r2, q2⟩ => thn (ho pins s2 σ H2 x y v u _ I2 rx r2 q2) fun d s3 ⟨z, H3, I3, r3, k, e, q3⟩ => ?_)
  subst e
  cases r3
  refine wpAny_truthy_bool ?_
  cases k with
  | false => exact PyProof.Rows.ite_ff ⟨.bl false, H3, I3, rfl, q3⟩
  | true => exact PyProof.Rows.ite_tt (hc.run pos pins s3 σ H3 Q y u I3 r2 q3)
theorem pe_chn (ha : PE X e ta) (hc : PCh X (op :: op' :: ops) (a :: b :: es) tc) (hm : lastMarks (op :: op' :: ops) (a :: b :: es) = false := by with_unfolding_all rfl) : PE X (.Compare e (op :: op' :: ops) (a :: b :: es) pos) (fun σ H Q => ta σ H fun x H1 => tc x σ H1 Q) := by
  refine ⟨fun pins s σ H Q I h => ?_⟩
  exact PyProof.Rows.Compare_chain (thn (ha.run pins s σ H _ I h) fun v s1 ⟨x, H1, I1, r1, q1⟩ => hc.run pos pins s1 σ H1 Q x v I1 r1 q1) hm
theorem ptch_last (ho : OpR X (compareOp op) r) (hb : PE X b tb) : PTCh X [op] [b] (fun x σ H Q => tb σ H fun y H1 => r x y H1 fun z H2 => ∃ k, z = .bl k ∧ Q k H2) := by
  refine ⟨fun pos pins s σ H Q x v I rx h => ?_⟩
  refine PyProof.Rows.test_last (thn (hb.run pins s σ H _ I h) fun u s2 ⟨y, H2, I2, r2, q2⟩ => thn (ho pins s2 σ H2 x y v u _ I2 rx r2 q2) fun d s3 ⟨z, H3, I3, r3, k, e, q3⟩ => ?_)
  subst e
  cases r3
  exact wpAny_truthy_bool ⟨H3, I3, q3⟩
theorem ptch_cons (ho : OpR X (compareOp op) r) (ha : PE X a ta) (hc : PTCh X (op' :: ops) (b :: es) tt) : PTCh X (op :: op' :: ops) (a :: b :: es) (fun x σ H Q => ta σ H fun y H1 => r x y H1 fun z H2 => ∃ k, z = .bl k ∧ if k = true then tt y σ H2 Q else Q false H2) := by
  refine ⟨fun pos pins s σ H Q x v I rx h => ?_⟩
  refine PyProof.Rows.test_link (thn (ha.run pins s σ H _ I h) fun u s2 ⟨y, H2, I2, r2, q2⟩ => thn (ho pins s2 σ H2 x y v u _ I2 rx r2 q2) fun d s3 ⟨z, H3, I3, r3, k, e, q3⟩ => ?_)
  subst e
  cases r3
  refine wpAny_truthy_bool ?_
  cases k with
  | false => exact PyProof.Rows.ite_ff ⟨H3, I3, q3⟩
  | true => exact PyProof.Rows.ite_tt (hc.run pos pins s3 σ H3 Q y u I3 r2 q3)
theorem pt_chn (ha : PE X e ta) (hc : PTCh X (op :: op' :: ops) (a :: b :: es) tt) (hm : lastMarks (op :: op' :: ops) (a :: b :: es) = false := by with_unfolding_all rfl) : PT X (.Compare e (op :: op' :: ops) (a :: b :: es) pos) (fun σ H Q => ta σ H fun x H1 => tt x σ H1 Q) := by
  refine ⟨fun pins s σ H Q I h => ?_⟩
  exact PyProof.Rows.isTrue_chain (thn (ha.run pins s σ H _ I h) fun v s1 ⟨x, H1, I1, r1, q1⟩ => hc.run pos pins s1 σ H1 Q x v I1 r1 q1) hm
/-- by data -/
structure Ch (X : Cx) (ops : List CmpOp) (es : List Expr) (f : D → Te) : Prop where
  ex : ∃ t u, PCh X ops es t ∧ PTCh X ops es u ∧
    (∀ G0 H0 Γ σ G H Q d x v, Rel X.K X.mg G0 H0 Γ σ G H → Rep X.K X.mg G v x → f x Γ = some d → (∀ G' H', Ext G H G' H' → Q (.bl d) H') → t v σ H Q) ∧
    (∀ G0 H0 Γ σ G H Q d x v, Rel X.K X.mg G0 H0 Γ σ G H → Rep X.K X.mg G v x → f x Γ = some d → (∀ G' H', Ext G H G' H' → Q d H') → u v σ H Q)
def dB : Option D → Option Bool
  | some (.bl b) => some b
  | _ => none
theorem dB_some {o : Option D} {b : Bool} (h : dB o = some b) : o = some (.bl b) := by
  unfold dB at h
  split at h
  · cases h; rfl
  · cases h
def gCh1 (o : D → D → Option D) (f : Ex) : D → Te := fun x Γ => (f Γ).bind fun y => dB (o x y)
def gChn (o : D → D → Option D) (f : Ex) (r : D → Te) : D → Te := fun x Γ => (f Γ).bind fun y => (dB (o x y)).bind fun b => if b then r y Γ else some false
variable {o : D → D → Option D} {c : D → Te}
theorem c_last (ho : OpD X (compareOp op) o) (hb : E X b f) : Ch X [op] [b] (gCh1 o f) := by
  obtain ⟨r, hr, hr2⟩ := ho
  obtain ⟨t, h1, h2⟩ := hb.ex
  refine ⟨⟨_, _, pch_last hr h1, ptch_last hr h1, fun G0 H0 Γ σ G H Q d x v R rx hf k => ?_, fun G0 H0 Γ σ G H Q d x v R rx hf k => ?_⟩⟩
  · obtain ⟨y, e1, hf⟩ := obind hf
    refine h2 G0 H0 Γ σ G H _ y R e1 fun G1 H1 w x1 r1 => ?_
    refine hr2 x y _ v w G1 H1 _ x1.gh (dB_some hf) (rx.mono x1.gg) r1 fun G2 H2 u x2 r2 => ?_
    cases r2
    exact k G2 H2 (x1.trans x2)
  · obtain ⟨y, e1, hf⟩ := obind hf
    refine h2 G0 H0 Γ σ G H _ y R e1 fun G1 H1 w x1 r1 => ?_
    refine hr2 x y _ v w G1 H1 _ x1.gh (dB_some hf) (rx.mono x1.gg) r1 fun G2 H2 u x2 r2 => ?_
    cases r2
    exact ⟨_, rfl, k G2 H2 (x1.trans x2)⟩
theorem c_cons (ho : OpD X (compareOp op) o) (ha : E X a f) (hc : Ch X (op' :: ops) (b :: es) c) : Ch X (op :: op' :: ops) (a :: b :: es) (gChn o f c) := by
  obtain ⟨r, hr, hr2⟩ := ho
  obtain ⟨t, h1, h2⟩ := ha.ex
  obtain ⟨tc, tt, c1, c2, c3, c4⟩ := hc.ex
  refine ⟨⟨_, _, pch_cons hr h1 c1, ptch_cons hr h1 c2, fun G0 H0 Γ σ G H Q d x v R rx hf k => ?_, fun G0 H0 Γ σ G H Q d x v R rx hf k => ?_⟩⟩
  · obtain ⟨y, e1, hf⟩ := obind hf
    obtain ⟨z, e2, hf⟩ := obind hf
    refine h2 G0 H0 Γ σ G H _ y R e1 fun G1 H1 w x1 r1 => ?_
    refine hr2 x y _ v w G1 H1 _ x1.gh (dB_some e2) (rx.mono x1.gg) r1 fun G2 H2 u x2 r2 => ?_
    cases r2
    refine ⟨_, rfl, ?_⟩
    cases z with
    | true => exact iteT (c3 G0 H0 Γ σ G2 H2 Q d y w ((R.ext x1).ext x2) (r1.mono x2.gg) hf fun G3 H3 x3 => k G3 H3 ((x1.trans x2).trans x3))
    | false => cases hf; exact iteF (k G2 H2 (x1.trans x2))
  · obtain ⟨y, e1, hf⟩ := obind hf
    obtain ⟨z, e2, hf⟩ := obind hf
    refine h2 G0 H0 Γ σ G H _ y R e1 fun G1 H1 w x1 r1 => ?_
    refine hr2 x y _ v w G1 H1 _ x1.gh (dB_some e2) (rx.mono x1.gg) r1 fun G2 H2 u x2 r2 => ?_
    cases r2
    refine ⟨_, rfl, ?_⟩
    cases z with
    | true => exact iteT (c4 G0 H0 Γ σ G2 H2 Q d y w ((R.ext x1).ext x2) (r1.mono x2.gg) hf fun G3 H3 x3 => k G3 H3 ((x1.trans x2).trans x3))
    | false => cases hf; exact iteF (k G2 H2 (x1.trans x2))
def gCh (f : Ex) (c : D → Te) : Te := fun Γ => (f Γ).bind fun x => c x Γ
theorem v_chn (ha : E X e f) (hc : Ch X (op :: op' :: ops) (a :: b :: es) c) (hm : lastMarks (op :: op' :: ops) (a :: b :: es) = false := by with_unfolding_all rfl) : V1 X (.Compare e (op :: op' :: ops) (a :: b :: es) pos) (gCh f c) := by
  obtain ⟨t, h1, h2⟩ := ha.ex
  obtain ⟨tc, tt, c1, c2, c3, c4⟩ := hc.ex
  refine ⟨⟨⟨_, pe_chn h1 c1 hm, fun G0 H0 Γ σ G H Q d R hf k => ?_⟩⟩⟩
  obtain ⟨y, e1, hf⟩ := obind hf
  cases hf
  obtain ⟨x, e1, hf⟩ := obind e1
  refine h2 G0 H0 Γ σ G H _ x R e1 fun G1 H1 w x1 r1 => ?_
  exact c3 G0 H0 Γ σ G1 H1 Q _ x w (R.ext x1) r1 hf fun G2 H2 x2 => k G2 H2 _ (x1.trans x2) (.bl _)
theorem t_chn (ha : E X e f) (hc : Ch X (op :: op' :: ops) (a :: b :: es) c) (hm : lastMarks (op :: op' :: ops) (a :: b :: es) = false := by with_unfolding_all rfl) : T X (.Compare e (op :: op' :: ops) (a :: b :: es) pos) (gCh f c) := by
  obtain ⟨t, h1, h2⟩ := ha.ex
  obtain ⟨tc, tt, c1, c2, c3, c4⟩ := hc.ex
  refine ⟨⟨_, pt_chn h1 c2 hm, fun G0 H0 Γ σ G H Q d R hf k => ?_⟩⟩
  obtain ⟨x, e1, hf⟩ := obind hf
  refine h2 G0 H0 Γ σ G H _ x R e1 fun G1 H1 w x1 r1 => ?_
  exact c4 G0 H0 Γ σ G1 H1 Q _ x w (R.ext x1) r1 hf fun G2 H2 x2 => k G2 H2 (x1.trans x2)
end
end DL

namespace DL
open PySem L2

section
variable {K : PySem.W.Frag} {mg : Str → Option Value} {G H : Hp}
theorem atI_map {α β : Type} {xs : List α} {i : Int} {f : α → β} : atI (xs.map f) i = (atI xs i).map f := by
  unfold atI
  rw [List.length_map]
  cases ixN xs.length i with
  | none => rfl
  | some j => simp [List.getElem?_map]
theorem RepL.at {vs : List V} {ds : List D} {i : Int} {d : D} (r : RepL K mg G vs ds) (h : atI ds i = some d) : ∃ v, atI vs i = some v ∧ Rep K mg G v d := by
  unfold atI at h ⊢
  rw [r.length]
  cases e : ixN ds.length i with
  | none => rw [e] at h; cases h
  | some j =>
    rw [e] at h
    exact r.get j h
/-- what a slice takes -/
def cutD {α : Type} (xs : List α) (lo hi : Option Int) : List α := (xs.drop (HT.sIx xs.length 0 lo)).take (HT.sIx xs.length xs.length hi - HT.sIx xs.length 0 lo)
theorem RepL.cut {vs : List V} {ds : List D} {lo hi : Option Int} (r : RepL K mg G vs ds) : RepL K mg G (cutV vs lo hi) (cutD ds lo hi) := by
  unfold cutV cutD
  rw [r.length]
  exact (r.drop _).take _
theorem cutV_ints (ns : List Int) (lo hi : Option Int) : cutV (ns.map V.int) lo hi = (cutD ns lo hi).map V.int := by
  unfold cutV cutD
  rw [List.length_map, List.map_take, List.map_drop]
end

/-! ### the classes -/
structure CK (K : PySem.W.Frag) (mg : Str → Option Value) (c : Nat) (C : Addr) : Prop where
  hm : mg (cN c) = some (.ref C)
  cl : Cls K C
  na : ∀ f ∈ cF c, NoAttr K C f
theorem zip_lookup : ∀ {ns : List Str} {vs : List V} {j : Nat} {x : Str} {v : V}, ns.Nodup → ns[j]? = some x → vs[j]? = some v → (ns.zip vs).lookup x = some v
  | [], _, _, _, _, _, h, _ => by simp at h
  | _ :: _, [], _, _, _, _, _, h => by simp at h
  | n :: ns, w :: vs, 0, x, v, nd, h1, h2 => by
    simp at h1 h2; subst h1; subst h2
    simp [List.zip, List.lookup]
  | n :: ns, w :: vs, j + 1, x, v, nd, h1, h2 => by
    have hn : x ≠ n := fun e => by
      subst e
      exact (List.nodup_cons.mp nd).1 (List.mem_of_getElem? (by simpa using h1))
    rw [List.zip_cons_cons, List.lookup_cons]
    have e : (x == n) = false := beq_eq_false_iff_ne.mpr hn
    rw [e]
    exact zip_lookup (j := j) (List.nodup_cons.mp nd).2 (by simpa using h1) (by simpa using h2)
theorem zip_lookup_none : ∀ {ns : List Str} {vs : List V} {x : Str}, x ∉ ns → (ns.zip vs).lookup x = none
  | [], _, _, _ => by simp
  | _ :: _, [], _, _ => by simp
  | n :: ns, w :: vs, x, h => by
    rw [List.zip_cons_cons, List.lookup_cons]
    have e : (x == n) = false := beq_eq_false_iff_ne.mpr fun e => h (by simp [e])
    rw [e]
    exact zip_lookup_none fun z => h (List.mem_cons_of_mem _ z)

section
variable {X : Cx} {e a b o : Expr} {es : List Expr} {f g : Ex} {fs : Ag} {pos : Pos} {n : Nat}

/-! subscripts -/
def dIx : D → D → Option D
  | .lst xs, .int i => atI xs i
  | .tup xs, .int i => atI xs i
  | .scr ns, .int i => (atI ns i).map D.int
  | .str z, .int i => if z.length < 1000000 then (atI z.cps.toList i).map fun c => .str ⟨#[c]⟩ else none
  | _, _ => none
abbrev gIx (f g : Ex) : Ex := gOp dIx f g
theorem Rep.intv {K mg G v i} (r : Rep K mg G v (.int i)) : v = .int i := by cases r; rfl
theorem Rep.strv {K mg G v i} (r : Rep K mg G v (.str i)) : v = .str i := by cases r; rfl
theorem Rep.blv {K mg G v i} (r : Rep K mg G v (.bl i)) : v = .bl i := by cases r; rfl
theorem RepB.flat {K mg G H v d} (r : RepB K mg G H v d) (h : ∀ xs, d ≠ .lst xs) : Rep K mg G v d := by
  rcases r with r | ⟨_, _, xs, z, _⟩
  · exact r
  · exact absurd z (h xs)
theorem e_ix (ha : B X a f) (hb : E X b g) (hs : PlainIx b := by exact fun _ _ => rfl) : E X (.Subscript a b pos) (gIx f g) := by
  obtain ⟨t, h1, h2⟩ := ha.ex
  obtain ⟨u, q1, q2⟩ := hb.ex
  refine ⟨⟨_, pe_ix ix_seq h1 q1 hs, fun G0 H0 Γ σ G H Q d R hf k => ?_⟩⟩
  obtain ⟨x, e1, hf⟩ := obind hf
  obtain ⟨y, e2, hf⟩ := obind hf
  refine h2 G0 H0 Γ σ G H _ x R e1 fun G1 H1 v x1 r1 => ?_
  refine q2 G0 H0 Γ σ G1 H1 _ y (R.ext x1) e2 fun G2 H2 w x2 r2 => ?_
  have r1' := r1.ext x2
  have fin : ∀ v, Rep X.K X.mg G2 v d → Q v H2 := fun v r => k G2 H2 v (x1.trans x2) r
  cases x with
  | lst xs =>
    cases y with
    | int i =>
      obtain ⟨p, vs, rfl, h, r⟩ := r1'.lst x2.gh
      obtain ⟨v, h3, h4⟩ := r.at hf
      rw [r2.intv]
      exact .inl ⟨p, vs, _, v, rfl, rfl, SqL.of h, h3, fin v h4⟩
    | _ => cases hf
  | tup xs =>
    cases y with
    | int i =>
      obtain ⟨p, vs, rfl, h, r⟩ := r1'.tup x2.gh
      obtain ⟨v, h3, h4⟩ := r.at hf
      rw [r2.intv]
      exact .inr (.inl ⟨p, vs, _, v, rfl, rfl, SqT.of h, h3, fin v h4⟩)
    | _ => cases hf
  | scr ns =>
    cases y with
    | int i =>
      obtain ⟨p, rfl, h⟩ := r1'.scr x2.gh
      rw [r2.intv]
      replace hf : (atI ns i).map D.int = some d := hf
      cases e3 : atI ns i with
      | none => rw [e3] at hf; cases hf
      | some m =>
        rw [e3] at hf; cases hf
        exact .inl ⟨p, _, i, .int m, rfl, rfl, h, by rw [atI_map, e3]; rfl, fin _ (.int m)⟩
    | _ => cases hf
  | str z =>
    cases y with
    | int i =>
      replace hf : (if z.length < 1000000 then (atI z.cps.toList i).map fun c => D.str ⟨#[c]⟩ else none) = some d := hf
      split at hf
      · rename_i hz
        rw [r2.intv, (r1'.flat (by simp)).strv]
        cases e3 : atI z.cps.toList i with
        | none => rw [e3] at hf; cases hf
        | some c =>
          rw [e3] at hf; cases hf
          exact .inr (.inr ⟨z, i, c, rfl, rfl, Nat.le_trans (Nat.le_of_lt hz) line_big, e3, fin _ (.str _)⟩)
      · cases hf
    | _ => cases hf
  | _ => cases hf

/-! slices of lists -/
abbrev Op := DEnv → Option (Option Int)
structure O (X : Cx) (e : Option Expr) (f : Op) : Prop where
  ex : ∃ t, PO X e t ∧ ∀ G0 H0 Γ σ G H Q d, Rel X.K X.mg G0 H0 Γ σ G H → f Γ = some d → (∀ G' H', Ext G H G' H' → Q d H') → t σ H Q
def gNo : Op := fun _ => some none
def gSo (f : Ex) : Op := fun Γ => (f Γ).bind fun d => match d with | .int i => some (some i) | _ => none
theorem o_no : O X none gNo := ⟨⟨_, po_none, fun G0 H0 Γ σ G H Q d R hf k => by cases hf; exact k G H (Ext.refl R.gh)⟩⟩
theorem o_so (h : E X e f) : O X (some e) (gSo f) := by
  obtain ⟨t, h1, h2⟩ := h.ex
  refine ⟨⟨_, po_some h1, fun G0 H0 Γ σ G H Q d R hf k => ?_⟩⟩
  obtain ⟨x, e1, hf⟩ := obind hf
  cases x with
  | int i =>
    cases hf
    refine h2 G0 H0 Γ σ G H _ _ R e1 fun G1 H1 v x1 r1 => ?_
    rw [r1.intv]
    exact ⟨i, rfl, k G1 H1 x1⟩
  | _ => cases hf
def dCut : D → Option Int → Option Int → Option (List D)
  | .lst xs, lo, hi => some (cutD xs lo hi)
  | .scr ns, lo, hi => some ((cutD ns lo hi).map D.int)
  | _, _, _ => none
def gSl (f : Ex) (lo hi : Op) : Ag := fun Γ => (f Γ).bind fun x => (lo Γ).bind fun l => (hi Γ).bind fun h => dCut x l h
theorem el_sl {lo hi : Option Expr} {p2 : Pos} {fl fh : Op} (he : B X e f) (hl : O X lo fl) (hh : O X hi fh) : EL X (.Subscript e (.Slice lo hi none p2) pos) (gSl f fl fh) := by
  obtain ⟨t, h1, h2⟩ := he.ex
  obtain ⟨u, q1, q2⟩ := hl.ex
  obtain ⟨w, z1, z2⟩ := hh.ex
  refine ⟨⟨_, pe_slice sl_list h1 q1 z1, fun G0 H0 Γ σ G H Q ds R hf k => ?_⟩⟩
  obtain ⟨x, e1, hf⟩ := obind hf
  obtain ⟨l, e2, hf⟩ := obind hf
  obtain ⟨h, e3, hf⟩ := obind hf
  refine h2 G0 H0 Γ σ G H _ x R e1 fun G1 H1 v x1 r1 => ?_
  refine q2 G0 H0 Γ σ G1 H1 _ l (R.ext x1) e2 fun G2 H2 x2 => ?_
  refine z2 G0 H0 Γ σ G2 H2 _ h ((R.ext x1).ext x2) e3 fun G3 H3 x3 => ?_
  have x23 := x2.trans x3
  have r1' := r1.ext x23
  have xx := x1.trans x23
  cases x with
  | lst xs =>
    cases hf
    obtain ⟨p, vs, rfl, h', r⟩ := r1'.lst x3.gh
    refine ⟨p, vs, rfl, SqL.of h', fun q hq => ?_⟩
    exact k G3 _ q _ (xx.trans (Ext.own1 x3.gh hq)) (xx.hh.free hq) (x3.gh.free hq) upd_same r.cut
  | scr ns =>
    cases hf
    obtain ⟨p, rfl, h'⟩ := r1'.scr x3.gh
    refine ⟨p, _, rfl, h', fun q hq => ?_⟩
    refine k G3 _ q _ (xx.trans (Ext.own1 x3.gh hq)) (xx.hh.free hq) (x3.gh.free hq) upd_same ?_
    rw [cutV_ints]
    exact RepL.ofInts
  | _ => cases hf

/-! calls of built-ins -/
/-- an argument that is looked at, alone -/
def CbB (X : Cx) (v : Value) (o : D → Option D) : Prop :=
  ∃ r, CallR X v r ∧ ∀ x d v G H Q, Same G H → o x = some d → RepB X.K X.mg G H v x → (∀ G' H' u, Ext G H G' H' → Rep X.K X.mg G' u d → Q u H') → r [v] H Q
def gU (o : D → Option D) (f : Ex) : Ex := fun Γ => (f Γ).bind o
theorem e_cb {id : String} {x : Str} {p : Pos} {q : D → Option D} (hc : CbB X (.builtin id) q) (hg : Gl X x) (hm : X.mg x = none) (hv : bootBuiltins x = some (.builtin id)) (ha : B X a f) (hn : x ≠ "__name__" := by decide) (hdb : (x == ("__debug__" : Str)) = false := by decide)
    (he : starEach [a] X.env = (false, eval a X.env) :: starEach [] X.env := by rfl) (hpl : (backTo pos (starEach [] X.env)).any (·.1) = false := by rfl) : E X (.Call (.Name x p) [a] [] pos) (gU q f) := by
  obtain ⟨r, c1, c2⟩ := hc
  obtain ⟨t, h1, h2⟩ := ha.ex
  refine ⟨⟨_, pe_callB c1 hg hm hv (pa_cons h1 pa_nil he) hn hdb he hpl, fun G0 H0 Γ σ G H Q d R hf k => ?_⟩⟩
  obtain ⟨y, e1, hf⟩ := obind hf
  refine h2 G0 H0 Γ σ G H _ y R e1 fun G1 H1 v x1 r1 => ?_
  exact c2 y d v G1 H1 Q x1.gh hf r1 fun G2 H2 u x2 r2 => k G2 H2 u (x1.trans x2) r2
theorem e_cty {id : String} {x : Str} {p : Pos} {q : D → Option D} (hc : CbB X (.type id) q) (hg : Gl X x) (hm : X.mg x = none) (hv : bootBuiltins x = some (.type id)) (ha : B X a f) (hn : x ≠ "__name__" := by decide) (hdb : (x == ("__debug__" : Str)) = false := by decide)
    (he : starEach [a] X.env = (false, eval a X.env) :: starEach [] X.env := by rfl) (hpl : (backTo pos (starEach [] X.env)).any (·.1) = false := by rfl) : E X (.Call (.Name x p) [a] [] pos) (gU q f) := by
  obtain ⟨r, c1, c2⟩ := hc
  obtain ⟨t, h1, h2⟩ := ha.ex
  refine ⟨⟨_, pe_callTy c1 hg hm hv (pa_cons h1 pa_nil he) hn hdb he hpl, fun G0 H0 Γ σ G H Q d R hf k => ?_⟩⟩
  obtain ⟨y, e1, hf⟩ := obind hf
  refine h2 G0 H0 Γ σ G H _ y R e1 fun G1 H1 v x1 r1 => ?_
  exact c2 y d v G1 H1 Q x1.gh hf r1 fun G2 H2 u x2 r2 => k G2 H2 u (x1.trans x2) r2
def dLen : D → Option D
  | .lst xs => some (.int xs.length)
  | .tup xs => some (.int xs.length)
  | .scr ns => some (.int ns.length)
  | .str z => if z.length < 1000000 then some (.int z.length) else none
  | _ => none
theorem callr_or {v : Value} {r r' : List V → Hp → VK → Prop} (h : CallR X v r) (h' : CallR X v r') : CallR X v (fun xs H Q => r xs H Q ∨ r' xs H Q) := by
  intro pins s σ H xs us Q I rx q
  rcases q with q | q
  · exact h pins s σ H xs us Q I rx q
  · exact h' pins s σ H xs us Q I rx q
theorem cb_len : CbB X (.builtin "len") dLen := by
  refine ⟨_, callr_or call_len_seq call_len_str, fun x d v G H Q gh e r k => ?_⟩
  unfold dLen at e
  split at e
  · cases e
    obtain ⟨p, vs, rfl, h, r⟩ := r.lst gh
    exact .inl ⟨p, vs, rfl, .inl (SqL.of h), by rw [r.length]; exact k G H _ (Ext.refl gh) (.int _)⟩
  · cases e
    obtain ⟨p, vs, rfl, h, r⟩ := r.tup gh
    exact .inl ⟨p, vs, rfl, .inr (SqT.of h), by rw [r.length]; exact k G H _ (Ext.refl gh) (.int _)⟩
  · cases e
    obtain ⟨p, rfl, h⟩ := r.scr gh
    exact .inl ⟨p, _, rfl, .inl h, by rw [List.length_map]; exact k G H _ (Ext.refl gh) (.int _)⟩
  · split at e
    · cases e
      rename_i z hz
      rw [(r.flat (by simp)).strv]
      exact .inr ⟨z, rfl, Nat.le_trans (Nat.le_of_lt hz) line_big, k G H _ (Ext.refl gh) (.int _)⟩
    · cases e
  · cases e
def dAbs : D → Option D
  | .int i => some (.int (if i < 0 then -i else i))
  | _ => none
theorem cb_abs : CbB X (.builtin "abs") dAbs := by
  refine ⟨_, call_abs, fun x d v G H Q gh e r k => ?_⟩
  unfold dAbs at e
  split at e
  · cases e
    rw [(r.flat (by simp)).intv]
    exact ⟨_, rfl, k G H _ (Ext.refl gh) (.int _)⟩
  · cases e
def dInt : D → Option D
  | .int i => some (.int i)
  | .bl b => some (.int (if b then 1 else 0))
  | _ => none
theorem cb_int : CbB X (.type "int") dInt := by
  refine ⟨_, call_int1, fun x d v G H Q gh e r k => ?_⟩
  unfold dInt at e
  split at e
  · cases e
    rw [(r.flat (by simp)).intv]
    exact .inl ⟨_, rfl, k G H _ (Ext.refl gh) (.int _)⟩
  · cases e
    rw [(r.flat (by simp)).blv]
    exact .inr ⟨_, rfl, k G H _ (Ext.refl gh) (.int _)⟩
  · cases e
/-! lists of ints, of truth values -/
def ints? : List D → Option (List Int)
  | [] => some []
  | .int i :: r => (ints? r).map (i :: ·)
  | _ :: _ => none
def bls? : List D → Option (List Bool)
  | [] => some []
  | .bl i :: r => (bls? r).map (i :: ·)
  | _ :: _ => none
theorem ints?_map : ∀ ns : List Int, ints? (ns.map D.int) = some ns
  | [] => rfl
  | n :: ns => by simp [ints?, ints?_map ns]
theorem bls?_map : ∀ ns : List Bool, bls? (ns.map D.bl) = some ns
  | [] => rfl
  | n :: ns => by simp [bls?, bls?_map ns]
theorem ints?_some : ∀ {ds : List D} {ns : List Int}, ints? ds = some ns → ds = ns.map D.int
  | [], _, h => by cases h; rfl
  | .int i :: r, ns, h => by
    simp only [ints?, Option.map_eq_some_iff] at h
    obtain ⟨m, h1, rfl⟩ := h
    rw [ints?_some h1]; rfl
  | .non :: _, _, h => by simp [ints?] at h
  | .bl _ :: _, _, h => by simp [ints?] at h
  | .str _ :: _, _, h => by simp [ints?] at h
  | .lst _ :: _, _, h => by simp [ints?] at h
  | .tup _ :: _, _, h => by simp [ints?] at h
  | .scr _ :: _, _, h => by simp [ints?] at h
  | .obj _ _ :: _, _, h => by simp [ints?] at h
theorem bls?_some : ∀ {ds : List D} {ns : List Bool}, bls? ds = some ns → ds = ns.map D.bl
  | [], _, h => by cases h; rfl
  | .bl i :: r, ns, h => by
    simp only [bls?, Option.map_eq_some_iff] at h
    obtain ⟨m, h1, rfl⟩ := h
    rw [bls?_some h1]; rfl
  | .non :: _, _, h => by simp [bls?] at h
  | .int _ :: _, _, h => by simp [bls?] at h
  | .str _ :: _, _, h => by simp [bls?] at h
  | .lst _ :: _, _, h => by simp [bls?] at h
  | .tup _ :: _, _, h => by simp [bls?] at h
  | .scr _ :: _, _, h => by simp [bls?] at h
  | .obj _ _ :: _, _, h => by simp [bls?] at h
def dInts : D → Option (List Int)
  | .lst xs => ints? xs
  | .scr ns => some ns
  | _ => none
theorem RepB.ints {K mg G H v d ns} (gh : Same G H) (r : RepB K mg G H v d) (e : dInts d = some ns) : ∃ p, v = .ref p ∧ SqL K H p (ns.map V.int) := by
  unfold dInts at e
  split at e
  · obtain ⟨p, vs, rfl, h, r⟩ := r.lst gh
    rw [ints?_some e] at r
    rw [r.ints] at h
    exact ⟨p, rfl, SqL.of h⟩
  · cases e
    exact r.scr gh
  · cases e
def maxI : List Int → Int
  | [] => 0
  | [x] => x
  | x :: r => if maxI r > x then maxI r else x
def minI : List Int → Int
  | [] => 0
  | [x] => x
  | x :: r => if minI r < x then minI r else x
theorem maxI_spec : ∀ ns : List Int, 0 < ns.length → maxI ns ∈ ns ∧ ∀ y ∈ ns, y ≤ maxI ns
  | [], h => by simp at h
  | [x], _ => by simp [maxI]
  | x :: y :: r, _ => by
    obtain ⟨h1, h2⟩ := maxI_spec (y :: r) (by simp)
    simp only [maxI]
    by_cases h : maxI (y :: r) > x
    · rw [if_pos h]
      exact ⟨List.mem_cons_of_mem _ h1, fun z hz => by
        rcases List.mem_cons.mp hz with rfl | hz
        · omega
        · exact h2 z hz⟩
    · rw [if_neg h]
      exact ⟨by simp, fun z hz => by
        rcases List.mem_cons.mp hz with rfl | hz
        · omega
        · have := h2 z hz; omega⟩
theorem minI_spec : ∀ ns : List Int, 0 < ns.length → minI ns ∈ ns ∧ ∀ y ∈ ns, minI ns ≤ y
  | [], h => by simp at h
  | [x], _ => by simp [minI]
  | x :: y :: r, _ => by
    obtain ⟨h1, h2⟩ := minI_spec (y :: r) (by simp)
    simp only [minI]
    by_cases h : minI (y :: r) < x
    · rw [if_pos h]
      exact ⟨List.mem_cons_of_mem _ h1, fun z hz => by
        rcases List.mem_cons.mp hz with rfl | hz
        · omega
        · exact h2 z hz⟩
    · rw [if_neg h]
      exact ⟨by simp, fun z hz => by
        rcases List.mem_cons.mp hz with rfl | hz
        · omega
        · have := h2 z hz; omega⟩
def dMax (d : D) : Option D := (dInts d).bind fun ns => if ns.isEmpty then none else some (.int (maxI ns))
def dMin (d : D) : Option D := (dInts d).bind fun ns => if ns.isEmpty then none else some (.int (minI ns))
def dSum (d : D) : Option D := (dInts d).bind fun ns => some (.int ns.sum)
theorem cb_max (hc : X.calm = true) : CbB X (.builtin "max") dMax := by
  refine ⟨_, cr_max hc, fun x d v G H Q gh e r k => ?_⟩
  obtain ⟨ns, e1, e⟩ := obind e
  split at e
  · cases e
  · rename_i z
    cases e
    obtain ⟨p, rfl, h⟩ := r.ints gh e1
    have hl : 0 < ns.length := by
      cases ns with
      | nil => simp at z
      | cons => simp
    obtain ⟨m1, m2⟩ := maxI_spec ns hl
    refine ⟨p, ns, rfl, h, hl, fun m hm hle => ?_⟩
    have : m = maxI ns := Int.le_antisymm (m2 m hm) (hle _ m1)
    rw [this]
    exact k G H _ (Ext.refl gh) (.int _)
theorem cb_min (hc : X.calm = true) : CbB X (.builtin "min") dMin := by
  refine ⟨_, cr_min hc, fun x d v G H Q gh e r k => ?_⟩
  obtain ⟨ns, e1, e⟩ := obind e
  split at e
  · cases e
  · rename_i z
    cases e
    obtain ⟨p, rfl, h⟩ := r.ints gh e1
    have hl : 0 < ns.length := by
      cases ns with
      | nil => simp at z
      | cons => simp
    obtain ⟨m1, m2⟩ := minI_spec ns hl
    refine ⟨p, ns, rfl, h, hl, fun m hm hle => ?_⟩
    have : m = minI ns := Int.le_antisymm (hle _ m1) (m2 m hm)
    rw [this]
    exact k G H _ (Ext.refl gh) (.int _)
theorem cb_sum (hc : X.calm = true) : CbB X (.builtin "sum") dSum := by
  refine ⟨_, cr_sum hc, fun x d v G H Q gh e r k => ?_⟩
  obtain ⟨ns, e1, e⟩ := obind e
  cases e
  obtain ⟨p, rfl, h⟩ := r.ints gh e1
  exact ⟨p, ns, rfl, h, k G H _ (Ext.refl gh) (.int _)⟩
def dBls : D → Option (List Bool)
  | .lst xs => bls? xs
  | _ => none
theorem RepB.bls {K mg G H v d ns} (gh : Same G H) (r : RepB K mg G H v d) (e : dBls d = some ns) : ∃ p, v = .ref p ∧ SqL K H p (ns.map V.bl) := by
  unfold dBls at e
  split at e
  · obtain ⟨p, vs, rfl, h, r⟩ := r.lst gh
    rw [bls?_some e] at r
    rw [r.bls] at h
    exact ⟨p, rfl, SqL.of h⟩
  · cases e
def dAll (d : D) : Option D := (dBls d).bind fun ns => some (.bl (ns.all id))
def dAny (d : D) : Option D := (dBls d).bind fun ns => some (.bl (ns.any id))
theorem cb_all (hc : X.calm = true) : CbB X (.builtin "all") dAll := by
  refine ⟨_, cr_all hc, fun x d v G H Q gh e r k => ?_⟩
  obtain ⟨ns, e1, e⟩ := obind e
  cases e
  obtain ⟨p, rfl, h⟩ := r.bls gh e1
  exact ⟨p, ns, rfl, h, k G H _ (Ext.refl gh) (.bl _)⟩
theorem cb_any (hc : X.calm = true) : CbB X (.builtin "any") dAny := by
  refine ⟨_, cr_any hc, fun x d v G H Q gh e r k => ?_⟩
  obtain ⟨ns, e1, e⟩ := obind e
  cases e
  obtain ⟨p, rfl, h⟩ := r.bls gh e1
  exact ⟨p, ns, rfl, h, k G H _ (Ext.refl gh) (.bl _)⟩
/-! a new list of a call: list(x), sorted(x) -/
def CbL (X : Cx) (v : Value) (o : D → Option (List D)) : Prop :=
  ∃ r, CallR X v r ∧ ∀ x ds v G H Q, Same G H → o x = some ds → RepB X.K X.mg G H v x → (∀ p vs, H p = none → RepL X.K X.mg G vs ds → Q (.ref p) (upd H p (.lst vs))) → r [v] H Q
def gUL (o : D → Option (List D)) (f : Ex) : Ag := fun Γ => (f Γ).bind o
theorem el_cb {id : String} {x : Str} {p : Pos} {q : D → Option (List D)} (hc : CbL X (.builtin id) q) (hg : Gl X x) (hm : X.mg x = none) (hv : bootBuiltins x = some (.builtin id)) (ha : B X a f) (hn : x ≠ "__name__" := by decide) (hdb : (x == ("__debug__" : Str)) = false := by decide)
    (he : starEach [a] X.env = (false, eval a X.env) :: starEach [] X.env := by rfl) (hpl : (backTo pos (starEach [] X.env)).any (·.1) = false := by rfl) : EL X (.Call (.Name x p) [a] [] pos) (gUL q f) := by
  obtain ⟨r, c1, c2⟩ := hc
  obtain ⟨t, h1, h2⟩ := ha.ex
  refine ⟨⟨_, pe_callB c1 hg hm hv (pa_cons h1 pa_nil he) hn hdb he hpl, fun G0 H0 Γ σ G H Q d R hf k => ?_⟩⟩
  obtain ⟨y, e1, hf⟩ := obind hf
  refine h2 G0 H0 Γ σ G H _ y R e1 fun G1 H1 v x1 r1 => ?_
  exact c2 y d v G1 H1 Q x1.gh hf r1 fun p vs hp r2 => k G1 _ p vs (x1.trans (Ext.own1 x1.gh hp)) (x1.hh.free hp) (x1.gh.free hp) upd_same r2
theorem el_cty {id : String} {x : Str} {p : Pos} {q : D → Option (List D)} (hc : CbL X (.type id) q) (hg : Gl X x) (hm : X.mg x = none) (hv : bootBuiltins x = some (.type id)) (ha : B X a f) (hn : x ≠ "__name__" := by decide) (hdb : (x == ("__debug__" : Str)) = false := by decide)
    (he : starEach [a] X.env = (false, eval a X.env) :: starEach [] X.env := by rfl) (hpl : (backTo pos (starEach [] X.env)).any (·.1) = false := by rfl) : EL X (.Call (.Name x p) [a] [] pos) (gUL q f) := by
  obtain ⟨r, c1, c2⟩ := hc
  obtain ⟨t, h1, h2⟩ := ha.ex
  refine ⟨⟨_, pe_callTy c1 hg hm hv (pa_cons h1 pa_nil he) hn hdb he hpl, fun G0 H0 Γ σ G H Q d R hf k => ?_⟩⟩
  obtain ⟨y, e1, hf⟩ := obind hf
  refine h2 G0 H0 Γ σ G H _ y R e1 fun G1 H1 v x1 r1 => ?_
  exact c2 y d v G1 H1 Q x1.gh hf r1 fun p vs hp r2 => k G1 _ p vs (x1.trans (Ext.own1 x1.gh hp)) (x1.hh.free hp) (x1.gh.free hp) upd_same r2
def dList : D → Option (List D)
  | .lst xs => some xs
  | .tup xs => some xs
  | .scr ns => some (ns.map D.int)
  | _ => none
theorem cb_list : CbL X (.type "list") dList := by
  refine ⟨_, call_list_of, fun x d v G H Q gh e r k => ?_⟩
  unfold dList at e
  split at e
  · cases e
    obtain ⟨p, vs, rfl, h, r⟩ := r.lst gh
    exact ⟨p, vs, rfl, .inl (SqL.of h), fun l hl => k l vs hl r⟩
  · cases e
    obtain ⟨p, vs, rfl, h, r⟩ := r.tup gh
    exact ⟨p, vs, rfl, .inr (SqT.of h), fun l hl => k l vs hl r⟩
  · cases e
    obtain ⟨p, rfl, h⟩ := r.scr gh
    exact ⟨p, _, rfl, .inl h, fun l hl => k l _ hl .ofInts⟩
  · cases e
/-- the one ascending arrangement -/
def srt (ns : List Int) : List Int := ns.mergeSort (fun a b => decide (a ≤ b))
theorem srt_perm (ns : List Int) : (srt ns).Perm ns := List.mergeSort_perm ns _
theorem srt_le (ns : List Int) : (srt ns).Pairwise (· ≤ ·) := by
  have h := List.pairwise_mergeSort (le := fun a b : Int => decide (a ≤ b)) (fun a b c h1 h2 => by simp at *; omega) (fun a b => by simp; omega) ns
  exact h.imp fun h => by simpa using h
theorem srt_unique {xs ys : List Int} (h : xs.Perm ys) (hx : xs.Pairwise (· ≤ ·)) (hy : ys.Pairwise (· ≤ ·)) : xs = ys :=
  List.Perm.eq_of_pairwise (fun a b _ _ h1 h2 => Int.le_antisymm h1 h2) hx hy h
def dSorted (d : D) : Option (List D) := (dInts d).bind fun ns => some ((srt ns).map D.int)
theorem cb_sorted : CbL X (.builtin "sorted") dSorted := by
  refine ⟨_, cr_sortedI, fun x d v G H Q gh e r k => ?_⟩
  obtain ⟨ns, e1, e⟩ := obind e
  cases e
  obtain ⟨p, rfl, h⟩ := r.ints gh e1
  refine ⟨p, ns, rfl, h, fun ns' q hp ho hq => ?_⟩
  have e2 : ns' = srt ns := srt_unique (hp.trans (srt_perm ns).symm) ho (srt_le ns)
  subst e2
  exact k q _ hq .ofInts
/-! two arguments -/
def CbA (X : Cx) (v : Value) (o : List D → Option D) : Prop :=
  ∃ r, CallR X v r ∧ ∀ xs d vs G H Q, Same G H → o xs = some d → RepL X.K X.mg G vs xs → (∀ G' H' u, Ext G H G' H' → Rep X.K X.mg G' u d → Q u H') → r vs H Q
def gA (o : List D → Option D) (fs : Ag) : Ex := fun Γ => (fs Γ).bind o
theorem e_cba {id : String} {x : Str} {p : Pos} {q : List D → Option D} (hc : CbA X (.builtin id) q) (hg : Gl X x) (hm : X.mg x = none) (hv : bootBuiltins x = some (.builtin id)) (ha : A X (a :: es) fs) (hn : x ≠ "__name__" := by decide) (hdb : (x == ("__debug__" : Str)) = false := by decide)
    (he : starEach (a :: es) X.env = (false, eval a X.env) :: starEach es X.env := by rfl) (hpl : (backTo pos (starEach es X.env)).any (·.1) = false := by rfl) : E X (.Call (.Name x p) (a :: es) [] pos) (gA q fs) := by
  obtain ⟨r, c1, c2⟩ := hc
  obtain ⟨t, h1, h2⟩ := ha.ex
  refine ⟨⟨_, pe_callB c1 hg hm hv h1 hn hdb he hpl, fun G0 H0 Γ σ G H Q d R hf k => ?_⟩⟩
  obtain ⟨y, e1, hf⟩ := obind hf
  refine h2 G0 H0 Γ σ G H _ y R e1 fun G1 H1 v x1 r1 => ?_
  exact c2 y d v G1 H1 Q x1.gh hf r1 fun G2 H2 u x2 r2 => k G2 H2 u (x1.trans x2) r2
/-- a module's name for a built-in -/
theorem e_cbf {id : String} {x : Str} {p : Pos} {q : List D → Option D} (hc : CbA X (.builtin id) q) (hg : Gl X x) (hm : X.mg x = some (.builtin id)) (ha : A X (a :: es) fs) (hdb : (x == ("__debug__" : Str)) = false := by decide)
    (he : starEach (a :: es) X.env = (false, eval a X.env) :: starEach es X.env := by rfl) (hpl : (backTo pos (starEach es X.env)).any (·.1) = false := by rfl) : E X (.Call (.Name x p) (a :: es) [] pos) (gA q fs) := by
  obtain ⟨r, c1, c2⟩ := hc
  obtain ⟨t, h1, h2⟩ := ha.ex
  refine ⟨⟨_, pe_callBfun c1 hg hm h1 hdb he hpl, fun G0 H0 Γ σ G H Q d R hf k => ?_⟩⟩
  obtain ⟨y, e1, hf⟩ := obind hf
  refine h2 G0 H0 Γ σ G H _ y R e1 fun G1 H1 v x1 r1 => ?_
  exact c2 y d v G1 H1 Q x1.gh hf r1 fun G2 H2 u x2 r2 => k G2 H2 u (x1.trans x2) r2
def dGcd : List D → Option D
  | [.int a, .int b] => some (.int ((Nat.gcd a.natAbs b.natAbs : Nat) : Int))
  | _ => none
theorem cb_gcd : CbA X (.builtin "math.gcd") dGcd := by
  refine ⟨_, cr_gcd, fun x d v G H Q gh e r k => ?_⟩
  unfold dGcd at e
  split at e
  · cases e
    cases r with
    | cons h1 r => cases h1; cases r with
      | cons h2 r => cases h2; cases r; exact ⟨_, _, rfl, k G H _ (Ext.refl gh) (.int _)⟩
  · cases e
def dMax2 : List D → Option D
  | [.int a, .int b] => some (.int (if b > a then b else a))
  | _ => none
theorem cb_max2 (hc : X.calm = true) : CbA X (.builtin "max") dMax2 := by
  refine ⟨_, call_max2 hc, fun x d v G H Q gh e r k => ?_⟩
  unfold dMax2 at e
  split at e
  · cases e
    cases r with
    | cons h1 r => cases h1; cases r with
      | cons h2 r => cases h2; cases r; exact ⟨_, _, rfl, k G H _ (Ext.refl gh) (.int _)⟩
  · cases e
def dMin2 : List D → Option D
  | [.int a, .int b] => some (.int (if b < a then b else a))
  | _ => none
theorem cb_min2 (hc : X.calm = true) : CbA X (.builtin "min") dMin2 := by
  refine ⟨_, call_min2 hc, fun x d v G H Q gh e r k => ?_⟩
  unfold dMin2 at e
  split at e
  · cases e
    cases r with
    | cons h1 r => cases h1; cases r with
      | cons h2 r => cases h2; cases r; exact ⟨_, _, rfl, k G H _ (Ext.refl gh) (.int _)⟩
  · cases e
/-! isinstance(x, T) -/
def dTy : D → String
  | .non => "NoneType" | .bl _ => "bool" | .int _ => "int" | .str _ => "str" | .lst _ => "list" | .tup _ => "tuple" | .scr _ => "list" | .obj _ _ => "?"
def dIsi (T : String) (d : D) : Option D := match d with
  | .obj _ _ => none
  | .scr _ => none
  | d => (kitB (dTy d) T).map D.bl
theorem e_isi {T : String} {x y : Str} {p p2 : Pos} (hg : Gl X x) (hm : X.mg x = none) (hv : bootBuiltins x = some (.builtin "isinstance")) (hgy : Gl X y) (hmy : X.mg y = none) (hvy : bootBuiltins y = some (.type T)) (ha : B X a f)
    (hn : x ≠ "__name__" := by decide) (hdb : (x == ("__debug__" : Str)) = false := by decide) (hny : y ≠ "__name__" := by decide) (hdby : (y == ("__debug__" : Str)) = false := by decide)
    (he : starEach [a, .Name y p2] X.env = (false, eval a X.env) :: starEach [.Name y p2] X.env := by rfl) (hpl : (backTo pos (starEach [.Name y p2] X.env)).any (·.1) = false := by rfl) (he2 : starEach [.Name y p2] X.env = (false, eval (.Name y p2) X.env) :: starEach [] X.env := by rfl) :
    E X (.Call (.Name x p) [a, .Name y p2] [] pos) (gU (dIsi T) f) := by
  obtain ⟨t, h1, h2⟩ := ha.ex
  refine ⟨⟨_, pe_callB call_isi hg hm hv (pa_cons h1 (pa_cons (pe_bltn (v := .ty T) hgy hmy hvy rfl hny hdby) pa_nil he2) he) hn hdb he hpl, fun G0 H0 Γ σ G H Q d R hf k => ?_⟩⟩
  obtain ⟨y, e1, hf⟩ := obind hf
  refine h2 G0 H0 Γ σ G H _ y R e1 fun G1 H1 v x1 r1 => ?_
  have fin : ∀ {b : Bool}, d = .bl b → Q (.bl b) H1 := fun e => by subst e; exact k G1 H1 _ x1 (.bl _)
  have go : ∀ (tn : String), TyOf X.K H1 v (.type tn) → (kitB tn T).map D.bl = some d → rIsi X.K [v, .ty T] H1 Q := fun tn ty e => by
    cases q : kitB tn T with
    | none => rw [q] at e; cases e
    | some b =>
      rw [q] at e
      exact ⟨v, .ty T, .type tn, .type T, b, rfl, .ty T, .base ty, kit_ty q, fin (Option.some.inj e).symm⟩
  cases y with
  | non => have := r1.flat (by simp); cases this; exact go _ .non hf
  | bl b => have z := (r1.flat (by simp)).blv; subst z; exact go _ (.bl _) hf
  | int b => have z := (r1.flat (by simp)).intv; subst z; exact go _ (.int _) hf
  | str b => have z := (r1.flat (by simp)).strv; subst z; exact go _ (.str _) hf
  | lst xs => obtain ⟨p, vs, rfl, h, r⟩ := r1.lst x1.gh; exact go _ (.lst h) hf
  | tup xs => obtain ⟨p, vs, rfl, h, r⟩ := r1.tup x1.gh; exact go _ (.tup h) hf
  | scr ns => cases hf
  | obj c ds => cases hf
/-! -x -/
def dNeg : D → Option D
  | .int i => some (.int (-i))
  | _ => none
theorem e_neg (ha : E X a f) : E X (.UnaryOp .USub a pos) (gU dNeg f) := by
  obtain ⟨t, h1, h2⟩ := ha.ex
  refine ⟨⟨_, pe_un un_neg h1, fun G0 H0 Γ σ G H Q d R hf k => ?_⟩⟩
  obtain ⟨y, e1, hf⟩ := obind hf
  unfold dNeg at hf
  split at hf
  · cases hf
    refine h2 G0 H0 Γ σ G H _ _ R e1 fun G1 H1 v x1 r1 => ?_
    rw [r1.intv]
    exact ⟨_, rfl, k G1 H1 _ x1 (.int _)⟩
  · cases hf
/-! fields -/
def dFld (c j : Nat) : D → Option D
  | .obj c' vs => if c' = c then vs[j]? else none
  | _ => none
theorem e_fld {c j : Nat} {C : Addr} {x : Str} (ck : CK X.K X.mg c C) (he : E X o f) (hj : (cF c)[j]? = some x := by rfl) (nd : (cF c).Nodup := by decide +kernel) (hb : attributeBase o x X.env (eval o X.env) = eval o X.env := by rfl) : E X (.Attribute o x pos) (gU (dFld c j) f) := by
  obtain ⟨t, h1, h2⟩ := he.ex
  refine ⟨⟨_, pe_fld h1 hb, fun G0 H0 Γ σ G H Q d R hf k => ?_⟩⟩
  obtain ⟨y, e1, hv⟩ := obind hf
  cases y with
  | obj c' vs =>
    replace hv : (if c' = c then vs[j]? else none) = some d := hv
    split at hv
    · rename_i cz
      subst cz
      refine h2 G0 H0 Γ σ G H _ _ R e1 fun G1 H1 v x1 r1 => ?_
      cases r1 with
      | obj hm h r =>
        rw [ck.hm] at hm
        cases hm
        obtain ⟨w, g1, g2⟩ := r.get j hv
        exact ⟨_, _, _, _, w, rfl, x1.gh _ _ h, ck.cl, ck.na x (List.mem_of_getElem? hj), zip_lookup nd hj g1, k G1 H1 w x1 g2⟩
    · cases hv
  | _ => cases hv

/-! ### defs -/
/-- the promise of a def that changes nothing: its value by data -/
def spD (K : PySem.W.Frag) (mg : Str → Option Value) (n : Nat) (F : List D → Option D) : Sp := fun vs H Q _ =>
  ∃ G ds d, vs.length = n ∧ Same G H ∧ RepL K mg G vs ds ∧ F ds = some d ∧ ∀ G' H' v, Ext G H G' H' → Rep K mg G' v d → Q v H'
def gCall (F : List D → Option D) (fs : Ag) : Ex := fun Γ => (fs Γ).bind F
theorem e_call {k : Nat} {fa : Addr} {fd : FuncData} {ps : List Str} {F : List D → Option D} {x : Str} {p : Pos} (FO : FnOk X.prog X.w X.K X.mg X.base CX0 k fa fd ps (spD X.K X.mg n F)) (hr : Room k X.A) (hm : X.mg x = some (.ref fa)) (hk : PySem.W.keepIn X.K (.ref fa) = true) (hb : Binds X.K fd ps [])
    (ha : AN X (a :: es) n fs) (hg : Gl X x := by rfl) (hdb : (x == ("__debug__" : Str)) = false := by decide) (he : starEach (a :: es) X.env = (false, eval a X.env) :: starEach es X.env := by rfl) (hpl : (backTo pos (starEach es X.env)).any (·.1) = false := by rfl) :
    E X (.Call (.Name x p) (a :: es) [] pos) (gCall F fs) := by
  obtain ⟨t, h1, h2⟩ := ha.a.ex
  refine ⟨⟨_, pe_call FO hr hg hm hk hb .nil pass0 h1 hdb he hpl, fun G0 H0 Γ σ G H Q d R hf k => ?_⟩⟩
  obtain ⟨ds, e1, hf⟩ := obind hf
  refine h2 G0 H0 Γ σ G H _ _ R e1 fun G1 H1 vs x1 r1 => ?_
  refine ⟨G1, ds, d, ?_, x1.gh, ?_, hf, fun G' H' v x2 r2 => k G' H' v (x1.trans x2) r2⟩
  · rw [List.append_nil, r1.length, ha.n Γ ds e1]
  · rw [List.append_nil]; exact r1
theorem e_call0 {k : Nat} {fa : Addr} {fd : FuncData} {ps : List Str} {F : List D → Option D} {x : Str} {p : Pos} (FO : FnOk X.prog X.w X.K X.mg X.base CX0 k fa fd ps (spD X.K X.mg 0 F)) (hr : Room k X.A) (hm : X.mg x = some (.ref fa)) (hk : PySem.W.keepIn X.K (.ref fa) = true) (hb : Binds X.K fd ps [])
    (hg : Gl X x := by rfl) (hdb : (x == ("__debug__" : Str)) = false := by decide) : E X (.Call (.Name x p) [] [] pos) (gCall F aN) := by
  refine ⟨⟨_, pe_call0 FO hr hg hm hk hb .nil pass0 hdb, fun G0 H0 Γ σ G H Q d R hf k => ?_⟩⟩
  obtain ⟨ds, e1, hf⟩ := obind hf
  cases e1
  exact ⟨G, [], d, rfl, R.gh, .nil, hf, fun G' H' v x2 r2 => k G' H' v x2 r2⟩
/-- o.m(..) of an object that does not change -/
def gMeth (c : Nat) (F : List D → Option D) (f : Ex) (fs : Ag) : Ex := fun Γ => (f Γ).bind fun d => match d with
  | .obj c' vs => if c' = c then (fs Γ).bind fun ds => F (.obj c' vs :: ds) else none
  | _ => none
theorem e_meth {pl : Sem Bool} {c k : Nat} {C fa : Addr} {fd : FuncData} {ps : List Str} {F : List D → Option D} {m : Str} {apos : Pos} (ck : CK X.K X.mg c C) (hme : Meth X.K C m fa) (FO : FnOk X.prog X.w X.K X.mg X.base CX0 k fa fd ps (spD X.K X.mg (n + 1) F)) (hr : Room k X.A) (hb : Binds X.K fd ps [])
    (ho : E X o f) (ha : AN X (a :: es) n fs) (hno : m ∉ cF c := by decide +kernel)
    (hst : starEach (a :: es) X.env = (false, eval a X.env) :: starEach es X.env := by rfl) (hpl : (backTo pos (starEach es X.env)).any (·.1) = false := by rfl)
    (ht : eval (.Call (.Attribute o m apos) (a :: es) [] pos) X.env = (do
      let ov ← eval o X.env
      standAt apos.atName
      let (f, first) ← holding [ov] (getMethod ov m pl)
      callWith pos f first (backTo pos (starEach (a :: es) X.env)) (backToKw pos (keywordEach [] X.env))) := by rfl) : E X (.Call (.Attribute o m apos) (a :: es) [] pos) (gMeth c F f fs) := by
  obtain ⟨t, h1, h2⟩ := ha.a.ex
  obtain ⟨u, q1, q2⟩ := ho.ex
  refine ⟨⟨_, pe_meth q1 ck.cl hme FO hr hb .nil pass0 h1 hst hpl ht, fun G0 H0 Γ σ G H Q d R hf k => ?_⟩⟩
  obtain ⟨y, e1, hv⟩ := obind hf
  cases y with
  | obj c' vs' =>
    replace hv : (if c' = c then (fs Γ).bind fun ds => F (.obj c' vs' :: ds) else none) = some d := hv
    split at hv
    · rename_i cz
      subst cz
      obtain ⟨ds, e2, hv⟩ := obind hv
      refine q2 G0 H0 Γ σ G H _ _ R e1 fun G1 H1 v x1 r1 => ?_
      cases r1 with
      | obj hm h r =>
        have hm' := hm
        rw [ck.hm] at hm'
        cases hm'
        refine ⟨_, _, _, rfl, x1.gh _ _ h, zip_lookup_none hno, ?_⟩
        refine h2 G0 H0 Γ σ G1 H1 _ _ (R.ext x1) e2 fun G2 H2 vs x2 r2 => ?_
        refine ⟨G2, _, d, ?_, x2.gh, .cons (.obj hm (x2.gg _ _ h) (r.mono x2.gg)) (by rw [List.append_nil]; exact r2), hv, fun G' H' v x3 r3 => k G' H' v ((x1.trans x2).trans x3) r3⟩
        rw [List.append_nil, List.length_cons, r2.length, ha.n Γ ds e2]
    · cases hv
  | _ => cases hv
theorem e_meth0 {pl : Sem Bool} {c k : Nat} {C fa : Addr} {fd : FuncData} {ps : List Str} {F : List D → Option D} {m : Str} {apos : Pos} (ck : CK X.K X.mg c C) (hme : Meth X.K C m fa) (FO : FnOk X.prog X.w X.K X.mg X.base CX0 k fa fd ps (spD X.K X.mg 1 F)) (hr : Room k X.A) (hb : Binds X.K fd ps [])
    (ho : E X o f) (hno : m ∉ cF c := by decide +kernel)
    (ht : eval (.Call (.Attribute o m apos) [] [] pos) X.env = (do
      let ov ← eval o X.env
      standAt apos.atName
      let (f, first) ← holding [ov] (getMethod ov m pl)
      callWith pos f first (backTo pos (starEach [] X.env)) (backToKw pos (keywordEach [] X.env))) := by rfl) : E X (.Call (.Attribute o m apos) [] [] pos) (gMeth c F f aN) := by
  obtain ⟨u, q1, q2⟩ := ho.ex
  refine ⟨⟨_, pe_meth0 q1 ck.cl hme FO hr hb .nil pass0 ht, fun G0 H0 Γ σ G H Q d R hf k => ?_⟩⟩
  obtain ⟨y, e1, hv⟩ := obind hf
  cases y with
  | obj c' vs' =>
    replace hv : (if c' = c then (aN Γ).bind fun ds => F (.obj c' vs' :: ds) else none) = some d := hv
    split at hv
    · rename_i cz
      subst cz
      obtain ⟨ds, e2, hv⟩ := obind hv
      cases e2
      refine q2 G0 H0 Γ σ G H _ _ R e1 fun G1 H1 v x1 r1 => ?_
      cases r1 with
      | obj hm h r =>
        have hm' := hm
        rw [ck.hm] at hm'
        cases hm'
        refine ⟨_, _, _, rfl, x1.gh _ _ h, zip_lookup_none hno, ?_⟩
        exact ⟨G1, _, d, rfl, x1.gh, .cons (.obj hm h r) .nil, hv, fun G' H' v x3 r3 => k G' H' v (x1.trans x3) r3⟩
    · cases hv
  | _ => cases hv
end
end DL

namespace DL
open PySem L2

/-! ### targets -/
theorem wipe_set {σ : L2.St} {i : Nat} {x : Option V} : ∀ (vs : List Nat), L2.wipe (σ.set i x) vs = if i ∈ vs then L2.wipe σ vs else (L2.wipe σ vs).set i x
  | [] => by simp [L2.wipe]
  | v :: vs => by
    simp only [L2.wipe]
    rw [wipe_set vs]
    by_cases h1 : i ∈ vs
    · rw [if_pos h1, if_pos (List.mem_cons_of_mem _ h1)]
    · rw [if_neg h1]
      by_cases h2 : i = v
      · subst h2
        rw [if_pos List.mem_cons_self, List.set_set]
      · rw [if_neg (by simp [h1, h2]), List.set_comm _ _ h2]
theorem wipe_in {σ : L2.St} {i : Nat} {x : Option V} {vs : List Nat} (h : i ∈ vs) : L2.wipe (σ.set i x) vs = L2.wipe σ vs := by rw [wipe_set, if_pos h]
theorem wipe_sub {σ : L2.St} {vs : List Nat} : ∀ us : List Nat, (∀ i ∈ us, i ∈ vs) → L2.wipe (L2.wipe σ us) vs = L2.wipe σ vs
  | [], _ => rfl
  | u :: us, h => by
    show L2.wipe ((L2.wipe σ us).set u none) vs = _
    rw [wipe_in (h u List.mem_cons_self)]
    exact wipe_sub us fun i hi => h i (List.mem_cons_of_mem _ hi)
abbrev Gs := D → DEnv → Option DEnv
abbrev Gss := List D → DEnv → Option DEnv
structure G (X : Cx) (tg : Expr) (ix : List Nat) (g : Gs) : Prop where
  ex : ∃ t, PG X tg t ∧ ∀ G0 H0 Γ σ G H Q d v Γ', Rel X.K X.mg G0 H0 Γ σ G H → Rep X.K X.mg G v d → g d Γ = some Γ' → (∀ σ', Rel X.K X.mg G0 H0 Γ' σ' G H → (∀ vs, (∀ i ∈ ix, i ∈ vs) → L2.wipe σ' vs = L2.wipe σ vs) → Q σ' H) → t v σ H Q
structure GL (X : Cx) (tgs : List Expr) (ix : List Nat) (g : Gss) : Prop where
  ex : ∃ t, PGs X tgs t ∧ ∀ G0 H0 Γ σ G H Q ds vs Γ', Rel X.K X.mg G0 H0 Γ σ G H → RepL X.K X.mg G vs ds → g ds Γ = some Γ' → (∀ σ', Rel X.K X.mg G0 H0 Γ' σ' G H → (∀ us, (∀ i ∈ ix, i ∈ us) → L2.wipe σ' us = L2.wipe σ us) → Q σ' H) → t vs σ H Q
def gN (i : Nat) : Gs := fun d Γ => some (Γ.set i (.sh d))
def gEnd : Gss := fun ds Γ => match ds with | [] => some Γ | _ => none
def gTo (g : Gs) (r : Gss) : Gss := fun ds Γ => match ds with | [] => none | d :: ds => (g d Γ).bind fun Γ1 => r ds Γ1
def gTg (n : Nat) (r : Gss) : Gs := fun d Γ => match d with | .tup ds => if ds.length = n then r ds Γ else none | _ => none
section
variable {X : Cx} {e a b o tg : Expr} {es : List Expr} {f : Ex} {fs : Ag} {pos pos' : Pos} {n : Nat} {ix jx : List Nat} {g : Gs} {gs : Gss}
theorem g_name (i : Nat) {x : Str} (hN : X.N.Nodup) (hi : X.N[i]? = some x := by rfl) (hx : Loc X.env.scope x := by first | exact Or.inl rfl | exact Or.inr rfl) (hf : X.fn x = true ∨ X.env.scope.names.lookup x = some .local := by first | exact .inl rfl | exact .inr rfl | assumption) : G X (.Name x pos) [i] (gN i) := by
  refine ⟨⟨_, pg_name hN hi hx hf, fun G0 H0 Γ σ G H Q d v Γ' R r hf k => ?_⟩⟩
  cases hf
  exact k _ (R.set i r) fun vs h => wipe_in (h i List.mem_cons_self)
theorem gl_nil : GL X [] [] gEnd := by
  refine ⟨⟨_, pgs_nil, fun G0 H0 Γ σ G H Q ds vs Γ' R r hf k => ?_⟩⟩
  cases r with
  | nil => cases hf; exact ⟨rfl, k σ R fun _ _ => rfl⟩
  | cons _ _ => cases hf
theorem gl_cons (h : G X e ix g) (hr : GL X es jx gs) (hs : (assignEach (e :: es) X.env).map (·.2) = assign e X.env :: (assignEach es X.env).map (·.2) := by rfl) : GL X (e :: es) (ix ++ jx) (gTo g gs) := by
  obtain ⟨t, h1, h2⟩ := h.ex
  obtain ⟨u, q1, q2⟩ := hr.ex
  refine ⟨⟨_, pgs_cons h1 q1 hs, fun G0 H0 Γ σ G H Q ds vs Γ' R r hf k => ?_⟩⟩
  cases r with
  | nil => cases hf
  | cons r1 r2 =>
    obtain ⟨Γ1, e1, hf⟩ := obind hf
    refine ⟨_, _, rfl, ?_⟩
    refine h2 G0 H0 Γ σ G H _ _ _ Γ1 R r1 e1 fun σ1 R1 w1 => ?_
    exact q2 G0 H0 Γ1 σ1 G H _ _ _ Γ' R1 r2 hf fun σ2 R2 w2 => k σ2 R2 fun us hu => (w2 us fun i hi => hu i (List.mem_append_right _ hi)).trans (w1 us fun i hi => hu i (List.mem_append_left _ hi))
theorem g_tup {k : Nat} (hc : X.calm = true) (h : GL X es ix gs) (hn : (assignEach es X.env).length = n := by rfl) (hst : (assignEach es X.env).findIdx? (·.1) = none := by rfl) : G X (.Tuple es k pos) ix (gTg n gs) := by
  obtain ⟨t, h1, h2⟩ := h.ex
  refine ⟨⟨_, pg_tup hc h1 hn hst, fun G0 H0 Γ σ G H Q d v Γ' R r hf k => ?_⟩⟩
  cases d with
  | tup ds =>
    replace hf : (if ds.length = n then gs ds Γ else none) = some Γ' := hf
    split at hf
    · rename_i hl
      cases r with
      | tup h r => exact ⟨_, _, rfl, SqT.of (R.gh _ _ h), by rw [r.length, hl], h2 G0 H0 Γ σ G H Q ds _ Γ' R r hf k⟩
    · cases hf
  | _ => cases hf
end

/-! ### what is walked -/
def Itm (K : PySem.W.Frag) (mg : Str → Option Value) (J : It) (G : Hp) (items : List D) : Prop :=
  ∀ i G1 H1, Same G G1 → Same G1 H1 → (items.length ≤ i → J.stop i H1) ∧ ∀ d, items[i]? = some d → J.go i H1 ∧ ∀ x H2, J.yld i H1 x H2 → ∃ G2, Ext G1 H1 G2 H2 ∧ Rep K mg G2 x d
structure I (X : Cx) (tg iter : Expr) (f : Ag) : Prop where
  ex : ∃ t, PI X tg iter t ∧ ∀ G0 H0 Γ σ G H R ds, Rel X.K X.mg G0 H0 Γ σ G H → f Γ = some ds → (∀ G' H' J, Ext G H G' H' → Itm X.K X.mg J G' ds → R J H') → t σ H R
def dItems : D → Option (List D)
  | .lst xs => some xs
  | .scr ns => some (ns.map D.int)
  | _ => none
section
variable {X : Cx} {e a b o tg iter : Expr} {es : List Expr} {f f' : Ex} {fs : Ag} {pos pos' : Pos} {n : Nat} {ix jx : List Nat} {g : Gs} {gs : Gss}
theorem itm_list {K mg} {G : Hp} {p : Addr} {vs : List V} {ds : List D} (h : SqL K G p vs) (r : RepL K mg G vs ds) (inj : ∀ {H1 : Hp} {xs : List V}, Same G H1 → SqL K H1 p xs → True) : Itm K mg (Itl K p) G ds := by
  intro i G1 H1 s1 s2
  have h1 : SqL K H1 p vs := (s1.trans s2).seq h
  refine ⟨fun hi => ⟨vs, h1, by rw [r.length]; exact hi⟩, fun d hd => ?_⟩
  obtain ⟨v, e1, e2⟩ := r.get i hd
  refine ⟨⟨vs, v, h1, e1⟩, fun x H2 y => ?_⟩
  obtain ⟨rfl, y⟩ := y
  have e3 := y vs h1
  rw [e1] at e3
  cases e3
  exact ⟨G1, Ext.refl s2, e2.mono s1⟩
theorem pi_or {w w' : TI} (h : PI X tg iter w) (h' : PI X tg iter w') : PI X tg iter (fun σ H R => w σ H R ∨ w' σ H R) := by
  refine ⟨fun pins s σ H R I q => ?_⟩
  rcases q with q | q
  · exact h.run pins s σ H R I q
  · exact h'.run pins s σ H R I q
theorem itm_tup {K mg} {G : Hp} {p : Addr} {vs : List V} {ds : List D} (h : G p = some (.tup vs)) (r : RepL K mg G vs ds) : Itm K mg (Itt K p) G ds := by
  intro i G2 H2 s1 s2
  have h1 := SqT.of (K := K) (s2 _ _ (s1 _ _ h))
  refine ⟨fun hi => ⟨_, h1, by rw [r.length]; exact hi⟩, fun d hd => ?_⟩
  obtain ⟨v, e1, e2⟩ := r.get i hd
  refine ⟨⟨_, v, h1, e1⟩, fun x H2 y => ?_⟩
  obtain ⟨rfl, y⟩ := y
  have e3 := y _ h1
  rw [e1] at e3
  cases e3
  exact ⟨G2, Ext.refl s2, e2.mono s1⟩
def dWalk : D → Option (List D)
  | .lst xs => some xs
  | .tup xs => some xs
  | .scr ns => some (ns.map D.int)
  | _ => none
def gIt (f : Ex) : Ag := fun Γ => (f Γ).bind dWalk
theorem i_list (h : E X iter f) : I X tg iter (gIt f) := by
  obtain ⟨t, h1, h2⟩ := h.ex
  refine ⟨⟨_, pi_or (pi_list h1) (pi_tup h1), fun G0 H0 Γ σ G H R ds Rl hf k => ?_⟩⟩
  obtain ⟨d, e1, hf⟩ := obind hf
  cases d with
  | lst xs =>
    cases hf
    refine .inl (h2 G0 H0 Γ σ G H _ _ Rl e1 fun G1 H1 v x1 r1 => ?_)
    cases r1 with
    | lst h r => exact ⟨_, rfl, ⟨_, SqL.of (x1.gh _ _ h)⟩, k G1 H1 _ x1 (itm_list (SqL.of h) r fun _ _ => True.intro)⟩
  | scr ns =>
    cases hf
    refine .inl (h2 G0 H0 Γ σ G H _ _ Rl e1 fun G1 H1 v x1 r1 => ?_)
    cases r1 with
    | scr h => exact ⟨_, rfl, ⟨_, x1.gh.seq h⟩, k G1 H1 _ x1 (itm_list h .ofInts fun _ _ => True.intro)⟩
  | tup xs =>
    cases hf
    refine .inr (h2 G0 H0 Γ σ G H _ _ Rl e1 fun G1 H1 v x1 r1 => ?_)
    cases r1 with
    | tup h r => exact ⟨_, rfl, ⟨_, SqT.of (x1.gh _ _ h)⟩, k G1 H1 _ x1 (itm_tup h r)⟩
  | _ => cases hf
/-! ranges -/
def rngD (lo : Int) (n : Nat) : List D := (List.range n).map fun i => .int (lo + (i : Nat))
theorem itm_range {K mg} {G : Hp} {lo : Int} {n : Nat} : Itm K mg (Itr lo n) G (rngD lo n) := by
  intro i G1 H1 s1 s2
  refine ⟨fun hi => by show n ≤ i; simpa [rngD] using hi, fun d hd => ?_⟩
  have hi : i < n := by
    have := (List.getElem?_eq_some_iff.mp hd).1
    simpa [rngD] using this
  refine ⟨hi, fun x H2 y => ?_⟩
  obtain ⟨rfl, rfl⟩ := y
  have e : d = .int (lo + (i : Nat)) := by
    simp [rngD, hi] at hd
    exact hd.symm
  subst e
  exact ⟨G1, Ext.refl s2, .int _⟩
def dRng : List D → Option (List D)
  | [.int j] => if -(2 ^ 62) ≤ j ∧ j < 2 ^ 62 then some (rngD 0 j.toNat) else none
  | [.int i, .int j] => if -(2 ^ 62) ≤ i ∧ i < 2 ^ 62 ∧ -(2 ^ 62) ≤ j ∧ j < 2 ^ 62 then some (rngD i (j - i).toNat) else none
  | _ => none
def gRng (fs : Ag) : Ag := fun Γ => (fs Γ).bind dRng
theorem i_rng1 {p : Pos} (hg : Gl X "range") (hm : X.mg "range" = none) (ha : AN X [a] 1 fs) (hs : starEach [a] X.env = [(false, eval a X.env)] := by rfl) : I X tg (.Call (.Name "range" p) [a] [] pos) (gRng fs) := by
  obtain ⟨t, h1, h2⟩ := ha.a.ex
  refine ⟨⟨_, pi_range1 hg hm h1 hs, fun G0 H0 Γ σ G H R ds Rl hf k => ?_⟩⟩
  obtain ⟨xs, e1, hf⟩ := obind hf
  have hl := ha.n Γ xs e1
  refine h2 G0 H0 Γ σ G H _ _ Rl e1 fun G1 H1 vs x1 r1 => ?_
  match xs, hl, hf, r1 with
  | [.int j], _, hf, .cons r .nil =>
    replace hf : (if -(2 ^ 62) ≤ j ∧ j < 2 ^ 62 then some (rngD 0 j.toNat) else none) = some ds := hf
    split at hf
    · rename_i z
      cases hf
      rw [r.intv]
      exact ⟨j, rfl, z.1, z.2, k G1 H1 _ x1 itm_range⟩
    · cases hf
theorem i_rng2 {p : Pos} (hg : Gl X "range") (hm : X.mg "range" = none) (ha : AN X [a, b] 2 fs) (hs : starEach [a, b] X.env = [(false, eval a X.env), (false, eval b X.env)] := by rfl) (hs2 : starEach [b] X.env = [(false, eval b X.env)] := by rfl) : I X tg (.Call (.Name "range" p) [a, b] [] pos) (gRng fs) := by
  obtain ⟨t, h1, h2⟩ := ha.a.ex
  refine ⟨⟨_, pi_range2 hg hm h1 hs hs2, fun G0 H0 Γ σ G H R ds Rl hf k => ?_⟩⟩
  obtain ⟨xs, e1, hf⟩ := obind hf
  have hl := ha.n Γ xs e1
  refine h2 G0 H0 Γ σ G H _ _ Rl e1 fun G1 H1 vs x1 r1 => ?_
  match xs, hl, hf, r1 with
  | [.int i, .int j], _, hf, .cons r (.cons q .nil) =>
    replace hf : (if -(2 ^ 62) ≤ i ∧ i < 2 ^ 62 ∧ -(2 ^ 62) ≤ j ∧ j < 2 ^ 62 then some (rngD i (j - i).toNat) else none) = some ds := hf
    split at hf
    · rename_i z
      cases hf
      rw [r.intv, q.intv]
      exact ⟨i, j, rfl, z, k G1 H1 _ x1 itm_range⟩
    · cases hf
/-! reversed(range(..)) -/
def rngR (lo : Int) (n : Nat) : List D := (List.range n).map fun i => .int (lo + (n : Int) - 1 + (i : Nat) * (-1))
def dRngR : List D → Option (List D)
  | [.int j] => if -(2 ^ 62) ≤ j ∧ j < 2 ^ 62 then some (rngR 0 j.toNat) else none
  | [.int i, .int j] => if -(2 ^ 62) ≤ i ∧ i < 2 ^ 62 ∧ -(2 ^ 62) ≤ j ∧ j < 2 ^ 62 then some (rngR i (j - i).toNat) else none
  | _ => none
theorem itm_rangeR {K mg} {G : Hp} {lo : Int} {n : Nat} : Itm K mg (Itc (lo + (n : Int) - 1) (-1) n) G (rngR lo n) := by
  intro i G1 H1 s1 s2
  refine ⟨fun hi => by show n ≤ i; simpa [rngR] using hi, fun d hd => ?_⟩
  have hi : i < n := by
    have := (List.getElem?_eq_some_iff.mp hd).1
    simpa [rngR] using this
  refine ⟨hi, fun x H2 y => ?_⟩
  obtain ⟨rfl, rfl⟩ := y
  have e : d = .int (lo + (n : Int) - 1 + (i : Nat) * (-1)) := by
    simp [rngR, hi] at hd
    rw [← hd]
    congr 1
    omega
  subst e
  exact ⟨G1, Ext.refl s2, .int _⟩
/-! zip, enumerate -/
def zipD : List D → List D → List D
  | x :: xs, y :: ys => .tup [x, y] :: zipD xs ys
  | _, _ => []
theorem zipD_get : ∀ {xs ys : List D} {i : Nat} {d : D}, (zipD xs ys)[i]? = some d → ∃ x y, xs[i]? = some x ∧ ys[i]? = some y ∧ d = .tup [x, y]
  | [], _, _, _, h => by simp [zipD] at h
  | _ :: _, [], _, _, h => by simp [zipD] at h
  | x :: xs, y :: ys, 0, d, h => by simp [zipD] at h; exact ⟨x, y, rfl, rfl, h.symm⟩
  | x :: xs, y :: ys, i + 1, d, h => by
    obtain ⟨x', y', h1, h2, h3⟩ := zipD_get (xs := xs) (ys := ys) (i := i) (d := d) (by simpa [zipD] using h)
    exact ⟨x', y', by simpa using h1, by simpa using h2, h3⟩
theorem zipD_len : ∀ {xs ys : List D}, (zipD xs ys).length = min xs.length ys.length
  | [], _ => by simp [zipD]
  | _ :: _, [] => by simp [zipD]
  | x :: xs, y :: ys => by simp [zipD, zipD_len (xs := xs) (ys := ys)]
def dZip : List D → Option (List D)
  | [x, y] => (dItems x).bind fun xs => (dItems y).bind fun ys => some (zipD xs ys)
  | _ => none
def gZip (fs : Ag) : Ag := fun Γ => (fs Γ).bind dZip
theorem Rep.items {K mg} {G : Hp} {v : V} {d : D} {xs : List D} (r : Rep K mg G v d) (h : dItems d = some xs) : ∃ p vs, v = .ref p ∧ SqL K G p vs ∧ RepL K mg G vs xs := by
  cases d with
  | lst ys => cases h; cases r with | lst h r => exact ⟨_, _, rfl, SqL.of h, r⟩
  | scr ns => cases h; cases r with | scr h => exact ⟨_, _, rfl, h, .ofInts⟩
  | _ => cases h
theorem i_zip {p tpos : Pos} {elts : List Expr} {kk : Nat} (hg : Gl X "zip") (hm : X.mg "zip" = none) (ha : AN X [a, b] 2 fs) (hs : starEach [a, b] X.env = (false, eval a X.env) :: starEach [b] X.env := by rfl) (hpl : (backTo pos (starEach [b] X.env)).any (·.1) = false := by rfl) :
    I X (.Tuple elts kk tpos) (.Call (.Name "zip" p) [a, b] [] pos) (gZip fs) := by
  obtain ⟨t, h1, h2⟩ := ha.a.ex
  refine ⟨⟨_, pi_zip hg hm h1 hs hpl, fun G0 H0 Γ σ G H R ds Rl hf k => ?_⟩⟩
  obtain ⟨xs, e1, hf⟩ := obind hf
  have hl := ha.n Γ xs e1
  refine h2 G0 H0 Γ σ G H _ _ Rl e1 fun G1 H1 vs x1 r1 => ?_
  match xs, hl, hf, r1 with
  | [x, y], _, hf, .cons r (.cons q .nil) =>
    replace hf : ((dItems x).bind fun xs => (dItems y).bind fun ys => some (zipD xs ys)) = some ds := hf
    obtain ⟨as, a1, hf⟩ := obind hf
    obtain ⟨bs, a2, hf⟩ := obind hf
    cases hf
    obtain ⟨p1, v1, rfl, s1, r1⟩ := r.items a1
    obtain ⟨p2, v2, rfl, s2, r2⟩ := q.items a2
    refine ⟨p1, p2, v1, v2, rfl, x1.gh.seq s1, x1.gh.seq s2, k G1 H1 _ x1 fun i G2 H2 t1 t2 => ?_⟩
    have q1 : SqL X.K H2 p1 v1 := (t1.trans t2).seq s1
    have q2 : SqL X.K H2 p2 v2 := (t1.trans t2).seq s2
    refine ⟨fun hi => ⟨v1, v2, q1, q2, ?_⟩, fun d hd => ?_⟩
    · rw [zipD_len] at hi
      rw [r1.length, r2.length]
      omega
    · obtain ⟨x, y, g1, g2, rfl⟩ := zipD_get hd
      obtain ⟨w1, b1, c1⟩ := r1.get i g1
      obtain ⟨w2, b2, c2⟩ := r2.get i g2
      refine ⟨⟨v1, v2, w1, w2, q1, q2, b1, b2⟩, fun u H3 yl => ?_⟩
      obtain ⟨T, z1, z2, rfl, hT, rfl, f1, f2⟩ := yl
      have z3 := f1 v1 q1
      have z4 := f2 v2 q2
      rw [b1] at z3
      rw [b2] at z4
      cases z3
      cases z4
      have x2 := Ext.new1 (o := .tup [w1, w2]) t2 hT
      exact ⟨_, x2, .tup upd_same (.cons ((c1.mono t1).mono x2.gg) (.cons ((c2.mono t1).mono x2.gg) .nil))⟩
def enumD : Nat → List D → List D
  | _, [] => []
  | i, x :: xs => .tup [.int (i : Nat), x] :: enumD (i + 1) xs
theorem enumD_get : ∀ {xs : List D} {k i : Nat} {d : D}, (enumD k xs)[i]? = some d → ∃ x, xs[i]? = some x ∧ d = .tup [.int ((k + i : Nat) : Int), x]
  | [], _, _, _, h => by simp [enumD] at h
  | x :: xs, k, 0, d, h => by simp [enumD] at h; exact ⟨x, rfl, by rw [← h]; simp⟩
  | x :: xs, k, i + 1, d, h => by
    obtain ⟨x', h1, h2⟩ := enumD_get (xs := xs) (k := k + 1) (i := i) (d := d) (by simpa [enumD] using h)
    exact ⟨x', by simpa using h1, by rw [h2]; congr 3; omega⟩
theorem enumD_len : ∀ {xs : List D} {k : Nat}, (enumD k xs).length = xs.length
  | [], _ => rfl
  | x :: xs, k => by simp [enumD, enumD_len (xs := xs) (k := k + 1)]
def dEnum : List D → Option (List D)
  | [x] => (dItems x).bind fun xs => some (enumD 0 xs)
  | _ => none
def gEnum (fs : Ag) : Ag := fun Γ => (fs Γ).bind dEnum
theorem i_enum {p tpos : Pos} {elts : List Expr} {kk : Nat} (hg : Gl X "enumerate") (hm : X.mg "enumerate" = none) (ha : AN X [a] 1 fs) (hs : starEach [a] X.env = [(false, eval a X.env)] := by rfl) :
    I X (.Tuple elts kk tpos) (.Call (.Name "enumerate" p) [a] [] pos) (gEnum fs) := by
  obtain ⟨t, h1, h2⟩ := ha.a.ex
  refine ⟨⟨_, pi_enum hg hm h1 hs, fun G0 H0 Γ σ G H R ds Rl hf k => ?_⟩⟩
  obtain ⟨xs, e1, hf⟩ := obind hf
  have hl := ha.n Γ xs e1
  refine h2 G0 H0 Γ σ G H _ _ Rl e1 fun G1 H1 vs x1 r1 => ?_
  match xs, hl, hf, r1 with
  | [x], _, hf, .cons r .nil =>
    replace hf : ((dItems x).bind fun xs => some (enumD 0 xs)) = some ds := hf
    obtain ⟨as, a1, hf⟩ := obind hf
    cases hf
    obtain ⟨p1, v1, rfl, s1, r1⟩ := r.items a1
    refine ⟨p1, v1, rfl, x1.gh.seq s1, k G1 H1 _ x1 fun i G2 H2 t1 t2 => ?_⟩
    have q1 : SqL X.K H2 p1 v1 := (t1.trans t2).seq s1
    refine ⟨fun hi => ⟨v1, q1, ?_⟩, fun d hd => ?_⟩
    · rw [enumD_len] at hi
      rw [r1.length]
      omega
    · obtain ⟨x, g1, rfl⟩ := enumD_get hd
      obtain ⟨w1, b1, c1⟩ := r1.get i g1
      refine ⟨⟨v1, w1, q1, b1⟩, fun u H3 yl => ?_⟩
      obtain ⟨T, z1, rfl, hT, rfl, f1⟩ := yl
      have z3 := f1 v1 q1
      rw [b1] at z3
      cases z3
      have x2 := Ext.new1 (o := .tup [.int (i : Nat), w1]) t2 hT
      refine ⟨_, x2, .tup upd_same (.cons ?_ (.cons ((c1.mono t1).mono x2.gg) .nil))⟩
      rw [Nat.zero_add]
      exact .int _
theorem i_rev1 {p p2 pos2 : Pos} (hg : Gl X "reversed") (hm : X.mg "reversed" = none) (hg2 : Gl X "range") (hm2 : X.mg "range" = none) (ha : E X a f) (na : starEach [a] X.env = (false, eval a X.env) :: starEach [] X.env := by rfl)
    (hs : starEach [.Call (.Name "range" p2) [a] [] pos2] X.env = (false, eval (.Call (.Name "range" p2) [a] [] pos2) X.env) :: starEach [] X.env := by rfl) : I X tg (.Call (.Name "reversed" p) [.Call (.Name "range" p2) [a] [] pos2] [] pos) (fun Γ => (aC f aN Γ).bind dRngR) := by
  obtain ⟨t, h1, h2⟩ := ha.ex
  refine ⟨⟨_, pi_revR hg hm (prg_1 hg2 hm2 h1 na) hs, fun G0 H0 Γ σ G H R ds Rl hf k => ?_⟩⟩
  obtain ⟨xs, e1, hf⟩ := obind hf
  obtain ⟨d, e2, e1⟩ := obind e1
  cases e1
  refine h2 G0 H0 Γ σ G H _ _ Rl e2 fun G1 H1 v x1 r1 => ?_
  cases d with
  | int j =>
    replace hf : (if -(2 ^ 62) ≤ j ∧ j < 2 ^ 62 then some (rngR 0 j.toNat) else none) = some ds := hf
    split at hf
    · rename_i z
      cases hf
      rw [r1.intv]
      refine ⟨j, rfl, by decide, by decide, z.1, z.2, ?_⟩
      have e : (j - 0).toNat = j.toNat := by congr 1; omega
      rw [e]
      exact k G1 H1 _ x1 itm_rangeR
    · cases hf
  | _ => cases hf

/-! ### comprehensions -/
theorem E.pe (h : E X e f) : PE X e (fun σ H Q => ∃ G0 H0 Γ G d, Rel X.K X.mg G0 H0 Γ σ G H ∧ f Γ = some d ∧ ∀ G' H' v, Ext G H G' H' → Rep X.K X.mg G' v d → Q v H') := by
  obtain ⟨t, h1, h2⟩ := h.ex
  exact ⟨fun pins s σ H Q I ⟨G0, H0, Γ, G, d, R, hf, k⟩ => h1.run pins s σ H Q I (h2 G0 H0 Γ σ G H Q d R hf k)⟩
theorem G.pg (h : G X tg ix g) : PG X tg (fun v σ H Q => ∃ G0 H0 Γ G d Γ', Rel X.K X.mg G0 H0 Γ σ G H ∧ Rep X.K X.mg G v d ∧ g d Γ = some Γ' ∧ ∀ σ', Rel X.K X.mg G0 H0 Γ' σ' G H → (∀ vs, (∀ i ∈ ix, i ∈ vs) → L2.wipe σ' vs = L2.wipe σ vs) → Q σ' H) := by
  obtain ⟨t, h1, h2⟩ := h.ex
  exact ⟨fun pins s σ H v u Q I ru ⟨G0, H0, Γ, G, d, Γ', R, r, hf, k⟩ => h1.run pins s σ H v u Q I ru (h2 G0 H0 Γ σ G H Q d v Γ' R r hf k)⟩
/-- a comprehension's tests: none or one -/
structure Ts (X : Cx) (ifs : List Expr) (f : Te) : Prop where
  pt : PTs X ifs (fun σ H Q => ∃ G0 H0 Γ G d, Rel X.K X.mg G0 H0 Γ σ G H ∧ f Γ = some d ∧ ∀ G' H', Ext G H G' H' → Q d H')
def gYes : Te := fun _ => some true
theorem ts_nil : Ts X [] gYes := ⟨⟨fun pins s σ H Q I ⟨G0, H0, Γ, G, d, R, hf, k⟩ => by
  cases hf
  exact pts_nil.run pins s σ H Q I (k G H (Ext.refl R.gh))⟩⟩
theorem ts_one {p : Te} (h : T X e p) : Ts X [e] p := by
  obtain ⟨t, h1, h2⟩ := h.ex
  exact ⟨⟨fun pins s σ H Q I ⟨G0, H0, Γ, G, d, R, hf, k⟩ => (pts_one h1).run pins s σ H Q I (h2 G0 H0 Γ σ G H Q d R hf k)⟩⟩
def compL (g : Gs) (t : Te) (e : Ex) : List D → DEnv → Option (List D)
  | [], _ => some []
  | d :: ds, Γ => (g d Γ).bind fun Γ1 => (t Γ1).bind fun b => if b then (e Γ1).bind fun y => (compL g t e ds Γ).bind fun r => some (y :: r) else compL g t e ds Γ
def gLc (own : List Nat) (it : Ag) (g : Gs) (t : Te) (e : Ex) : Ag := fun Γ => (it Γ).bind fun ds => if ds.length < 1000000 then compL g t e ds (wipeE Γ own) else none
theorem lc_run {K : PySem.W.Frag} {mg : Str → Option Value} {own : List (Str × Nat)} {it : Ag} {p : Te} {wi : TI} (hix : ∀ i ∈ ix, i ∈ own.map (·.2))
    (hw : ∀ G0 H0 Γ σ G H R ds, Rel K mg G0 H0 Γ σ G H → it Γ = some ds → (∀ G' H' J, Ext G H G' H' → Itm K mg J G' ds → R J H') → wi σ H R)
    {G0 H0 : Hp} {Γ : DEnv} {σ : L2.St} {G H : Hp} {Q : VK} {ds : List D} (R : Rel K mg G0 H0 Γ σ G H) (hf : gLc (own.map (·.2)) it g p f Γ = some ds)
    (k : ∀ G' H' D vs, Ext G H G' H' → H D = none → G' D = none → H' D = some (.lst vs) → RepL K mg G' vs ds → Q (.ref D) H') :
    tLc wi (fun v σ H Q => ∃ G0 H0 Γ G d Γ', Rel K mg G0 H0 Γ σ G H ∧ Rep K mg G v d ∧ g d Γ = some Γ' ∧ ∀ σ', Rel K mg G0 H0 Γ' σ' G H → (∀ vs, (∀ i ∈ ix, i ∈ vs) → L2.wipe σ' vs = L2.wipe σ vs) → Q σ' H)
      (fun σ H Q => ∃ G0 H0 Γ G d, Rel K mg G0 H0 Γ σ G H ∧ p Γ = some d ∧ ∀ G' H', Ext G H G' H' → Q d H')
      (fun σ H Q => ∃ G0 H0 Γ G d, Rel K mg G0 H0 Γ σ G H ∧ f Γ = some d ∧ ∀ G' H' v, Ext G H G' H' → Rep K mg G' v d → Q v H') (own.map (·.2)) σ H Q := by
  obtain ⟨items, e1, hf⟩ := obind hf
  split at hf
  · rename_i hlen
    refine hw G0 H0 Γ σ G H _ items R e1 fun G1 H1 J x1 hJ D hD => ?_
    have R1 := R.ext x1
    -- the state within: the list so far at D
    refine ⟨fun i m Hc => m = items.length - i ∧ i ≤ items.length ∧ ∃ Gc acc dacc rest, Ext G1 H1 Gc Hc ∧ Gc D = none ∧ Hc D = some (.lst acc) ∧ acc.length ≤ i ∧ RepL K mg Gc acc dacc ∧ Rel K mg G0 H0 (wipeE Γ (own.map (·.2))) (L2.wipe σ (own.map (·.2))) Gc Hc ∧ (∀ (j : Nat) ys, (wipeE Γ (own.map (·.2)))[j]? = some (.ow ys) → (L2.wipe σ (own.map (·.2)))[j]? ≠ some (some (.ref D))) ∧
      compL g p f (items.drop i) (wipeE Γ (own.map (·.2))) = some rest ∧ dacc ++ rest = ds, ⟨items.length, ?_⟩, ?_⟩
    · have Rw := (R1.wipe (own.map (·.2)))
      have nD : ∀ (j : Nat) ys, (wipeE Γ (own.map (·.2)))[j]? = some (.ow ys) → (L2.wipe σ (own.map (·.2)))[j]? ≠ some (some (.ref D)) := fun j ys h1 h2 => by
        obtain ⟨p', vs', a1, a2, a3, a4, a5⟩ := Rw.sl j _ h1
        rw [h2] at a1
        cases a1
        rw [hD] at a4
        cases a4
      exact ⟨by simp, Nat.zero_le _, G1, [], [], ds, Ext.own1 x1.gh hD, x1.gh.free hD, upd_same, Nat.le_refl _, .nil, Rw.aside (x1.gh.free hD) (R1.hh.free hD) nD, nD, by simpa using hf, rfl⟩
    · rintro i m Hc ⟨rfl, hi, Gc, acc, dacc, rest, xc, gD, hcD, la, ra, Rc, nD, hr, hds⟩
      obtain ⟨st, go⟩ := hJ i Gc Hc xc.gg xc.gh
      by_cases hlt : i < items.length
      · have hd : items.drop i = items[i] :: items.drop (i + 1) := List.drop_eq_getElem_cons hlt
        obtain ⟨g1, g2⟩ := go items[i] (List.getElem?_eq_getElem hlt)
        rw [hd] at hr
        obtain ⟨Γ1, c1, hr⟩ := obind hr
        obtain ⟨b, c2, hr⟩ := obind hr
        refine .inr ⟨g1, fun H' => ∃ m', (m' = items.length - (i + 1) ∧ i + 1 ≤ items.length ∧ ∃ Gc acc dacc rest, Ext G1 H1 Gc H' ∧ Gc D = none ∧ H' D = some (.lst acc) ∧ acc.length ≤ i + 1 ∧ RepL K mg Gc acc dacc ∧ Rel K mg G0 H0 (wipeE Γ (own.map (·.2))) (L2.wipe σ (own.map (·.2))) Gc H' ∧ (∀ (j : Nat) ys, (wipeE Γ (own.map (·.2)))[j]? = some (.ow ys) → (L2.wipe σ (own.map (·.2)))[j]? ≠ some (some (.ref D))) ∧
          compL g p f (items.drop (i + 1)) (wipeE Γ (own.map (·.2))) = some rest ∧ dacc ++ rest = ds), fun H' ⟨m', h⟩ => ⟨m', by have := h.1; omega, h⟩, fun x H2 y => ?_⟩
        obtain ⟨G2, x2, r2⟩ := g2 x H2 y
        have xc2 := xc.trans x2
        have R2 := Rc.ext x2
        have gD2 : G2 D = none := by
          cases q : G2 D with
          | none => rfl
          | some u =>
            rcases x2.new D (by rw [q]; simp) with z | z
            · exact absurd gD z
            · rw [hcD] at z; cases z
        refine ⟨G0, H0, _, G2, items[i], Γ1, R2, r2, c1, fun σ3 R3 w3 => ⟨(w3 _ hix).trans (wipe_sub _ fun _ h => h), ?_⟩⟩
        refine ⟨G0, H0, Γ1, G2, b, R3, c2, fun G4 H4 x4 => ?_⟩
        have gD4 : G4 D = none := by
          cases q : G4 D with
          | none => rfl
          | some u =>
            rcases x4.new D (by rw [q]; simp) with z | z
            · exact absurd gD2 z
            · rw [x2.hh _ _ hcD] at z; cases z
        cases b with
        | false =>
          refine iteF ⟨_, rfl, hlt, G4, acc, dacc, rest, xc2.trans x4, gD4, x4.hh _ _ (x2.hh _ _ hcD), by omega, (ra.mono x2.gg).mono x4.gg, R2.ext x4, nD, hr, hds⟩
        | true =>
          refine iteT ⟨G0, H0, Γ1, G4, ?_⟩
          replace hr : ((f Γ1).bind fun y => (compL g p f (items.drop (i + 1)) (wipeE Γ (own.map (·.2)))).bind fun r => some (y :: r)) = some rest := hr
          obtain ⟨yv, c3, hr⟩ := obind hr
          obtain ⟨rr, c4, hr⟩ := obind hr
          cases hr
          refine ⟨yv, R3.ext x4, c3, fun G5 H5 v x5 r5 => ?_⟩
          have gD5 : G5 D = none := by
            cases q : G5 D with
            | none => rfl
            | some u =>
              rcases x5.new D (by rw [q]; simp) with z | z
              · exact absurd gD4 z
              · rw [x4.hh _ _ (x2.hh _ _ hcD)] at z; cases z
          have hD5 : H5 D = some (.lst acc) := x5.hh _ _ (x4.hh _ _ (x2.hh _ _ hcD))
          refine ⟨acc, hD5, Nat.lt_of_lt_of_le (Nat.lt_of_le_of_lt la (Nat.lt_trans hlt hlen)) line_big, _, rfl, hlt, G5, acc ++ [v], dacc ++ [yv], rr, ?_, gD5, upd_same, by simp; omega, ((((ra.mono x2.gg).mono x4.gg).mono x5.gg).append (.cons r5 .nil)), ((R2.ext x4).ext x5).aside gD5 (R1.hh.free hD) nD, nD, c4, by rw [← hds]; simp⟩
          have xx := (xc2.trans x4).trans x5
          refine ⟨xx.gg, fun a o q => ?_, fun a o q => ?_, xx.new⟩
          · rw [upd_ne (ne_of_none q hD)]; exact xx.hh _ _ q
          · rw [upd_ne (ne_of_none q gD5)]; exact xx.gh _ _ q
      · have e : i = items.length := by omega
        subst e
        refine .inl ⟨st (Nat.le_refl _), ?_⟩
        rw [List.drop_length] at hr
        cases hr
        rw [List.append_nil] at hds
        subst hds
        exact k Gc Hc D acc (x1.trans xc) (x1.hh.free hD) gD hcD ra
  · cases hf
theorem el_lc {elt : Expr} {ifs : List Expr} {scope : Scope} {own : List (Str × Nat)} {it : Ag} {p : Te} (hc : X.calm = true) (hN : X.N.Nodup) (hi : I X tg iter it) (ok : BlkOk X.N X.env.scope scope own) (hix : ∀ i ∈ ix, i ∈ own.map (·.2))
    (hg : ∀ (s : Shared) (H : Hp) (C : Addr) (cl : List (Str × Addr)) (fp : List Addr), G (X.blk s H scope (compEnvC scope cl C X.env) fp) tg ix g)
    (ht : ∀ (s : Shared) (H : Hp) (C : Addr) (cl : List (Str × Addr)) (fp : List Addr), Ts (X.blk s H scope (compEnvC scope cl C X.env) fp) ifs p)
    (he : ∀ (s : Shared) (H : Hp) (C : Addr) (cl : List (Str × Addr)) (fp : List Addr), E (X.blk s H scope (compEnvC scope cl C X.env) fp) elt f) (hs : ∀ x, foldedSetIterable iter X.env x = pure x := by intro _; rfl) :
    EL X (.ListComp elt [⟨tg, iter, ifs, 0⟩] scope pos) (gLc (own.map (·.2)) it g p f) := by
  obtain ⟨wi, w1, w2⟩ := hi.ex
  exact ⟨⟨_, pe_lc hc hN w1 ok (fun s H C cl fp => (hg s H C cl fp).pg) (fun s H C cl fp => (ht s H C cl fp).pt) (fun s H C cl fp => (he s H C cl fp).pe) hs, fun G0 H0 Γ σ G H Q ds R hf k => lc_run hix w2 R hf k⟩⟩
end
end DL

namespace DL
open PySem L2

/-! ### statements -/
def sNil : Sm := fun Γ => some (.nx Γ)
def sSeq (f g : Sm) : Sm := fun Γ => (f Γ).bind fun r => match r with | .nx Γ' => g Γ' | r => some r
def sBrk : Sm := fun Γ => some (.bk Γ)
def sCnt : Sm := fun Γ => some (.ct Γ)
def sSet (i : Nat) (f : Ex) : Sm := fun Γ => (f Γ).bind fun d => some (.nx (Γ.set i (.sh d)))
def sSetO (i : Nat) (f : Ag) : Sm := fun Γ => (f Γ).bind fun d => some (.nx (Γ.set i (.ow d)))
def sExp (f : Ex) : Sm := fun Γ => (f Γ).bind fun _ => some (.nx Γ)
def sRet (f : Ex) : Sm := fun Γ => (f Γ).bind fun d => some (.rt d)
def sRetN : Sm := fun _ => some (.rt .non)
def sIf (c : Te) (f g : Sm) : Sm := fun Γ => (c Γ).bind fun b => if b then f Γ else g Γ
def frzE (i : Nat) (Γ : DEnv) : DEnv := match Γ[i]? with | some (.ow xs) => Γ.set i (.sh (.lst xs)) | _ => Γ
def sFrz (i : Nat) (f : Sm) : Sm := fun Γ => f (frzE i Γ)
def sApp (i : Nat) (f : Ex) : Sm := fun Γ => (f Γ).bind fun d => match Γ[i]? with
  | some (.ow xs) => if xs.length < 1000000 then some (.nx (Γ.set i (.ow (xs ++ [d])))) else none
  | _ => none
def sAug (o : D → D → Option D) (i : Nat) (f : Ex) : Sm := fun Γ => (gV i Γ).bind fun x => (f Γ).bind fun y => (o x y).bind fun d => some (.nx (Γ.set i (.sh d)))
def sUnp (g : Gs) (f : Ex) : Sm := fun Γ => (f Γ).bind fun d => (g d Γ).bind fun Γ' => some (.nx Γ')
def sPar (is : List Nat) (fs : Ag) : Sm := fun Γ => (fs Γ).bind fun ds => some (.nx ((is.zip ds).foldl (fun Γ p => Γ.set p.1 (.sh p.2)) Γ))
def sIxS (i : Nat) (k : Ex) (f : Ex) : Sm := fun Γ => (f Γ).bind fun d => (k Γ).bind fun j => match Γ[i]?, j with
  | some (.ow xs), .int n => (ixN xs.length n).bind fun m => some (.nx (Γ.set i (.ow (xs.set m d))))
  | _, _ => none

theorem Fin.of {X : Cx} {G0 H0 : Hp} {D : Ends} {r : Res} (h : Fin X G0 H0 D r) : Fin X G0 H0 D r := h
section
variable {X : Cx} {e a b o tg : Expr} {es : List Expr} {f k : Ex} {fs : Ag} {st : Stmt} {sts : List Stmt} {F F' : Sm} {p : Te} {pos pos' : Pos} {n : Nat} {ix : List Nat} {g : Gs}
theorem ss_nil : Ss X [] sNil := ⟨⟨_, pss_nil, fun G0 H0 Γ σ G H D r R hf k => by cases hf; exact k σ G H R⟩⟩
theorem ss_cons (h : S X st F) (hr : Ss X sts F') : Ss X (st :: sts) (sSeq F F') := by
  obtain ⟨t, h1, h2⟩ := h.ex
  obtain ⟨u, q1, q2⟩ := hr.ex
  refine ⟨⟨_, pss_cons h1 q1, fun G0 H0 Γ σ G H D r R hf k => ?_⟩⟩
  obtain ⟨r1, e1, hf⟩ := obind hf
  refine h2 G0 H0 Γ σ G H _ r1 R e1 ?_
  cases r1 with
  | nx Γ1 => exact fun σ1 G1 H1 R1 => q2 G0 H0 Γ1 σ1 G1 H1 D r R1 hf k
  | rt d => cases hf; exact k
  | bk Γ1 => cases hf; exact k
  | ct Γ1 => cases hf; exact k
theorem ss_one (h : S X st F) : Ss X [st] F := by
  obtain ⟨t, h1, h2⟩ := h.ex
  exact ⟨⟨_, pss_one h1, h2⟩⟩
theorem s_pass : S X (.Pass pos) sNil := ⟨⟨_, ps_pass, fun G0 H0 Γ σ G H D r R hf k => by cases hf; exact k σ G H R⟩⟩
theorem s_break : S X (.Break pos) sBrk := ⟨⟨_, ps_break, fun G0 H0 Γ σ G H D r R hf k => by cases hf; exact k σ G H R⟩⟩
theorem s_cont : S X (.Continue pos) sCnt := ⟨⟨_, ps_continue, fun G0 H0 Γ σ G H D r R hf k => by cases hf; exact k σ G H R⟩⟩
theorem s_set (i : Nat) {x : Str} (hN : X.N.Nodup) (he : E X e f) (hi : X.N[i]? = some x := by rfl) (hx : Loc X.env.scope x := by first | exact Or.inl rfl | exact Or.inr rfl) (hs : swapsWith e (some (.Name x pos')) pos.line X.env = pure false := by rfl)
    (hf : X.fn x = true ∨ X.env.scope.names.lookup x = some .local := by first | exact .inl rfl | exact .inr rfl | assumption) : S X (.Assign [.Name x pos'] e pos) (sSet i f) := by
  obtain ⟨t, h1, h2⟩ := he.ex
  refine ⟨⟨_, ps_set hN hi hx h1 hs hf, fun G0 H0 Γ σ G H D r R hf k => ?_⟩⟩
  obtain ⟨d, e1, hf⟩ := obind hf
  cases hf
  exact h2 G0 H0 Γ σ G H _ d R e1 fun G1 H1 v x1 r1 => k _ G1 H1 ((R.ext x1).set i r1)
theorem set_own {K : PySem.W.Frag} {mg : Str → Option Value} {G0 H0 : Hp} {Γ : DEnv} {σ : L2.St} {G H G1 H1 : Hp} {q : Addr} {vs : List V} {xs : List D} (R : Rel K mg G0 H0 Γ σ G H) (x1 : Ext G H G1 H1) (hq : H q = none) (gq : G1 q = none) (h : H1 q = some (.lst vs)) (r : RepL K mg G1 vs xs) (i : Nat) :
    Rel K mg G0 H0 (Γ.set i (.ow xs)) (σ.set i (some (.ref q))) G1 H1 := by
  refine (R.ext x1).setOw i gq (R.hh.free hq) h r fun j ys h1 h2 => ?_
  obtain ⟨p', vs', a1, a2, a3, a4, a5⟩ := R.sl j _ h1
  rw [h2] at a1
  cases a1
  rw [hq] at a4
  cases a4
theorem s_setO (i : Nat) {x : Str} (hN : X.N.Nodup) (he : EL X e fs) (hi : X.N[i]? = some x := by rfl) (hx : Loc X.env.scope x := by first | exact Or.inl rfl | exact Or.inr rfl) (hs : swapsWith e (some (.Name x pos')) pos.line X.env = pure false := by rfl)
    (hf : X.fn x = true ∨ X.env.scope.names.lookup x = some .local := by first | exact .inl rfl | exact .inr rfl | assumption) : S X (.Assign [.Name x pos'] e pos) (sSetO i fs) := by
  obtain ⟨t, h1, h2⟩ := he.ex
  refine ⟨⟨_, ps_set hN hi hx h1 hs hf, fun G0 H0 Γ σ G H D r R hf k => ?_⟩⟩
  obtain ⟨d, e1, hf⟩ := obind hf
  cases hf
  exact h2 G0 H0 Γ σ G H _ d R e1 fun G1 H1 q vs x1 hq gq h r1 => k _ G1 H1 (set_own R x1 hq gq h r1 i)
theorem s_expr (he : E X e f) (hs : swapsWith e none pos.line X.env = pure false := by rfl) : S X (.Expr e pos) (sExp f) := by
  obtain ⟨t, h1, h2⟩ := he.ex
  refine ⟨⟨_, ps_expr h1 hs, fun G0 H0 Γ σ G H D r R hf k => ?_⟩⟩
  obtain ⟨d, e1, hf⟩ := obind hf
  cases hf
  exact h2 G0 H0 Γ σ G H _ d R e1 fun G1 H1 v x1 r1 => k σ G1 H1 (R.ext x1)
theorem Rel.end {K : PySem.W.Frag} {mg : Str → Option Value} {G0 H0 : Hp} {Γ : DEnv} {σ : L2.St} {G H : Hp} (R : Rel K mg G0 H0 Γ σ G H) : Ext G0 H0 G H := ⟨R.gg, R.hh, R.gh, R.new⟩
theorem s_ret (he : E X e f) : S X (.Return (some e) pos) (sRet f) := by
  obtain ⟨t, h1, h2⟩ := he.ex
  refine ⟨⟨_, ps_ret h1, fun G0 H0 Γ σ G H D r R hf k => ?_⟩⟩
  obtain ⟨d, e1, hf⟩ := obind hf
  cases hf
  exact h2 G0 H0 Γ σ G H _ d R e1 fun G1 H1 v x1 r1 => k G1 H1 v (R.ext x1).end r1
theorem s_retN : S X (.Return none pos) sRetN := ⟨⟨_, ps_retN, fun G0 H0 Γ σ G H D r R hf k => by cases hf; exact k G H _ R.end .non⟩⟩
theorem s_if {c : Expr} {sa sb : List Stmt} (hc : T X c p) (ha : Ss X sa F) (hb : Ss X sb F') : S X (.If c sa sb pos) (sIf p F F') := by
  obtain ⟨t, h1, h2⟩ := hc.ex
  obtain ⟨u, q1, q2⟩ := ha.ex
  obtain ⟨w, z1, z2⟩ := hb.ex
  refine ⟨⟨_, ps_if h1 q1 z1, fun G0 H0 Γ σ G H D r R hf k => ?_⟩⟩
  obtain ⟨b, e1, hf⟩ := obind hf
  refine h2 G0 H0 Γ σ G H _ b R e1 fun G1 H1 x1 => ?_
  cases b with
  | true => exact iteT (q2 G0 H0 Γ σ G1 H1 D r (R.ext x1) hf k)
  | false => exact iteF (z2 G0 H0 Γ σ G1 H1 D r (R.ext x1) hf k)
theorem Rel.frzE {K : PySem.W.Frag} {mg : Str → Option Value} {G0 H0 : Hp} {Γ : DEnv} {σ : L2.St} {G H : Hp} (R : Rel K mg G0 H0 Γ σ G H) (i : Nat) : ∃ G', Rel K mg G0 H0 (frzE i Γ) σ G' H := by
  unfold DL.frzE
  cases q : Γ[i]? with
  | none => exact ⟨G, R⟩
  | some s =>
    cases s with
    | ow xs => obtain ⟨G', R', _⟩ := R.frz q; exact ⟨G', R'⟩
    | _ => exact ⟨G, R⟩
theorem s_frz (i : Nat) (h : S X st F) : S X st (sFrz i F) := by
  obtain ⟨t, h1, h2⟩ := h.ex
  refine ⟨⟨t, h1, fun G0 H0 Γ σ G H D r R hf k => ?_⟩⟩
  obtain ⟨G', R'⟩ := R.frzE i
  exact h2 G0 H0 _ σ G' H D r R' hf k
theorem s_app (i : Nat) {x : Str} {ap p1 : Pos} (he : E X e f) (hN : X.N[i]? = some x := by rfl) (hv : Vis X.env.scope x := by first | exact Or.inl rfl | exact Or.inr (Or.inl rfl) | exact Or.inr (Or.inr rfl)) (hd : (x == ("__debug__" : Str)) = false := by decide)
    (hcd : (x == ("__classdict__" : Str)) = false := by decide) (hst : starEach [e] X.env = (false, eval e X.env) :: starEach [] X.env := by rfl)
    (hpe : ∀ {r : V → List V → Hp → VK → Prop} {te : TE}, MtR X "list.append" r → PE X e te → PE X (.Call (.Attribute (.Name x p1) "append" ap) [e] [] pos) (tBM X.K "list" r (tVar i) (tCons te tNil)) := by intro r te hm hp; exact pe_bm PySem.F.plainAttrs_list PySem.F.slot_list_append PySem.F.type_list_append hm (pv _) (pa_cons hp pa_nil))
    (hs : swapsWith (.Call (.Attribute (.Name x p1) "append" ap) [e] [] pos) none pos'.line X.env = pure false := by rfl) : S X (.Expr (.Call (.Attribute (.Name x p1) "append" ap) [e] [] pos) pos') (sApp i f) := by
  obtain ⟨t, h1, h2⟩ := he.ex
  refine ⟨⟨_, ps_expr (hpe mt_append h1) hs, fun G0 H0 Γ σ G H D r R hf k => ?_⟩⟩
  obtain ⟨d, e1, hf⟩ := obind hf
  cases q : Γ[i]? with
  | none => rw [q] at hf; cases hf
  | some s =>
    rw [q] at hf
    cases s with
    | ow xs =>
      replace hf : (if xs.length < 1000000 then some (Res.nx (Γ.set i (.ow (xs ++ [d])))) else none) = some r := hf
      split at hf
      · rename_i hl
        cases hf
        obtain ⟨l, vs, a1, a2, a3, a4, a5⟩ := R.sl i _ q
        refine ⟨_, a1, .inl ⟨rfl, _, SqL.of a4⟩, ?_⟩
        refine h2 G0 H0 Γ σ G H _ d R e1 fun G1 H1 v x1 r1 => ?_
        have R1 := R.ext x1
        obtain ⟨l', vs', b1, b2, b3, b4, b5⟩ := R1.sl i _ q
        rw [a1] at b1
        cases b1
        refine ⟨l, vs', v, rfl, rfl, b4, ?_, ?_⟩
        · rw [b5.length]; exact Nat.lt_of_lt_of_le hl line_big
        · exact k σ G1 _ (R1.write q a1 (b5.append (.cons r1 .nil)))
      · cases hf
    | _ => cases hf
theorem s_aug (i : Nat) {x : Str} {op : Operator} {C : Int → Int → Int} {o : D → D → Option D} (hN : X.N.Nodup) (he : E X e f) (ho : PIp X op (ipI C)) (hoo : ∀ x y d, o x y = some d → ∃ i j, x = .int i ∧ y = .int j ∧ d = .int (C i j)) (hi : X.N[i]? = some x := by rfl) (hx : Loc X.env.scope x := by first | exact Or.inl rfl | exact Or.inr rfl)
    (hf : X.fn x = true ∨ X.env.scope.names.lookup x = some .local := by first | exact .inl rfl | exact .inr rfl | assumption) : S X (.AugAssign (.Name x pos') op e pos) (sAug o i f) := by
  obtain ⟨t, h1, h2⟩ := he.ex
  refine ⟨⟨_, ps_aug hN hi hx h1 ho hf, fun G0 H0 Γ σ G H D r R hf k => ?_⟩⟩
  obtain ⟨a, e0, hf⟩ := obind hf
  obtain ⟨b, e1, hf⟩ := obind hf
  obtain ⟨c, e2, hf⟩ := obind hf
  cases hf
  obtain ⟨m, n, rfl, rfl, rfl⟩ := hoo _ _ _ e2
  unfold gV at e0
  cases q : Γ[i]? with
  | none => rw [q] at e0; cases e0
  | some s =>
    rw [q] at e0
    cases s with
    | sh d =>
      cases e0
      obtain ⟨v, a1, a2⟩ := R.sl i _ q
      rw [a2.intv] at a1
      refine ⟨_, a1, h2 G0 H0 Γ σ G H _ _ R e1 fun G1 H1 v x1 r1 => ?_⟩
      rw [r1.intv]
      exact ⟨m, n, rfl, rfl, k _ G1 H1 ((R.ext x1).set i (.int _))⟩
    | _ => cases e0
theorem aug_add : ∀ x y d, dAdd x y = some d → (∃ i j, x = .int i ∧ y = .int j ∧ d = .int (i + j)) ∨ ¬ ∃ i, x = .int i := fun x y d h => by
  cases x with
  | int i => cases y with
    | int j => cases h; exact .inl ⟨i, j, rfl, rfl, rfl⟩
    | _ => cases h
  | _ => exact .inr (by simp)
/-- +=, -= of whole numbers -/
def dAddI : D → D → Option D
  | .int i, .int j => some (.int (i + j))
  | _, _ => none
theorem s_augA (i : Nat) {x : Str} (hN : X.N.Nodup) (he : E X e f) (hi : X.N[i]? = some x := by rfl) (hx : Loc X.env.scope x := by first | exact Or.inl rfl | exact Or.inr rfl)
    (hf : X.fn x = true ∨ X.env.scope.names.lookup x = some .local := by first | exact .inl rfl | exact .inr rfl | assumption) : S X (.AugAssign (.Name x pos') .Add e pos) (sAug dAddI i f) :=
  s_aug i hN he ip_add (fun x y d h => by
    cases x with
    | int i => cases y with
      | int j => cases h; exact ⟨i, j, rfl, rfl, rfl⟩
      | _ => cases h
    | _ => cases h) hi hx hf
theorem s_augS (i : Nat) {x : Str} (hN : X.N.Nodup) (he : E X e f) (hi : X.N[i]? = some x := by rfl) (hx : Loc X.env.scope x := by first | exact Or.inl rfl | exact Or.inr rfl)
    (hf : X.fn x = true ∨ X.env.scope.names.lookup x = some .local := by first | exact .inl rfl | exact .inr rfl | assumption) : S X (.AugAssign (.Name x pos') .Sub e pos) (sAug dSub i f) :=
  s_aug i hN he ip_sub (fun x y d h => by
    cases x with
    | int i => cases y with
      | int j => cases h; exact ⟨i, j, rfl, rfl, rfl⟩
      | _ => cases h
    | _ => cases h) hi hx hf
/-- a, b = e -/
theorem s_unp (he : E X e f) (hg : G X tg ix g) (hs : swapsWithSole [tg] e pos.line X.env = pure false := by rfl) (hw : swappedStores [tg] e X.env = pure none := by rfl)
    (h1 : (assignEach [tg] X.env).map (·.2) = [assign tg X.env] := by rfl) : S X (.Assign [tg] e pos) (sUnp g f) := by
  obtain ⟨t, h1', h2⟩ := he.ex
  obtain ⟨u, q1, q2⟩ := hg.ex
  refine ⟨⟨_, ps_asg h1' q1 hs hw h1, fun G0 H0 Γ σ G H D r R hf k => ?_⟩⟩
  obtain ⟨d, e1, hf⟩ := obind hf
  obtain ⟨Γ', e2, hf⟩ := obind hf
  cases hf
  refine h2 G0 H0 Γ σ G H _ d R e1 fun G1 H1 v x1 r1 => ?_
  exact q2 G0 H0 Γ σ G1 H1 _ d v Γ' (R.ext x1) r1 e2 fun σ' R' _ => k σ' G1 H1 R'
/-- a, b = x, y -/
theorem s_par {i j : Nat} {x y : Str} {px py pt : Pos} {kt k2 pt2} (hc : X.calm = true) (hN : X.N.Nodup) (ha : AN X [a, b] 2 fs) (hi : X.N[i]? = some x := by rfl) (hj : X.N[j]? = some y := by rfl) (hij : i ≠ j := by decide)
    (hx : X.env.scope.names.lookup x = some .local := by rfl) (hy : X.env.scope.names.lookup y = some .local := by rfl)
    (hw : swappedStores [.Tuple [.Name x px, .Name y py] kt pt] (.Tuple [a, b] k2 pt2) X.env = pure (some [x, y]) := by rfl)
    (hs : swapsWithSole [.Tuple [.Name x px, .Name y py] kt pt] (.Tuple [a, b] k2 pt2) pos.line X.env = pure false := by rfl) :
    S X (.Assign [.Tuple [.Name x px, .Name y py] kt pt] (.Tuple [a, b] k2 pt2) pos) (sPar [i, j] fs) := by
  obtain ⟨t, h1, h2⟩ := ha.a.ex
  refine ⟨⟨_, ps_par hc hN hi hj hij hx hy h1 hw hs, fun G0 H0 Γ σ G H D r R hf k => ?_⟩⟩
  obtain ⟨ds, e1, hf⟩ := obind hf
  cases hf
  have hl := ha.n Γ ds e1
  refine h2 G0 H0 Γ σ G H _ ds R e1 fun G1 H1 vs x1 r1 => ?_
  match ds, hl, r1, k with
  | [d1, d2], _, .cons r (.cons q .nil), k => exact ⟨_, _, rfl, k _ G1 H1 (((R.ext x1).set i r).set j q)⟩
theorem s_par3 {i j l : Nat} {x y z : Str} {c : Expr} {px py pz pt : Pos} {kt k2 pt2} (hc : X.calm = true) (hN : X.N.Nodup) (ha : AN X [a, b, c] 3 fs) (hi : X.N[i]? = some x := by rfl) (hj : X.N[j]? = some y := by rfl) (hl : X.N[l]? = some z := by rfl) (hij : i ≠ j := by decide) (hil : i ≠ l := by decide) (hjl : j ≠ l := by decide)
    (hx : X.env.scope.names.lookup x = some .local := by rfl) (hy : X.env.scope.names.lookup y = some .local := by rfl) (hz : X.env.scope.names.lookup z = some .local := by rfl)
    (hw : swappedStores [.Tuple [.Name x px, .Name y py, .Name z pz] kt pt] (.Tuple [a, b, c] k2 pt2) X.env = pure (some [x, y, z]) := by rfl)
    (hs : swapsWithSole [.Tuple [.Name x px, .Name y py, .Name z pz] kt pt] (.Tuple [a, b, c] k2 pt2) pos.line X.env = pure false := by rfl) :
    S X (.Assign [.Tuple [.Name x px, .Name y py, .Name z pz] kt pt] (.Tuple [a, b, c] k2 pt2) pos) (sPar [i, j, l] fs) := by
  obtain ⟨t, h1, h2⟩ := ha.a.ex
  refine ⟨⟨_, ps_par3 hc hN hi hj hl hij hil hjl hx hy hz h1 hw hs, fun G0 H0 Γ σ G H D r R hf k => ?_⟩⟩
  obtain ⟨ds, e1, hf⟩ := obind hf
  cases hf
  have hl := ha.n Γ ds e1
  refine h2 G0 H0 Γ σ G H _ ds R e1 fun G1 H1 vs x1 r1 => ?_
  match ds, hl, r1, k with
  | [d1, d2, d3], _, .cons r (.cons q (.cons w .nil)), k => exact ⟨_, _, _, rfl, k _ G1 H1 ((((R.ext x1).set i r).set j q).set l w)⟩

/-! loops -/
def forL (g : Gs) (body : Sm) : List D → Sm
  | [], Γ => some (.nx Γ)
  | d :: ds, Γ => (g d Γ).bind fun Γ1 => (body Γ1).bind fun r => match r with
    | .nx Γ2 => forL g body ds Γ2
    | .ct Γ2 => forL g body ds Γ2
    | .bk Γ2 => some (.nx Γ2)
    | .rt d => some (.rt d)
def sFor (it : Ag) (g : Gs) (body : Sm) : Sm := fun Γ => (it Γ).bind fun ds => forL g body ds Γ
def whileN : Nat → Te → Sm → Sm
  | 0, _, _, _ => none
  | n + 1, c, body, Γ => (c Γ).bind fun b => if b then (body Γ).bind fun r => match r with
      | .nx Γ2 => whileN n c body Γ2
      | .ct Γ2 => whileN n c body Γ2
      | .bk Γ2 => some (.nx Γ2)
      | .rt d => some (.rt d)
    else some (.nx Γ)
open Classical in
noncomputable def sWhile (c : Te) (body : Sm) : Sm := fun Γ => if h : ∃ r n, whileN n c body Γ = some r then some h.choose else none
theorem whileN_mono {c : Te} {body : Sm} : ∀ {n m : Nat} {Γ : DEnv} {r : Res}, n ≤ m → whileN n c body Γ = some r → whileN m c body Γ = some r
  | 0, _, _, _, _, h => by cases h
  | n + 1, 0, _, _, h, _ => by omega
  | n + 1, m + 1, Γ, r, hm, h => by
    unfold whileN at h ⊢
    obtain ⟨b, e1, h⟩ := obind h
    rw [e1]
    cases b with
    | false => exact h
    | true =>
      replace h : ((body Γ).bind fun r => match r with
        | .nx Γ2 => whileN n c body Γ2
        | .ct Γ2 => whileN n c body Γ2
        | .bk Γ2 => some (.nx Γ2)
        | .rt d => some (.rt d)) = some r := h
      obtain ⟨r1, e2, h⟩ := obind h
      show ((body Γ).bind fun r => match r with
        | .nx Γ2 => whileN m c body Γ2
        | .ct Γ2 => whileN m c body Γ2
        | .bk Γ2 => some (.nx Γ2)
        | .rt d => some (.rt d)) = some r
      rw [e2]
      cases r1 with
      | nx Γ2 => exact whileN_mono (by omega) h
      | ct Γ2 => exact whileN_mono (by omega) h
      | bk Γ2 => exact h
      | rt d => exact h
theorem sWhile_of {c : Te} {body : Sm} {Γ : DEnv} {r : Res} {n : Nat} (h : whileN n c body Γ = some r) : sWhile c body Γ = some r := by
  unfold sWhile
  have ex : ∃ r n, whileN n c body Γ = some r := ⟨r, n, h⟩
  rw [dif_pos ex]
  obtain ⟨m, hm⟩ := ex.choose_spec
  have h1 := whileN_mono (Nat.le_max_left n m) h
  have h2 := whileN_mono (Nat.le_max_right n m) hm
  rw [h1] at h2
  exact h2.symm
theorem sWhile_some {c : Te} {body : Sm} {Γ : DEnv} {r : Res} (h : sWhile c body Γ = some r) : ∃ n, whileN n c body Γ = some r := by
  unfold sWhile at h
  split at h
  · rename_i ex
    cases h
    exact ex.choose_spec
  · cases h
/-- what is known grows: the base moves on -/
theorem Rel.rebase {K : PySem.W.Frag} {mg : Str → Option Value} {G0 H0 : Hp} {Γ : DEnv} {σ : L2.St} {G H : Hp} (R : Rel K mg G0 H0 Γ σ G H) : Rel K mg G H0 Γ σ G H :=
  ⟨R.len, R.gh, R.hh, Same.refl _, fun a h => .inl h, R.sl, R.dj⟩
theorem Rel.unbase {K : PySem.W.Frag} {mg : Str → Option Value} {G0 H0 : Hp} {Γ Γ' : DEnv} {σ σ' : L2.St} {G H G' H' : Hp} (R : Rel K mg G0 H0 Γ σ G H) (R' : Rel K mg G H0 Γ' σ' G' H') : Rel K mg G0 H0 Γ' σ' G' H' :=
  ⟨R'.len, R'.gh, R'.hh, R.gg.trans R'.gg, fun a h => by
    rcases R'.new a h with z | z
    · exact R.new a z
    · exact .inr z, R'.sl, R'.dj⟩
theorem Rel.unext {K : PySem.W.Frag} {mg : Str → Option Value} {G0 H0 : Hp} {Γ : DEnv} {σ : L2.St} {G H G' H' : Hp} (R : Rel K mg G0 H0 Γ σ G H) (x : Ext G H0 G' H') : Ext G0 H0 G' H' :=
  ⟨R.gg.trans x.gg, x.hh, x.gh, fun a h => by
    rcases x.new a h with z | z
    · exact R.new a z
    · exact .inr z⟩
theorem s_for {iter : Expr} {body : List Stmt} {it : Ag} (hp : PassesOwn (model X.prog X.w) X.A X.env X.xe) (hc : X.calm = true) (hi : I X tg iter it) (hg : G X tg ix g) (hb : Ss X body F) (hs : ∀ x, foldedSetIterable iter X.env x = pure x := by intro _; rfl) :
    S X (.For tg iter body [] pos) (sFor it g F) := by
  obtain ⟨wi, w1, w2⟩ := hi.ex
  obtain ⟨t, t1, t2⟩ := hg.ex
  obtain ⟨u, u1, u2⟩ := hb.ex
  refine ⟨⟨_, ps_for hp hc w1 t1 u1 hs, fun G0 H0 Γ σ G H D r R hf k => ?_⟩⟩
  obtain ⟨ds, e1, hf⟩ := obind hf
  refine w2 G0 H0 Γ σ G H _ ds R e1 fun G1 H1 J x1 hJ => ?_
  have R1 := R.ext x1
  refine ⟨fun i m σ' H' => m = ds.length - i ∧ i ≤ ds.length ∧ ∃ Γ' G', Rel X.K X.mg G1 H0 Γ' σ' G' H' ∧ forL g F (ds.drop i) Γ' = some r, ⟨ds.length, by simp, Nat.zero_le _, Γ, G1, R1.rebase, by simpa using hf⟩, ?_⟩
  rintro i m σ' H' ⟨rfl, hi, Γ', G', R', hr⟩
  obtain ⟨st, go⟩ := hJ i G' H' R'.gg R'.gh
  by_cases hlt : i < ds.length
  · have hd : ds.drop i = ds[i] :: ds.drop (i + 1) := List.drop_eq_getElem_cons hlt
    obtain ⟨g1, g2⟩ := go ds[i] (List.getElem?_eq_getElem hlt)
    rw [hd] at hr
    obtain ⟨Γ1, c1, hr⟩ := obind hr
    obtain ⟨r1, c2, hr⟩ := obind hr
    refine .inr ⟨g1, fun σ2 H2 => ∃ Γ2 G2, Rel X.K X.mg G1 H0 Γ2 σ2 G2 H2 ∧ forL g F (ds.drop (i + 1)) Γ2 = some r, fun σ2 H2 ⟨Γ2, G2, R2, h2⟩ => ⟨ds.length - (i + 1), by omega, rfl, hlt, Γ2, G2, R2, h2⟩, fun x H2 y => ?_⟩
    obtain ⟨G2, x2, r2⟩ := g2 x H2 y
    refine t2 G1 H0 Γ' σ' G2 H2 _ _ x Γ1 (R'.ext x2) r2 c1 fun σ3 R3 _ => ?_
    refine u2 G1 H0 Γ1 σ3 G2 H2 _ r1 R3 c2 ?_
    cases r1 with
    | nx Γ2 => exact fun σ4 G4 H4 R4 => ⟨Γ2, G4, R4, hr⟩
    | ct Γ2 => exact fun σ4 G4 H4 R4 => ⟨Γ2, G4, R4, hr⟩
    | bk Γ2 => cases hr; exact fun σ4 G4 H4 R4 => k σ4 G4 H4 (R1.unbase R4)
    | rt d => cases hr; exact fun G4 H4 v x4 r4 => k G4 H4 v (R1.unext x4) r4
  · have e : i = ds.length := by omega
    subst e
    refine .inl ⟨st (Nat.le_refl _), ?_⟩
    rw [List.drop_length] at hr
    cases hr
    exact k σ' G' H' (R1.unbase R')
theorem s_while {c : Expr} {body : List Stmt} (hp : PassesOwn (model X.prog X.w) X.A X.env X.xe) (hc : T X c p) (hb : Ss X body F) : S X (.While c body [] pos) (sWhile p F) := by
  obtain ⟨t, t1, t2⟩ := hc.ex
  obtain ⟨u, u1, u2⟩ := hb.ex
  refine ⟨⟨_, ps_while hp t1 u1, fun G0 H0 Γ σ G H D r R hf k => ?_⟩⟩
  obtain ⟨n, hn⟩ := sWhile_some hf
  refine ⟨fun m σ' H' => ∃ Γ' G', Rel X.K X.mg G0 H0 Γ' σ' G' H' ∧ whileN m p F Γ' = some r, ⟨n, Γ, G, R, hn⟩, fun m σ' H' ⟨Γ', G', R', h⟩ => ?_⟩
  cases m with
  | zero => cases h
  | succ m =>
    unfold whileN at h
    obtain ⟨b, e1, h⟩ := obind h
    refine t2 G0 H0 Γ' σ' G' H' _ b R' e1 fun G1 H1 x1 => ?_
    cases b with
    | false =>
      cases h
      exact iteF (k σ' G1 H1 (R'.ext x1))
    | true =>
      replace h : ((F Γ').bind fun r => match r with
        | .nx Γ2 => whileN m p F Γ2
        | .ct Γ2 => whileN m p F Γ2
        | .bk Γ2 => some (.nx Γ2)
        | .rt d => some (.rt d)) = some r := h
      obtain ⟨r1, e2, h⟩ := obind h
      refine iteT ⟨fun σ2 H2 => ∃ Γ2 G2, Rel X.K X.mg G0 H0 Γ2 σ2 G2 H2 ∧ whileN m p F Γ2 = some r, fun σ2 H2 h => ⟨m, Nat.lt_succ_self _, h⟩, ?_⟩
      refine u2 G0 H0 Γ' σ' G1 H1 _ r1 (R'.ext x1) e2 ?_
      cases r1 with
      | nx Γ2 => exact fun σ4 G4 H4 R4 => ⟨Γ2, G4, R4, h⟩
      | ct Γ2 => exact fun σ4 G4 H4 R4 => ⟨Γ2, G4, R4, h⟩
      | bk Γ2 => cases h; exact fun σ4 G4 H4 R4 => k σ4 G4 H4 R4
      | rt d => cases h; exact fun G4 H4 v x4 r4 => k G4 H4 v x4 r4
/-- y = [.. for .. in ..] -/
theorem s_setLc (i : Nat) {y : Str} {py : Pos} {elt iter : Expr} {ifs : List Expr} {scope : Scope} {own : List (Str × Nat)} {it : Ag} {spos : Pos} (hc : X.calm = true) (hN : X.N.Nodup) (hi : I X tg iter it) (ok : BlkOk X.N X.env.scope scope own) (hix : ∀ i ∈ ix, i ∈ own.map (·.2))
    (hg : ∀ (s : Shared) (H : Hp) (C : Addr) (cl : List (Str × Addr)) (fp : List Addr), G (X.blk s H scope (compEnvC scope cl C X.env) fp) tg ix g)
    (ht : ∀ (s : Shared) (H : Hp) (C : Addr) (cl : List (Str × Addr)) (fp : List Addr), Ts (X.blk s H scope (compEnvC scope cl C X.env) fp) ifs p)
    (he : ∀ (s : Shared) (H : Hp) (C : Addr) (cl : List (Str × Addr)) (fp : List Addr), E (X.blk s H scope (compEnvC scope cl C X.env) fp) elt f)
    (hy : X.N[i]? = some y := by rfl) (hyl : X.env.scope.names.lookup y = some .local := by rfl) (hsw : swapsWith (.ListComp elt [⟨tg, iter, ifs, 0⟩] scope pos) (some (.Name y py)) spos.line X.env = pure true := by exact sw_true rfl rfl rfl (by decide +kernel)) (hs : ∀ x, foldedSetIterable iter X.env x = pure x := by intro _; rfl) :
    S X (.Assign [.Name y py] (.ListComp elt [⟨tg, iter, ifs, 0⟩] scope pos) spos) (sSetO i (gLc (own.map (·.2)) it g p f)) := by
  obtain ⟨wi, w1, w2⟩ := hi.ex
  refine ⟨⟨_, ps_setLc (te := fun σ H Q => ∃ G0 H0 Γ G d, Rel X.K X.mg G0 H0 Γ σ G H ∧ f Γ = some d ∧ ∀ G' H' v, Ext G H G' H' → Rep X.K X.mg G' v d → Q v H') (tt := fun σ H Q => ∃ G0 H0 Γ G d, Rel X.K X.mg G0 H0 Γ σ G H ∧ p Γ = some d ∧ ∀ G' H', Ext G H G' H' → Q d H') (g := fun v σ H Q => ∃ G0 H0 Γ G d Γ', Rel X.K X.mg G0 H0 Γ σ G H ∧ Rep X.K X.mg G v d ∧ g d Γ = some Γ' ∧ ∀ σ', Rel X.K X.mg G0 H0 Γ' σ' G H → (∀ vs, (∀ i ∈ ix, i ∈ vs) → L2.wipe σ' vs = L2.wipe σ vs) → Q σ' H) hc hN hy hyl hsw w1 ok (fun s H C cl fp => (hg s H C cl fp).pg) (fun s H C cl fp => (ht s H C cl fp).pt) (fun s H C cl fp => (he s H C cl fp).pe) hs, fun G0 H0 Γ σ G H D r R hf k => ?_⟩⟩
  obtain ⟨d, e1, hf⟩ := obind hf
  cases hf
  exact lc_run hix w2 R e1 fun G1 H1 q vs x1 hq gq h r1 => k _ G1 H1 (set_own R x1 hq gq h r1 i)
/-- x[k] = e of a list of one's own -/
theorem s_ixS (i : Nat) {x : Str} {sp p1 : Pos} (he : E X e f) (hk : E X a k) (hN : X.N[i]? = some x := by rfl) (hv : Vis X.env.scope x := by first | exact Or.inl rfl | exact Or.inr (Or.inl rfl) | exact Or.inr (Or.inr rfl)) (hd : (x == ("__debug__" : Str)) = false := by decide)
    (hcd : (x == ("__classdict__" : Str)) = false := by decide)
    (hpg : ∀ {ti : TE}, PE X a ti → PG X (.Subscript (.Name x p1) a sp) (gSub (tVar i) ti rSetL) := by intro ti h; exact pg_sub (pv _) h set_list)
    (hs : swapsWithSole [.Subscript (.Name x p1) a sp] e pos.line X.env = pure false := by rfl) (hw : swappedStores [.Subscript (.Name x p1) a sp] e X.env = pure none := by rfl)
    (h1 : (assignEach [.Subscript (.Name x p1) a sp] X.env).map (·.2) = [assign (.Subscript (.Name x p1) a sp) X.env] := by rfl) : S X (.Assign [.Subscript (.Name x p1) a sp] e pos) (sIxS i k f) := by
  obtain ⟨t, t1, t2⟩ := he.ex
  obtain ⟨u, u1, u2⟩ := hk.ex
  refine ⟨⟨_, ps_asg t1 (hpg u1) hs hw h1, fun G0 H0 Γ σ G H D r R hf kk => ?_⟩⟩
  obtain ⟨d, e1, hf⟩ := obind hf
  obtain ⟨j, e2, hf⟩ := obind hf
  refine t2 G0 H0 Γ σ G H _ d R e1 fun G1 H1 v x1 r1 => ?_
  have R1 := R.ext x1
  cases q : Γ[i]? with
  | none => rw [q] at hf; cases hf
  | some s =>
    rw [q] at hf
    cases s with
    | ow xs =>
      cases j with
      | int m =>
        replace hf : ((ixN xs.length m).bind fun m => some (Res.nx (Γ.set i (.ow (xs.set m d))))) = some r := hf
        obtain ⟨j, e3, hf⟩ := obind hf
        cases hf
        obtain ⟨l, vs, a1, a2, a3, a4, a5⟩ := R1.sl i _ q
        refine ⟨_, a1, ?_⟩
        refine u2 G0 H0 Γ σ G1 H1 _ _ R1 e2 fun G2 H2 w x2 r2 => ?_
        have R2 := R1.ext x2
        obtain ⟨l', vs', b1, b2, b3, b4, b5⟩ := R2.sl i _ q
        rw [a1] at b1
        cases b1
        rw [r2.intv]
        refine ⟨l, vs', m, j, rfl, rfl, b4, by rw [b5.length]; exact e3, ?_⟩
        exact kk σ G2 _ (R2.write q a1 (b5.set j (r1.mono x2.gg)))
      | _ => cases hf
    | _ => cases hf
end

/-! ### a def by its body -/
def runB (n : Nat) (F : Sm) : List D → Option D := fun ds => (F (ds.map Sl.sh ++ List.replicate (n - ds.length) .no)).bind fun r => match r with
  | .rt d => some d
  | .nx _ => some .non
  | _ => none
theorem start_rel {K : PySem.W.Frag} {mg : Str → Option Value} {G H : Hp} {N : List Str} {vs : List V} {ds : List D} (gh : Same G H) (r : RepL K mg G vs ds) : Rel K mg G H (ds.map Sl.sh ++ List.replicate (N.length - ds.length) .no) (L2.start N vs) G H := by
  have hl := r.length
  unfold L2.start
  refine ⟨by simp [hl], gh, Same.refl _, Same.refl _, fun a h => .inl h, fun i s h => ?_, fun i j xs ys p h1 _ _ _ => ?_⟩
  · by_cases hi : i < ds.length
    · rw [List.getElem?_append_left (by simpa using hi), List.getElem?_map] at h
      rw [List.getElem?_append_left (by simpa [hl] using hi), List.getElem?_map]
      rw [List.getElem?_eq_getElem hi] at h
      cases h
      obtain ⟨v, e1, e2⟩ := r.get i (List.getElem?_eq_getElem hi)
      rw [e1]
      exact ⟨v, rfl, e2⟩
    · rw [List.getElem?_append_right (by simpa using hi), List.getElem?_replicate] at h
      split at h
      · cases h; exact True.intro
      · cases h
  · exfalso
    by_cases hi : i < ds.length
    · rw [List.getElem?_append_left (by simpa using hi), List.getElem?_map, List.getElem?_eq_getElem hi] at h1
      cases h1
    · rw [List.getElem?_append_right (by simpa using hi), List.getElem?_replicate] at h1
      split at h1 <;> cases h1
section
variable {P : Program} {w : World} {K : PySem.W.Frag} {mg : Str → Option Value} {base : Heap}
theorem def_ok {x qual : Str} {st : Stmt} {f : Addr} {fd : FuncData} {N ps : List Str} {k : Nat} {B : Sm} (F : Fun K x qual st f fd) (S : FnScope N ps (defScope st))
    (hbody : ∀ (cdv : Value) (A : Around) (outer : List PySem.Env) (s : Shared) (H : Hp) (E : XK), Room k (A.deeper (PyProof.Rows.envOfC qual (defScope st) s.heap.objs.size f cdv)) →
      Ss (cxOf CX0 P w K mg base N qual (defScope st) f cdv A outer s H E).nox (defBody st) B) : FnOk P w K mg base CX0 (k + 1) f fd ps (spD K mg ps.length (runB N.length B)) := by
  refine F.ok S (fun vs H Q E h => ?_) (fun cdv A outer s H vs Q E hr h => ?_)
  · obtain ⟨G, ds, d, hl, _⟩ := h
    exact hl
  · obtain ⟨G, ds, d, hl, gh, r, hf, k'⟩ := h
    obtain ⟨t, h1, h2⟩ := (hbody cdv A outer s H E hr).ex
    refine ⟨t, h1, ?_⟩
    obtain ⟨r1, e1, hf⟩ := obind hf
    refine h2 G H _ _ G H _ r1 (start_rel gh r) e1 ?_
    cases r1 with
    | rt d' => cases hf; exact fun G' H' v x r => k' G' H' v x r
    | nx Γ => cases hf; exact fun σ' G' H' R => k' G' H' _ R.end .non
    | bk Γ => cases hf
    | ct Γ => cases hf
/-- the value said in another way -/
theorem spD_imp {n : Nat} {F F' : List D → Option D} {f : Addr} {fd : FuncData} {ps : List Str} {k : Nat} (h : FnOk P w K mg base CX0 k f fd ps (spD K mg n F)) (hF : ∀ ds d, F' ds = some d → F ds = some d) : FnOk P w K mg base CX0 k f fd ps (spD K mg n F') :=
  h.imp fun vs H Q E ⟨G, ds, d, h1, h2, h3, h4, h5⟩ => ⟨G, ds, d, h1, h2, h3, hF ds d h4, h5⟩
end
end DL

namespace DL
open PySem L2

/-! ### words for callers -/
structure Cal (P : Program) (w : World) (K : PySem.W.Frag) (mg : Str → Option Value) (base : Heap) (x : Str) (L : Nat) (ps : List Str) (S : List D → Option D) : Prop where
  ex : ∃ f fd, FnOk P w K mg base CX0 L f fd ps (spD K mg ps.length S) ∧ mg x = some (.ref f) ∧ PySem.W.keepIn K (.ref f) = true ∧ Binds K fd ps []
structure Met (P : Program) (w : World) (K : PySem.W.Frag) (mg : Str → Option Value) (base : Heap) (c : Nat) (m : Str) (L : Nat) (ps : List Str) (S : List D → Option D) : Prop where
  ex : ∃ C f fd, CK K mg c C ∧ Meth K C m f ∧ FnOk P w K mg base CX0 L f fd ps (spD K mg ps.length S) ∧ Binds K fd ps []
section
variable {X : Cx} {e a b o : Expr} {es : List Expr} {f g : Ex} {fs : Ag} {pos : Pos} {n : Nat}
theorem e_callC {k L : Nat} {ps : List Str} {S : List D → Option D} {x : Str} {p : Pos} (c : Cal X.prog X.w X.K X.mg X.base x L ps S) (hr : Room k X.A) (hk : L ≤ k)
    (ha : AN X (a :: es) ps.length fs) (hg : Gl X x := by rfl) (hdb : (x == ("__debug__" : Str)) = false := by decide) (he : starEach (a :: es) X.env = (false, eval a X.env) :: starEach es X.env := by rfl) (hpl : (backTo pos (starEach es X.env)).any (·.1) = false := by rfl) :
    E X (.Call (.Name x p) (a :: es) [] pos) (gCall S fs) := by
  obtain ⟨f, fd, h1, h2, h3, h4⟩ := c.ex
  exact e_call h1 (hr.mono hk) h2 h3 h4 ha hg hdb he hpl
theorem e_callC0 {k L : Nat} {S : List D → Option D} {x : Str} {p : Pos} (c : Cal X.prog X.w X.K X.mg X.base x L [] S) (hr : Room k X.A) (hk : L ≤ k)
    (hg : Gl X x := by rfl) (hdb : (x == ("__debug__" : Str)) = false := by decide) : E X (.Call (.Name x p) [] [] pos) (gCall S aN) := by
  obtain ⟨f, fd, h1, h2, h3, h4⟩ := c.ex
  exact e_call0 h1 (hr.mono hk) h2 h3 h4 hg hdb
theorem e_metC {pl : Sem Bool} {c k L : Nat} {p0 : Str} {ps : List Str} {S : List D → Option D} {m : Str} {apos : Pos} (mt : Met X.prog X.w X.K X.mg X.base c m L (p0 :: ps) S) (hr : Room k X.A) (hk : L ≤ k)
    (ho : E X o f) (ha : AN X (a :: es) ps.length fs) (hno : m ∉ cF c := by decide +kernel)
    (hst : starEach (a :: es) X.env = (false, eval a X.env) :: starEach es X.env := by rfl) (hpl : (backTo pos (starEach es X.env)).any (·.1) = false := by rfl)
    (ht : eval (.Call (.Attribute o m apos) (a :: es) [] pos) X.env = (do
      let ov ← eval o X.env
      standAt apos.atName
      let (f, first) ← holding [ov] (getMethod ov m pl)
      callWith pos f first (backTo pos (starEach (a :: es) X.env)) (backToKw pos (keywordEach [] X.env))) := by rfl) : E X (.Call (.Attribute o m apos) (a :: es) [] pos) (gMeth c S f fs) := by
  obtain ⟨C, fa, fd, h1, h2, h3, h4⟩ := mt.ex
  exact e_meth h1 h2 h3 (hr.mono hk) h4 ho ha hno hst hpl ht
theorem e_metC0 {pl : Sem Bool} {c k L : Nat} {p0 : Str} {S : List D → Option D} {m : Str} {apos : Pos} (mt : Met X.prog X.w X.K X.mg X.base c m L [p0] S) (hr : Room k X.A) (hk : L ≤ k)
    (ho : E X o f) (hno : m ∉ cF c := by decide +kernel)
    (ht : eval (.Call (.Attribute o m apos) [] [] pos) X.env = (do
      let ov ← eval o X.env
      standAt apos.atName
      let (f, first) ← holding [ov] (getMethod ov m pl)
      callWith pos f first (backTo pos (starEach [] X.env)) (backToKw pos (keywordEach [] X.env))) := by rfl) : E X (.Call (.Attribute o m apos) [] [] pos) (gMeth c S f aN) := by
  obtain ⟨C, fa, fd, h1, h2, h3, h4⟩ := mt.ex
  exact e_meth0 h1 h2 h3 (hr.mono hk) h4 ho hno ht
/-- y = [..], known to all -/
theorem s_setLcS (i : Nat) {y : Str} {py : Pos} {elt iter tg : Expr} {ifs : List Expr} {scope : Scope} {own : List (Str × Nat)} {it : Ag} {spos : Pos} {ix : List Nat} {g : Gs} {p : Te} (hc : X.calm = true) (hN : X.N.Nodup) (hi : I X tg iter it) (ok : BlkOk X.N X.env.scope scope own) (hix : ∀ i ∈ ix, i ∈ own.map (·.2))
    (hg : ∀ (s : Shared) (H : Hp) (C : Addr) (cl : List (Str × Addr)) (fp : List Addr), G (X.blk s H scope (compEnvC scope cl C X.env) fp) tg ix g)
    (ht : ∀ (s : Shared) (H : Hp) (C : Addr) (cl : List (Str × Addr)) (fp : List Addr), Ts (X.blk s H scope (compEnvC scope cl C X.env) fp) ifs p)
    (he : ∀ (s : Shared) (H : Hp) (C : Addr) (cl : List (Str × Addr)) (fp : List Addr), E (X.blk s H scope (compEnvC scope cl C X.env) fp) elt f)
    (hy : X.N[i]? = some y := by rfl) (hyl : X.env.scope.names.lookup y = some .local := by rfl) (hsw : swapsWith (.ListComp elt [⟨tg, iter, ifs, 0⟩] scope pos) (some (.Name y py)) spos.line X.env = pure true := by exact sw_true rfl rfl rfl (by decide +kernel)) (hs : ∀ x, foldedSetIterable iter X.env x = pure x := by intro _; rfl) :
    S X (.Assign [.Name y py] (.ListComp elt [⟨tg, iter, ifs, 0⟩] scope pos) spos) (sSet i (gL (gLc (own.map (·.2)) it g p f))) := by
  obtain ⟨t, h1, h2⟩ := (s_setLc (f := f) (py := py) (spos := spos) (pos := pos) i hc hN hi ok hix hg ht he hy hyl hsw hs).ex
  refine ⟨⟨t, h1, fun G0 H0 Γ σ G H D r R hf k => ?_⟩⟩
  obtain ⟨d, e1, hf⟩ := obind hf
  obtain ⟨ds, e2, e1⟩ := obind e1
  cases e1
  cases hf
  refine h2 G0 H0 Γ σ G H D (.nx (Γ.set i (.ow ds))) R (by show (gLc _ _ _ _ _ Γ).bind _ = _; rw [e2]; rfl) fun σ1 G1 H1 R1 => ?_
  by_cases hi : i < Γ.length
  · have q : (Γ.set i (.ow ds))[i]? = some (.ow ds) := by simp [hi]
    obtain ⟨G2, R2, _⟩ := R1.frz q
    rw [List.set_set] at R2
    exact k σ1 G2 H1 R2
  · have e : ∀ s, Γ.set i s = Γ := fun s => List.set_eq_of_length_le (by omega)
    rw [e] at R1
    refine k σ1 G1 H1 ?_
    rw [e]
    exact R1
theorem v_notT (h : B X e f) : V1 X (.UnaryOp .Not e pos) (gNot (gTru f)) := by
  obtain ⟨t, h1, h2⟩ := h.ex
  refine ⟨⟨⟨_, pe_notT h1, fun G0 H0 Γ σ G H Q c R hf k => ?_⟩⟩⟩
  obtain ⟨d0, e0, hf⟩ := obind hf
  cases hf
  obtain ⟨d1, e1, hf⟩ := obind e0
  cases hf
  obtain ⟨d2, e2, hf⟩ := obind e1
  refine h2 G0 H0 Γ σ G H _ _ R e2 fun G' H' v x r => ?_
  have z := dTru_ok x.gh hf r
  exact ⟨d1, z, k G' H' _ x (.bl _)⟩
end
theorem boot_len' : bootBuiltins "len" = some (.builtin "len") := PySem.boot_len
theorem boot_abs' : bootBuiltins "abs" = some (.builtin "abs") := by decide +kernel
theorem boot_max' : bootBuiltins "max" = some (.builtin "max") := by decide +kernel
theorem boot_min' : bootBuiltins "min" = some (.builtin "min") := by decide +kernel
theorem boot_sum' : bootBuiltins "sum" = some (.builtin "sum") := by decide +kernel
theorem boot_all' : bootBuiltins "all" = some (.builtin "all") := by decide +kernel
theorem boot_any' : bootBuiltins "any" = some (.builtin "any") := by decide +kernel
theorem boot_sorted' : bootBuiltins "sorted" = some (.builtin "sorted") := by decide +kernel
theorem boot_isinstance' : bootBuiltins "isinstance" = some (.builtin "isinstance") := by decide +kernel
theorem boot_int' : bootBuiltins "int" = some (.type "int") := by decide +kernel
theorem boot_list' : bootBuiltins "list" = some (.type "list") := by decide +kernel
theorem boot_bool' : bootBuiltins "bool" = some (.type "bool") := by decide +kernel
theorem boot_tuple' : bootBuiltins "tuple" = some (.type "tuple") := by decide +kernel
theorem boot_str' : bootBuiltins "str" = some (.type "str") := by decide +kernel
end DL

namespace DL
open PySem L2

/-! ### reckoning a meaning step by step -/
section
variable {Γ Γ1 Γ2 : DEnv} {f g k : Ex} {fs : Ag} {p q : Te} {F F' F'' : Sm} {d x y z : D} {ds : List D} {b c : Bool} {r : Option Res} {o : D → D → Option D} {u : D → Option D} {i n : Nat} {m j : Int}
theorem ev_V (h : Γ[i]? = some (.sh d)) : gV i Γ = some d := by unfold gV; rw [h]
theorem ev_B (h : Γ[i]? = some (.sh d)) : gB i Γ = some d := by unfold gB; rw [h]
theorem ev_Bo {xs : List D} (h : Γ[i]? = some (.ow xs)) : gB i Γ = some (.lst xs) := by unfold gB; rw [h]
theorem ev_I : gI m Γ = some (.int m) := rfl
theorem ev_C : gC d Γ = some d := rfl
theorem ev_op (h1 : f Γ = some x) (h2 : g Γ = some y) (h3 : o x y = some d) : gOp o f g Γ = some d := by unfold gOp; rw [h1]; show (g Γ).bind _ = _; rw [h2]; exact h3
theorem ev_U (h1 : f Γ = some x) (h2 : u x = some d) : gU u f Γ = some d := by unfold gU; rw [h1]; exact h2
theorem ev_call {S : List D → Option D} (h1 : fs Γ = some ds) (h2 : S ds = some d) : gCall S fs Γ = some d := by unfold gCall; rw [h1]; exact h2
theorem ev_A {S : List D → Option D} (h1 : fs Γ = some ds) (h2 : S ds = some d) : gA S fs Γ = some d := by unfold gA; rw [h1]; exact h2
theorem ev_cs (h1 : f Γ = some d) (h2 : fs Γ = some ds) : aC f fs Γ = some (d :: ds) := by unfold aC; rw [h1]; show (fs Γ).bind _ = _; rw [h2]; rfl
theorem ev_nl : aN Γ = some [] := rfl
theorem ev_tu (h : fs Γ = some ds) : gTu n fs Γ = some (.tup ds) := by unfold gTu; rw [h]; rfl
theorem ev_L (h : fs Γ = some ds) : gL fs Γ = some (.lst ds) := by unfold gL; rw [h]; rfl
theorem ev_UL {u : D → Option (List D)} (h1 : f Γ = some x) (h2 : u x = some ds) : gUL u f Γ = some ds := by unfold gUL; rw [h1]; exact h2
theorem ev_Sl {fl fh : Op} {l h : Option Int} (h1 : f Γ = some x) (h2 : fl Γ = some l) (h3 : fh Γ = some h) (h4 : dCut x l h = some ds) : gSl f fl fh Γ = some ds := by unfold gSl; rw [h1]; show (fl Γ).bind _ = _; rw [h2]; show (fh Γ).bind _ = _; rw [h3]; exact h4
theorem ev_No : gNo Γ = some none := rfl
theorem ev_So (h : f Γ = some (.int m)) : gSo f Γ = some (some m) := by unfold gSo; rw [h]; rfl
theorem ev_meth {c : Nat} {S : List D → Option D} {vs : List D} (h1 : f Γ = some (.obj c vs)) (h2 : fs Γ = some ds) (h3 : S (.obj c vs :: ds) = some d) : gMeth c S f fs Γ = some d := by
  unfold gMeth; rw [h1]; show (if c = c then (fs Γ).bind fun ds => S (.obj c vs :: ds) else none) = _
  rw [if_pos rfl, h2]; exact h3
theorem ev_T (h : f Γ = some (.bl b)) : gT f Γ = some b := by unfold gT; rw [h]; rfl
theorem ev_Tru (h1 : f Γ = some x) (h2 : dTru x = some b) : gTru f Γ = some b := by unfold gTru; rw [h1]; exact h2
theorem ev_not (h : p Γ = some b) : gNot p Γ = some (!b) := by unfold gNot; rw [h]; rfl
theorem ev_and (h1 : p Γ = some b) (h2 : q Γ = some c) : gAnd p q Γ = some (b && c) := by unfold gAnd; rw [h1]; cases b <;> first | exact h2 | rfl
/-- the right one is asked only if the left one is true -/
theorem ev_andT (h1 : p Γ = some b) (h2 : b = true → q Γ = some c) : gAnd p q Γ = some (b && c) := by unfold gAnd; rw [h1]; cases b <;> first | exact h2 rfl | rfl
theorem ev_andF (h1 : p Γ = some false) : gAnd p q Γ = some false := by unfold gAnd; rw [h1]; rfl
theorem ev_or (h1 : p Γ = some b) (h2 : q Γ = some c) : gOr p q Γ = some (b || c) := by unfold gOr; rw [h1]; cases b <;> first | exact h2 | rfl
theorem ev_orF (h1 : p Γ = some b) (h2 : b = false → q Γ = some c) : gOr p q Γ = some (b || c) := by unfold gOr; rw [h1]; cases b <;> first | exact h2 rfl | rfl
theorem ev_orT (h1 : p Γ = some true) : gOr p q Γ = some true := by unfold gOr; rw [h1]; rfl
theorem ev_bl (h : p Γ = some b) : gBl p Γ = some (.bl b) := by unfold gBl; rw [h]; rfl
theorem ev_if (h1 : p Γ = some b) (h2 : b = true → f Γ = some d) (h3 : b = false → g Γ = some d) : gIf p f g Γ = some d := by unfold gIf; rw [h1]; cases b <;> first | exact h2 rfl | exact h3 rfl
theorem ev_ch {ch : D → Te} (h1 : f Γ = some x) (h2 : ch x Γ = some b) : gCh f ch Γ = some b := by unfold gCh; rw [h1]; exact h2
theorem ev_ch1 (h1 : f Γ = some y) (h2 : o x y = some (.bl b)) : gCh1 o f x Γ = some b := by unfold gCh1; rw [h1]; show dB (o x y) = _; rw [h2]; rfl
theorem ev_chn {ch : D → Te} (h1 : f Γ = some y) (h2 : o x y = some (.bl b)) (h3 : ch y Γ = some c) : gChn o f ch x Γ = some (b && c) := by
  unfold gChn; rw [h1]; show (dB (o x y)).bind _ = _; rw [h2]; show (if b = true then ch y Γ else some false) = _
  cases b <;> first | exact h3 | rfl
theorem ev_chnT {ch : D → Te} (h1 : f Γ = some y) (h2 : o x y = some (.bl b)) (h3 : b = true → ch y Γ = some c) : gChn o f ch x Γ = some (b && c) := by
  unfold gChn; rw [h1]; show (dB (o x y)).bind _ = _; rw [h2]; show (if b = true then ch y Γ else some false) = _
  cases b <;> first | exact h3 rfl | rfl
/-! statements -/
theorem sv_run {N : Nat} {B : Sm} (h : B (ds.map Sl.sh ++ List.replicate (N - ds.length) .no) = some (.rt d)) : runB N B ds = some d := by unfold runB; rw [h]; rfl
theorem sv_runN {N : Nat} {B : Sm} (h : B (ds.map Sl.sh ++ List.replicate (N - ds.length) .no) = some (.nx Γ)) : runB N B ds = some .non := by unfold runB; rw [h]; rfl
theorem sv_nx (h : F Γ = some (.nx Γ1)) (k : F' Γ1 = r) : sSeq F F' Γ = r := by unfold sSeq; rw [h]; exact k
theorem sv_rt (h : F Γ = some (.rt d)) : sSeq F F' Γ = some (.rt d) := by unfold sSeq; rw [h]; rfl
theorem sv_bk (h : F Γ = some (.bk Γ1)) : sSeq F F' Γ = some (.bk Γ1) := by unfold sSeq; rw [h]; rfl
theorem sv_ct (h : F Γ = some (.ct Γ1)) : sSeq F F' Γ = some (.ct Γ1) := by unfold sSeq; rw [h]; rfl
theorem sv_set (h : f Γ = some d) : sSet i f Γ = some (.nx (Γ.set i (.sh d))) := by unfold sSet; rw [h]; rfl
theorem sv_setO (h : fs Γ = some ds) : sSetO i fs Γ = some (.nx (Γ.set i (.ow ds))) := by unfold sSetO; rw [h]; rfl
theorem sv_exp (h : f Γ = some d) : sExp f Γ = some (.nx Γ) := by unfold sExp; rw [h]; rfl
theorem sv_ret (h : f Γ = some d) : sRet f Γ = some (.rt d) := by unfold sRet; rw [h]; rfl
theorem sv_unp {gs : Gs} (h : f Γ = some d) (h2 : gs d Γ = some Γ1) : sUnp gs f Γ = some (.nx Γ1) := by unfold sUnp; rw [h]; show (gs d Γ).bind _ = _; rw [h2]; rfl
theorem sv_par {is : List Nat} (h : fs Γ = some ds) : sPar is fs Γ = some (.nx ((is.zip ds).foldl (fun Γ p => Γ.set p.1 (.sh p.2)) Γ)) := by unfold sPar; rw [h]; rfl
theorem sv_if (h : p Γ = some b) (h1 : b = true → F Γ = r) (h2 : b = false → F' Γ = r) : sIf p F F' Γ = r := by unfold sIf; rw [h]; cases b <;> first | exact h1 rfl | exact h2 rfl
theorem sv_ifT (h : p Γ = some true) (h1 : F Γ = r) : sIf p F F' Γ = r := sv_if h (fun _ => h1) (fun e => nomatch e)
theorem sv_ifF (h : p Γ = some false) (h1 : F' Γ = r) : sIf p F F' Γ = r := sv_if h (fun e => nomatch e) (fun _ => h1)
/-- an if in a row of statements: both ways go on by themselves -/
theorem sv_ifS (h : p Γ = some b) (h1 : b = true → sSeq F F'' Γ = r) (h2 : b = false → sSeq F' F'' Γ = r) : sSeq (sIf p F F') F'' Γ = r := by
  unfold sSeq sIf; rw [h]
  cases b
  · exact h2 rfl
  · exact h1 rfl
theorem sv_nil : sNil Γ = some (.nx Γ) := rfl
theorem sv_nilS : sSeq sNil F Γ = F Γ := rfl
theorem sv_seqA : sSeq (sSeq F F') F'' Γ = sSeq F (sSeq F' F'') Γ := by
  unfold sSeq
  cases F Γ with
  | none => rfl
  | some r => cases r <;> rfl
theorem sv_app {xs : List D} (h : f Γ = some d) (h1 : Γ[i]? = some (.ow xs)) (h2 : xs.length < 1000000) : sApp i f Γ = some (.nx (Γ.set i (.ow (xs ++ [d])))) := by
  unfold sApp; rw [h]; show (match Γ[i]? with | some (.ow xs) => if xs.length < 1000000 then some (Res.nx (Γ.set i (.ow (xs ++ [d])))) else none | _ => none) = _
  rw [h1]; show (if xs.length < 1000000 then some (Res.nx (Γ.set i (.ow (xs ++ [d])))) else none) = _
  rw [if_pos h2]
theorem sv_aug (h1 : Γ[i]? = some (.sh x)) (h2 : f Γ = some y) (h3 : o x y = some d) : sAug o i f Γ = some (.nx (Γ.set i (.sh d))) := by
  unfold sAug; rw [ev_V h1]; show (f Γ).bind _ = _; rw [h2]; show (o x y).bind _ = _; rw [h3]; rfl
theorem sv_frz (h : F (frzE i Γ) = r) : sFrz i F Γ = r := h
theorem sv_for {it : Ag} {gs : Gs} (h : it Γ = some ds) (h2 : forL gs F ds Γ = r) : sFor it gs F Γ = r := by unfold sFor; rw [h]; exact h2
/-! .. in a row -/
theorem sq_set (h : f Γ = some d) (k : F' (Γ.set i (.sh d)) = r) : sSeq (sSet i f) F' Γ = r := sv_nx (sv_set h) k
theorem sq_setO (h : fs Γ = some ds) (k : F' (Γ.set i (.ow ds)) = r) : sSeq (sSetO i fs) F' Γ = r := sv_nx (sv_setO h) k
theorem sq_exp (h : f Γ = some d) (k : F' Γ = r) : sSeq (sExp f) F' Γ = r := sv_nx (sv_exp h) k
theorem sq_unp {gs : Gs} (h : f Γ = some d) (h2 : gs d Γ = some Γ1) (k : F' Γ1 = r) : sSeq (sUnp gs f) F' Γ = r := sv_nx (sv_unp h h2) k
theorem sq_par {is : List Nat} (h : fs Γ = some ds) (k : F' ((is.zip ds).foldl (fun Γ p => Γ.set p.1 (.sh p.2)) Γ) = r) : sSeq (sPar is fs) F' Γ = r := sv_nx (sv_par h) k
theorem sq_app {xs : List D} (h : f Γ = some d) (h1 : Γ[i]? = some (.ow xs)) (h2 : xs.length < 1000000) (k : F' (Γ.set i (.ow (xs ++ [d]))) = r) : sSeq (sApp i f) F' Γ = r := sv_nx (sv_app h h1 h2) k
theorem sq_aug (h1 : Γ[i]? = some (.sh x)) (h2 : f Γ = some y) (h3 : o x y = some d) (k : F' (Γ.set i (.sh d)) = r) : sSeq (sAug o i f) F' Γ = r := sv_nx (sv_aug h1 h2 h3) k
theorem sq_frz (h : sSeq F F' (frzE i Γ) = r) : sSeq (sFrz i F) F' Γ = r := h
theorem sq_nil (h : F Γ = r) : sSeq sNil F Γ = r := h
theorem sq_ret (h : f Γ = some d) : sSeq (sRet f) F Γ = some (.rt d) := sv_rt (sv_ret h)
/-- an if that sets one name on each way -/
theorem sq_ifV {P : D → Prop} (h : p Γ = some b) (h1 : b = true → ∃ d, P d ∧ F Γ = some (.nx (Γ.set i (.sh d)))) (h2 : b = false → ∃ d, P d ∧ F' Γ = some (.nx (Γ.set i (.sh d)))) (k : ∀ d, P d → F'' (Γ.set i (.sh d)) = r) : sSeq (sIf p F F') F'' Γ = r := by
  cases b with
  | true => obtain ⟨d, hd, e⟩ := h1 rfl; exact sv_nx (sv_ifT h e) (k d hd)
  | false => obtain ⟨d, hd, e⟩ := h2 rfl; exact sv_nx (sv_ifF h e) (k d hd)
theorem sq_ifX {Q : DEnv → Prop} (h : p Γ = some b) (h1 : b = true → ∃ Γ', Q Γ' ∧ F Γ = some (.nx Γ')) (h2 : b = false → ∃ Γ', Q Γ' ∧ F' Γ = some (.nx Γ')) (k : ∀ Γ', Q Γ' → F'' Γ' = r) : sSeq (sIf p F F') F'' Γ = r := by
  cases b with
  | true => obtain ⟨d, hd, e⟩ := h1 rfl; exact sv_nx (sv_ifT h e) (k d hd)
  | false => obtain ⟨d, hd, e⟩ := h2 rfl; exact sv_nx (sv_ifF h e) (k d hd)
/-- a test that is false, nothing is done -/
theorem sq_ifN (h : p Γ = some b) (hb : b = false) (k : F'' Γ = r) : sSeq (sIf p F sNil) F'' Γ = r := sv_nx (sv_ifF (by rw [h, hb]) rfl) k
theorem sv_ifN (h : p Γ = some b) (hb : b = false) : sIf p F sNil Γ = some (.nx Γ) := sv_ifF (by rw [h, hb]) rfl
/-! loops -/
theorem forL_nil {gs : Gs} : forL gs F [] Γ = some (.nx Γ) := rfl
theorem forL_nx {gs : Gs} (h : gs d Γ = some Γ1) (h2 : F Γ1 = some (.nx Γ2)) (k : forL gs F ds Γ2 = r) : forL gs F (d :: ds) Γ = r := by
  show (gs d Γ).bind _ = _; rw [h]; show (F Γ1).bind _ = _; rw [h2]; exact k
theorem forL_ct {gs : Gs} (h : gs d Γ = some Γ1) (h2 : F Γ1 = some (.ct Γ2)) (k : forL gs F ds Γ2 = r) : forL gs F (d :: ds) Γ = r := by
  show (gs d Γ).bind _ = _; rw [h]; show (F Γ1).bind _ = _; rw [h2]; exact k
theorem forL_rt {gs : Gs} (h : gs d Γ = some Γ1) (h2 : F Γ1 = some (.rt x)) : forL gs F (d :: ds) Γ = some (.rt x) := by
  show (gs d Γ).bind _ = _; rw [h]; show (F Γ1).bind _ = _; rw [h2]; rfl
theorem forL_bk {gs : Gs} (h : gs d Γ = some Γ1) (h2 : F Γ1 = some (.bk Γ2)) : forL gs F (d :: ds) Γ = some (.nx Γ2) := by
  show (gs d Γ).bind _ = _; rw [h]; show (F Γ1).bind _ = _; rw [h2]; rfl
/-- a loop that is not left, by its invariant -/
theorem forL_inv {gs : Gs} (Iv : List D → DEnv → Prop) (hs : ∀ d ds Γ, Iv (d :: ds) Γ → ∃ Γ1 Γ2, gs d Γ = some Γ1 ∧ (F Γ1 = some (.nx Γ2) ∨ F Γ1 = some (.ct Γ2)) ∧ Iv ds Γ2) : ∀ (ds : List D) (Γ : DEnv), Iv ds Γ → ∃ Γ', forL gs F ds Γ = some (.nx Γ') ∧ Iv [] Γ'
  | [], Γ, h => ⟨Γ, rfl, h⟩
  | d :: ds, Γ, h => by
    obtain ⟨Γ1, Γ2, h1, h2, h3⟩ := hs d ds Γ h
    obtain ⟨Γ', h4, h5⟩ := forL_inv Iv hs ds Γ2 h3
    rcases h2 with h2 | h2
    · exact ⟨Γ', forL_nx h1 h2 h4, h5⟩
    · exact ⟨Γ', forL_ct h1 h2 h4, h5⟩
theorem compL_nil {gs : Gs} : compL gs p f [] Γ = some [] := rfl
/-- a comprehension without a test: each item by itself -/
theorem compL_map {gs : Gs} {α : Type} (xs : List α) (u v : α → D) (h : ∀ a ∈ xs, ∃ Γ1, gs (u a) Γ = some Γ1 ∧ f Γ1 = some (v a)) : compL gs gYes f (xs.map u) Γ = some (xs.map v) := by
  induction xs with
  | nil => rfl
  | cons a xs ih =>
    obtain ⟨Γ1, h1, h2⟩ := h a List.mem_cons_self
    rw [List.map_cons, List.map_cons]
    show (gs (u a) Γ).bind _ = _
    rw [h1]
    show (f Γ1).bind _ = _
    rw [h2]
    show (compL gs gYes f (xs.map u) Γ).bind _ = _
    rw [ih fun b hb => h b (List.mem_cons_of_mem _ hb)]
    rfl
/-- .. with a test -/
theorem compL_filter {gs : Gs} {α : Type} (xs : List α) (u v : α → D) (t : α → Bool) (h : ∀ a ∈ xs, ∃ Γ1, gs (u a) Γ = some Γ1 ∧ p Γ1 = some (t a) ∧ (t a = true → f Γ1 = some (v a))) : compL gs p f (xs.map u) Γ = some ((xs.filter t).map v) := by
  induction xs with
  | nil => rfl
  | cons a xs ih =>
    obtain ⟨Γ1, h1, h2, h3⟩ := h a List.mem_cons_self
    have ih := ih fun b hb => h b (List.mem_cons_of_mem _ hb)
    rw [List.map_cons]
    show (gs (u a) Γ).bind _ = _
    rw [h1]
    show (p Γ1).bind _ = _
    rw [h2]
    cases e : t a with
    | true =>
      show (f Γ1).bind _ = _
      rw [h3 e]
      show (compL gs p f (xs.map u) Γ).bind _ = _
      rw [ih, List.filter_cons_of_pos e]
      rfl
    | false =>
      show compL gs p f (xs.map u) Γ = _
      rw [ih, List.filter_cons_of_neg (by rw [e]; simp)]
theorem ev_lc {own : List Nat} {it : Ag} {gs : Gs} {ds' : List D} (h : it Γ = some ds) (hl : ds.length < 1000000) (h2 : compL gs p f ds (wipeE Γ own) = some ds') : gLc own it gs p f Γ = some ds' := by
  unfold gLc; rw [h]; show (if ds.length < 1000000 then compL gs p f ds (wipeE Γ own) else none) = _
  rw [if_pos hl]; exact h2
theorem ev_it (h : f Γ = some (.lst ds)) : gIt f Γ = some ds := by unfold gIt; rw [h]; rfl
theorem ev_itT (h : f Γ = some (.tup ds)) : gIt f Γ = some ds := by unfold gIt; rw [h]; rfl
theorem ev_itS {ns : List Int} (h : f Γ = some (.scr ns)) : gIt f Γ = some (ns.map D.int) := by unfold gIt; rw [h]; rfl
theorem ev_rng1 (h : fs Γ = some [.int m]) (h1 : -(2 ^ 62) ≤ m) (h2 : m < 2 ^ 62) : gRng fs Γ = some (rngD 0 m.toNat) := by
  unfold gRng; rw [h]; show (if -(2 ^ 62) ≤ m ∧ m < 2 ^ 62 then some (rngD 0 m.toNat) else none) = _; rw [if_pos ⟨h1, h2⟩]
theorem ev_rng2 (h : fs Γ = some [.int m, .int j]) (h1 : -(2 ^ 62) ≤ m) (h2 : m < 2 ^ 62) (h3 : -(2 ^ 62) ≤ j) (h4 : j < 2 ^ 62) : gRng fs Γ = some (rngD m (j - m).toNat) := by
  unfold gRng; rw [h]; show (if -(2 ^ 62) ≤ m ∧ m < 2 ^ 62 ∧ -(2 ^ 62) ≤ j ∧ j < 2 ^ 62 then some (rngD m (j - m).toNat) else none) = _; rw [if_pos ⟨h1, h2, h3, h4⟩]
theorem d_all {bs : List Bool} : dAll (.lst (bs.map D.bl)) = some (.bl (bs.all id)) := by show (bls? (bs.map D.bl)).bind _ = _; rw [bls?_map]; rfl
theorem d_any {bs : List Bool} : dAny (.lst (bs.map D.bl)) = some (.bl (bs.any id)) := by show (bls? (bs.map D.bl)).bind _ = _; rw [bls?_map]; rfl
theorem d_sum {ns : List Int} : dSum (.lst (ns.map D.int)) = some (.int ns.sum) := by show (ints? (ns.map D.int)).bind _ = _; rw [ints?_map]; rfl
theorem d_max {ns : List Int} (h : ns ≠ []) : dMax (.lst (ns.map D.int)) = some (.int (maxI ns)) := by show (ints? (ns.map D.int)).bind _ = _; rw [ints?_map]; cases ns with | nil => exact absurd rfl h | cons => rfl
theorem d_min {ns : List Int} (h : ns ≠ []) : dMin (.lst (ns.map D.int)) = some (.int (minI ns)) := by show (ints? (ns.map D.int)).bind _ = _; rw [ints?_map]; cases ns with | nil => exact absurd rfl h | cons => rfl
theorem d_sorted {ns : List Int} : dSorted (.lst (ns.map D.int)) = some ((srt ns).map D.int) := by show (ints? (ns.map D.int)).bind _ = _; rw [ints?_map]; rfl
/-! data -/
theorem d_add : dAdd (.int m) (.int j) = some (.int (m + j)) := rfl
theorem d_sub : dSub (.int m) (.int j) = some (.int (m - j)) := rfl
theorem mulOk_l (h1 : -(2 ^ 64) < m) (h2 : m < 2 ^ 64) : mulOk m j = true := by
  have h := intBits_le_64 h1 h2
  have h' : ¬ (Builtin.Int.intBits m > shortFactorBits) := Nat.not_lt.mpr h
  unfold mulOk
  rw [decide_eq_false h']
  rfl
theorem mulOk_r (h1 : -(2 ^ 64) < j) (h2 : j < 2 ^ 64) : mulOk m j = true := by
  have h := intBits_le_64 h1 h2
  have h' : ¬ (Builtin.Int.intBits j > shortFactorBits) := Nat.not_lt.mpr h
  unfold mulOk
  rw [decide_eq_false h', Bool.and_false]
  rfl
theorem d_mul (h : mulOk m j = true) : dMul (.int m) (.int j) = some (.int (m * j)) := by show (if mulOk m j = true then some (D.int (m * j)) else none) = _; rw [if_pos h]
theorem d_div (h : 0 < j) (h2 : j.natAbs.log2 < 9000) : dDiv (.int m) (.int j) = some (.int (m / j)) := by show (if 0 < j ∧ j.natAbs.log2 < 9000 then some (D.int (m / j)) else none) = _; rw [if_pos ⟨h, h2⟩]
theorem log_of {k : Nat} (h : j.natAbs < 2 ^ k) (hk : 0 < k) (h9 : k ≤ 9000) : j.natAbs.log2 < 9000 := Nat.lt_of_lt_of_le (PySem.Flt.log2_lt_of hk h) h9
theorem d_mod (h : 0 < j) : dMod (.int m) (.int j) = some (.int (m % j)) := by show (if 0 < j then some (D.int (m % j)) else none) = _; rw [if_pos h]
theorem d_pow (h : 0 ≤ j ∧ j ≤ 1000000 ∧ m.natAbs < 2 ^ 64) : dPow (.int m) (.int j) = some (.int (m ^ j.toNat)) := by show (if 0 ≤ j ∧ j ≤ 1000000 ∧ m.natAbs < 2 ^ 64 then some (D.int (m ^ j.toNat)) else none) = _; rw [if_pos h]
theorem d_eq {bb : Bool} (h1 : eqOk x = true) (h2 : eqOk y = true) (h : eqd x y = bb) : dEq x y = some (.bl bb) := by unfold dEq; rw [h1, h2]; show some (D.bl (eqd x y)) = _; rw [h]
theorem d_ne {bb : Bool} (h1 : eqOk x = true) (h2 : eqOk y = true) (h : eqd x y = bb) : dNe x y = some (.bl (!bb)) := by unfold dNe; rw [h1, h2]; show some (D.bl (!eqd x y)) = _; rw [h]
theorem eqd_int : eqd (.int m) (.int j) = (m == j) := by unfold eqd toPy; rfl
theorem eqd_bl {a b : Bool} : eqd (.bl a) (.bl b) = (a == b) := by unfold eqd toPy; rfl
theorem eqOk_int : eqOk (.int m) = true := by unfold eqOk pyOk toPy; rfl
theorem eqOk_bl : eqOk (.bl b) = true := by unfold eqOk pyOk toPy; rfl
theorem eqOk_non : eqOk .non = true := by unfold eqOk pyOk toPy; rfl
theorem d_lenL {xs : List D} : dLen (.lst xs) = some (.int xs.length) := rfl
theorem d_lenS {ns : List Int} : dLen (.scr ns) = some (.int ns.length) := rfl
theorem d_ixL {xs : List D} {k : Nat} (h : xs[k]? = some d) : dIx (.lst xs) (.int (k : Nat)) = some d := atI_nat h
end
end DL

namespace K01
open PySem L2 DL
def topS (i : Nat) : Stmt := PySem.Challenge.pw_fewestlines_k01_lines.main.body.getD i (.Pass ⟨0, 0, 0, 0⟩)
section
variable {P : Program} {w : World} {K : PySem.W.Frag} {mg : Str → Option Value} {base : Heap}
/-! reduced -/
abbrev s_reduced : Stmt := topS 2
abbrev N_reduced : List Str := ["line", "p", "q", "d", "divisor"]
theorem sc_reduced : FnScope N_reduced ["line"] (defScope s_reduced) := ⟨rfl, rfl, rfl, by decide +kernel, rfl, by decide +kernel, by decide +kernel⟩
noncomputable def B_reduced : Sm :=
  (sSeq (sUnp (gTg 3 (gTo (gN 1) (gTo (gN 2) (gTo (gN 3) gEnd)))) (gV 0))
  (sSeq (sSet 4 (gA dGcd (aC (gA dGcd (aC (gV 1) (aC (gV 2) aN))) (aC (gV 3) aN))))
  (sRet (gTu 3 (aC (gOp dDiv (gV 1) (gV 4)) (aC (gOp dDiv (gV 2) (gV 4)) (aC (gOp dDiv (gV 3) (gV 4)) aN)))))))
noncomputable def S_reduced : List D → Option D := runB 5 B_reduced
theorem ok_reduced {f : Addr} {fd : FuncData} (F : Fun K "reduced" "reduced" s_reduced f fd) (m_gcd : mg "gcd" = some (.builtin "math.gcd")) : FnOk P w K mg base CX0 1 f fd ["line"] (spD K mg 1 S_reduced) :=
  def_ok F sc_reduced fun cdv A outer s H E hr =>
  (ss_cons (s_unp (e_var 0) (g_tup rfl (gl_cons (g_name 1 sc_reduced.nd) (gl_cons (g_name 2 sc_reduced.nd) (gl_cons (g_name 3 sc_reduced.nd) gl_nil)))))
  (ss_cons (s_set 4 sc_reduced.nd (e_cbf cb_gcd (by rfl) m_gcd (n_cons (e_cbf cb_gcd (by rfl) m_gcd (n_cons (e_var 1) (n_cons (e_var 2) n_nil)).a) (n_cons (e_var 3) n_nil)).a))
  (ss_one (s_ret (e_tup (n_cons (e_op od_div (e_var 1) (e_var 4)) (n_cons (e_op od_div (e_var 2) (e_var 4)) (n_cons (e_op od_div (e_var 3) (e_var 4)) n_nil))))))))
/-! floor_at -/
abbrev s_floor_at : Stmt := topS 3
abbrev N_floor_at : List Str := ["line", "place", "p", "q", "d"]
theorem sc_floor_at : FnScope N_floor_at ["line", "place"] (defScope s_floor_at) := ⟨rfl, rfl, rfl, by decide +kernel, rfl, by decide +kernel, by decide +kernel⟩
noncomputable def B_floor_at : Sm :=
  (sSeq (sUnp (gTg 3 (gTo (gN 2) (gTo (gN 3) (gTo (gN 4) gEnd)))) (gV 0))
  (sRet (gOp dDiv (gOp dAdd (gOp dMul (gV 2) (gV 1)) (gV 3)) (gV 4))))
noncomputable def S_floor_at : List D → Option D := runB 5 B_floor_at
theorem ok_floor_at {f : Addr} {fd : FuncData} (F : Fun K "floor_at" "floor_at" s_floor_at f fd) : FnOk P w K mg base CX0 1 f fd ["line", "place"] (spD K mg 2 S_floor_at) :=
  def_ok F sc_floor_at fun cdv A outer s H E hr =>
  (ss_cons (s_unp (e_var 0) (g_tup rfl (gl_cons (g_name 2 sc_floor_at.nd) (gl_cons (g_name 3 sc_floor_at.nd) (gl_cons (g_name 4 sc_floor_at.nd) gl_nil)))))
  (ss_one (s_ret (e_op od_div (e_op od_add (e_op od_mul (e_var 2) (e_var 1)) (e_var 3)) (e_var 4)))))
/-! ceiling_at -/
abbrev s_ceiling_at : Stmt := topS 4
abbrev N_ceiling_at : List Str := ["line", "place", "p", "q", "d"]
theorem sc_ceiling_at : FnScope N_ceiling_at ["line", "place"] (defScope s_ceiling_at) := ⟨rfl, rfl, rfl, by decide +kernel, rfl, by decide +kernel, by decide +kernel⟩
noncomputable def B_ceiling_at : Sm :=
  (sSeq (sUnp (gTg 3 (gTo (gN 2) (gTo (gN 3) (gTo (gN 4) gEnd)))) (gV 0))
  (sRet (gU dNeg (gOp dDiv (gOp dSub (gOp dMul (gU dNeg (gV 2)) (gV 1)) (gV 3)) (gV 4)))))
noncomputable def S_ceiling_at : List D → Option D := runB 5 B_ceiling_at
theorem ok_ceiling_at {f : Addr} {fd : FuncData} (F : Fun K "ceiling_at" "ceiling_at" s_ceiling_at f fd) : FnOk P w K mg base CX0 1 f fd ["line", "place"] (spD K mg 2 S_ceiling_at) :=
  def_ok F sc_ceiling_at fun cdv A outer s H E hr =>
  (ss_cons (s_unp (e_var 0) (g_tup rfl (gl_cons (g_name 2 sc_ceiling_at.nd) (gl_cons (g_name 3 sc_ceiling_at.nd) (gl_cons (g_name 4 sc_ceiling_at.nd) gl_nil)))))
  (ss_one (s_ret (e_neg (e_op od_div (e_op od_sub (e_op od_mul (e_neg (e_var 2)) (e_var 1)) (e_var 3)) (e_var 4))))))
/-! is_near -/
abbrev s_is_near : Stmt := topS 5
abbrev N_is_near : List Str := ["line", "point", "error", "p", "q", "d", "place", "height"]
theorem sc_is_near : FnScope N_is_near ["line", "point", "error"] (defScope s_is_near) := ⟨rfl, rfl, rfl, by decide +kernel, rfl, by decide +kernel, by decide +kernel⟩
noncomputable def B_is_near : Sm :=
  (sSeq (sUnp (gTg 3 (gTo (gN 3) (gTo (gN 4) (gTo (gN 5) gEnd)))) (gV 0))
  (sSeq (sUnp (gTg 2 (gTo (gN 6) (gTo (gN 7) gEnd))) (gV 1))
  (sRet (gOp dLe (gU dAbs (gOp dSub (gOp dAdd (gOp dMul (gV 3) (gV 6)) (gV 4)) (gOp dMul (gV 7) (gV 5)))) (gOp dMul (gV 2) (gV 5))))))
noncomputable def S_is_near : List D → Option D := runB 8 B_is_near
theorem ok_is_near {f : Addr} {fd : FuncData} (F : Fun K "is_near" "is_near" s_is_near f fd) (m_abs : mg "abs" = none) : FnOk P w K mg base CX0 1 f fd ["line", "point", "error"] (spD K mg 3 S_is_near) :=
  def_ok F sc_is_near fun cdv A outer s H E hr =>
  (ss_cons (s_unp (e_var 0) (g_tup rfl (gl_cons (g_name 3 sc_is_near.nd) (gl_cons (g_name 4 sc_is_near.nd) (gl_cons (g_name 5 sc_is_near.nd) gl_nil)))))
  (ss_cons (s_unp (e_var 1) (g_tup rfl (gl_cons (g_name 6 sc_is_near.nd) (gl_cons (g_name 7 sc_is_near.nd) gl_nil))))
  (ss_one (s_ret (e_cmp od_le (e_cb cb_abs (by rfl) m_abs boot_abs' (e_op od_sub (e_op od_add (e_op od_mul (e_var 3) (e_var 6)) (e_var 4)) (e_op od_mul (e_var 7) (e_var 5))).bo) (e_op od_mul (e_var 2) (e_var 5)))))))
/-! line_fits -/
abbrev s_line_fits : Stmt := topS 6
abbrev N_line_fits : List Str := ["line", "points", "error", "point"]
theorem sc_line_fits : FnScope N_line_fits ["line", "points", "error"] (defScope s_line_fits) := ⟨rfl, rfl, rfl, by decide +kernel, rfl, by decide +kernel, by decide +kernel⟩
noncomputable def B_line_fits : Sm :=
  (sRet (gU dAll (gL (gLc [3] (gIt (gV 1)) (gN 3) gYes (gCall S_is_near (aC (gV 0) (aC (gV 3) (aC (gV 2) aN))))))))
noncomputable def S_line_fits : List D → Option D := runB 4 B_line_fits
theorem ok_line_fits {f : Addr} {fd : FuncData} (F : Fun K "line_fits" "line_fits" s_line_fits f fd) (c_is_near : Cal P w K mg base "is_near" 1 ["line", "point", "error"] S_is_near) (m_all : mg "all" = none) : FnOk P w K mg base CX0 2 f fd ["line", "points", "error"] (spD K mg 3 S_line_fits) :=
  def_ok F sc_line_fits fun cdv A outer s H E hr =>
  (ss_one (s_ret (e_cb (cb_all rfl) (by rfl) m_all boot_all' (el_lc (own := [("point", 3)]) rfl sc_line_fits.nd (i_list (e_var 1)) (blkOk_by (own := [("point", 3)]) (N := N_line_fits) (sc := defScope s_line_fits) (by decide +kernel)) (by decide) (fun _ _ _ _ _ => (g_name 3 sc_line_fits.nd)) (fun _ _ _ _ _ => ts_nil) (fun _ _ _ _ _ => (e_callC c_is_near hr (by decide) (n_cons (e_var 0) (n_cons (e_var 3) (n_cons (e_var 2) n_nil)))))).fz.bo)))
/-! _law_cell -/
abbrev s__law_cell : Stmt := topS 8
abbrev N__law_cell : List Str := ["script", "k"]
theorem sc__law_cell : FnScope N__law_cell ["script", "k"] (defScope s__law_cell) := ⟨rfl, rfl, rfl, by decide +kernel, rfl, by decide +kernel, by decide +kernel⟩
noncomputable def B__law_cell : Sm :=
  (sSeq (sIf (gT (gOp dLt (gV 1) (gU dLen (gB 0))))
  (sRet (gIx (gB 0) (gV 1)))
  sNil)
  (sRet (gI 0)))
noncomputable def S__law_cell : List D → Option D := runB 2 B__law_cell
theorem ok__law_cell {f : Addr} {fd : FuncData} (F : Fun K "_law_cell" "_law_cell" s__law_cell f fd) (m_len : mg "len" = none) : FnOk P w K mg base CX0 1 f fd ["script", "k"] (spD K mg 2 S__law_cell) :=
  def_ok F sc__law_cell fun cdv A outer s H E hr =>
  (ss_cons (s_if (t_cmp od_lt (e_var 1) (e_cb cb_len (by rfl) m_len boot_len' (b_var 0)))
  (ss_one (s_ret (e_ix (b_var 0) (e_var 1))))
  ss_nil)
  (ss_one (s_ret e_int)))
/-! _law_number -/
abbrev s__law_number : Stmt := topS 9
abbrev N__law_number : List Str := ["cell"]
theorem sc__law_number : FnScope N__law_number ["cell"] (defScope s__law_number) := ⟨rfl, rfl, rfl, by decide +kernel, rfl, by decide +kernel, by decide +kernel⟩
noncomputable def B__law_number : Sm :=
  (sSeq (sIf (gT (gOp dEq (gOp dMod (gU dInt (gB 0)) (gI 3)) (gI 0)))
  (sRet (gOp dSub (gOp dMod (gU dInt (gOp dDiv (gV 0) (gI 3))) (gI 41)) (gI 20)))
  sNil)
  (sRet (gOp dAdd (gOp dSub (gOp dMod (gU dInt (gOp dDiv (gV 0) (gI 3))) (gOp dSub (gOp dMul (gI 2) (gOp dPow (gI 10) (gI 18))) (gI 1))) (gOp dPow (gI 10) (gI 18))) (gI 1))))
noncomputable def S__law_number : List D → Option D := runB 1 B__law_number
theorem ok__law_number {f : Addr} {fd : FuncData} (F : Fun K "_law_number" "_law_number" s__law_number f fd) (m_int : mg "int" = none) : FnOk P w K mg base CX0 1 f fd ["cell"] (spD K mg 1 S__law_number) :=
  def_ok F sc__law_number fun cdv A outer s H E hr =>
  (ss_cons (s_if (t_cmpB (ob_eq hr.units) (e_op od_mod (e_cty cb_int (by rfl) m_int boot_int' (b_var 0)) e_int).bo e_int.bo)
  (ss_one (s_ret (e_op od_sub (e_op od_mod (e_cty cb_int (by rfl) m_int boot_int' (e_op od_div (e_var 0) e_int).bo) e_int) e_int)))
  ss_nil)
  (ss_one (s_ret (e_op od_add (e_op od_sub (e_op od_mod (e_cty cb_int (by rfl) m_int boot_int' (e_op od_div (e_var 0) e_int).bo) (e_op od_sub (e_op od_mul e_int (e_op od_pow e_int e_int)) e_int)) (e_op od_pow e_int e_int)) e_int))))
/-! _law_is_common -/
abbrev s__law_is_common : Stmt := topS 10
abbrev N__law_is_common : List Str := ["line", "divisor", "number"]
theorem sc__law_is_common : FnScope N__law_is_common ["line", "divisor"] (defScope s__law_is_common) := ⟨rfl, rfl, rfl, by decide +kernel, rfl, by decide +kernel, by decide +kernel⟩
noncomputable def B__law_is_common : Sm :=
  (sRet (gU dAll (gL (gLc [2] (gIt (gV 0)) (gN 2) gYes (gOp dEq (gOp dMod (gU dInt (gB 2)) (gV 1)) (gI 0))))))
noncomputable def S__law_is_common : List D → Option D := runB 3 B__law_is_common
theorem ok__law_is_common {f : Addr} {fd : FuncData} (F : Fun K "_law_is_common" "_law_is_common" s__law_is_common f fd) (m_int : mg "int" = none) (m_all : mg "all" = none) : FnOk P w K mg base CX0 1 f fd ["line", "divisor"] (spD K mg 2 S__law_is_common) :=
  def_ok F sc__law_is_common fun cdv A outer s H E hr =>
  (ss_one (s_ret (e_cb (cb_all rfl) (by rfl) m_all boot_all' (el_lc (own := [("number", 2)]) rfl sc__law_is_common.nd (i_list (e_var 0)) (blkOk_by (own := [("number", 2)]) (N := N__law_is_common) (sc := defScope s__law_is_common) (by decide +kernel)) (by decide) (fun _ _ _ _ _ => (g_name 2 sc__law_is_common.nd)) (fun _ _ _ _ _ => ts_nil) (fun _ _ _ _ _ => (e_cmpB (ob_eq hr.units) (e_op od_mod (e_cty cb_int (by rfl) m_int boot_int' (b_var 2)) (e_var 1)).bo e_int.bo))).fz.bo)))
/-! law -/
abbrev s_law : Stmt := topS 11
abbrev N_law : List Str := ["script", "p", "q", "d", "x", "times", "small", "divisor", "low", "high", "error", "points", "k", "point", "due"]
theorem sc_law : FnScope N_law ["script"] (defScope s_law) := ⟨rfl, rfl, rfl, by decide +kernel, rfl, by decide +kernel, by decide +kernel⟩
noncomputable def B_law : Sm :=
  (sSeq (sSet 1 (gCall S__law_number (aC (gCall S__law_cell (aC (gV 0) (aC (gI 0) aN))) aN)))
  (sSeq (sSet 2 (gCall S__law_number (aC (gCall S__law_cell (aC (gV 0) (aC (gI 1) aN))) aN)))
  (sSeq (sSet 3 (gOp dAdd (gI 1) (gU dAbs (gCall S__law_number (aC (gCall S__law_cell (aC (gV 0) (aC (gI 2) aN))) aN)))))
  (sSeq (sSet 4 (gCall S__law_number (aC (gCall S__law_cell (aC (gV 0) (aC (gI 3) aN))) aN)))
  (sSeq (sSet 5 (gOp dAdd (gI 1) (gOp dMod (gU dInt (gCall S__law_cell (aC (gV 0) (aC (gI 4) aN)))) (gI 30))))
  (sSeq (sIf (gAnd (gT (gOp dGt (gV 5) (gI 1))) (gAnd (gT (gOp dLt (gU dAbs (gB 1)) (gOp dPow (gI 10) (gI 15)))) (gAnd (gT (gOp dLt (gU dAbs (gB 2)) (gOp dPow (gI 10) (gI 15)))) (gT (gOp dLt (gV 3) (gOp dPow (gI 10) (gI 15)))))))
  (sUnp (gTg 3 (gTo (gN 1) (gTo (gN 2) (gTo (gN 3) gEnd)))) (gTu 3 (aC (gOp dMul (gV 1) (gV 5)) (aC (gOp dMul (gV 2) (gV 5)) (aC (gOp dMul (gV 3) (gV 5)) aN)))))
  sNil)
  (sSeq (sSet 6 (gCall S_reduced (aC (gTu 3 (aC (gV 1) (aC (gV 2) (aC (gV 3) aN)))) aN)))
  (sSeq (sIf (gOr (gNot (gTru (gU (dIsi "tuple") (gB 6)))) (gOr (gT (gOp dNe (gU dLen (gB 6)) (gI 3))) (gT (gOp dLt (gIx (gB 6) (gI 2)) (gI 1)))))
  (sRet (gC (.bl false)))
  sNil)
  (sSeq (sIf (gOr (gT (gOp dNe (gOp dMul (gIx (gB 6) (gI 0)) (gV 3)) (gOp dMul (gV 1) (gIx (gB 6) (gI 2))))) (gT (gOp dNe (gOp dMul (gIx (gB 6) (gI 1)) (gV 3)) (gOp dMul (gV 2) (gIx (gB 6) (gI 2))))))
  (sRet (gC (.bl false)))
  sNil)
  (sSeq (sFor (gIt (gL (aC (gI 2) (aC (gI 3) (aC (gI 5) (aC (gI 7) (aC (gI 11) (aC (gI 13) (aC (gI 17) (aC (gI 19) (aC (gI 23) (aC (gI 29) aN)))))))))))) (gN 7)
  (sIf (gTru (gCall S__law_is_common (aC (gV 6) (aC (gV 7) aN))))
  (sRet (gC (.bl false)))
  sNil))
  (sSeq (sSet 8 (gCall S_floor_at (aC (gTu 3 (aC (gV 1) (aC (gV 2) (aC (gV 3) aN)))) (aC (gV 4) aN))))
  (sSeq (sSet 9 (gCall S_ceiling_at (aC (gTu 3 (aC (gV 1) (aC (gV 2) (aC (gV 3) aN)))) (aC (gV 4) aN))))
  (sSeq (sIf (gOr (gNot (gCh (gOp dMul (gV 8) (gV 3)) (gChn dLe (gOp dAdd (gOp dMul (gV 1) (gV 4)) (gV 2)) (gCh1 dLt (gOp dMul (gOp dAdd (gV 8) (gI 1)) (gV 3)))))) (gNot (gCh (gOp dMul (gOp dSub (gV 9) (gI 1)) (gV 3)) (gChn dLt (gOp dAdd (gOp dMul (gV 1) (gV 4)) (gV 2)) (gCh1 dLe (gOp dMul (gV 9) (gV 3)))))))
  (sRet (gC (.bl false)))
  sNil)
  (sSeq (sSet 10 (gOp dMod (gU dInt (gCall S__law_cell (aC (gV 0) (aC (gI 5) aN)))) (gI 4)))
  (sSeq (sSetO 11 aN)
  (sSeq (sIf (gT (gOp dGt (gU dAbs (gB 8)) (gOp dSub (gOp dPow (gI 10) (gI 18)) (gI 9))))
  (sRet (gC (.bl true)))
  sNil)
  (sSeq (sFor (gRng (aC (gOp dSub (gI 0) (gI 5)) (aC (gI 6) aN))) (gN 12)
  (sSeq (sSet 13 (gTu 2 (aC (gV 4) (aC (gOp dAdd (gV 8) (gV 12)) aN))))
  (sSeq (sSet 14 (gOp dLe (gU dAbs (gOp dSub (gOp dAdd (gOp dMul (gV 1) (gV 4)) (gV 2)) (gOp dMul (gIx (gB 13) (gI 1)) (gV 3)))) (gOp dMul (gV 10) (gV 3))))
  (sSeq (sIf (gT (gOp dNe (gCall S_is_near (aC (gTu 3 (aC (gV 1) (aC (gV 2) (aC (gV 3) aN)))) (aC (gV 13) (aC (gV 10) aN)))) (gB 14)))
  (sRet (gC (.bl false)))
  sNil)
  (sApp 11 (gV 13))))))
  (sSeq (sIf (gT (gOp dNe (gCall S_line_fits (aC (gTu 3 (aC (gV 1) (aC (gV 2) (aC (gV 3) aN)))) (aC (gL (gSl (gB 11) (gSo (gI 3)) (gSo (gI 8)))) (aC (gV 10) aN)))) (gU dAll (gL (gLc [13] (gIt (gL (gSl (gB 11) (gSo (gI 3)) (gSo (gI 8))))) (gN 13) gYes (gCall S_is_near (aC (gTu 3 (aC (gV 1) (aC (gV 2) (aC (gV 3) aN)))) (aC (gV 13) (aC (gV 10) aN)))))))))
  (sRet (gC (.bl false)))
  sNil)
  (sRet (gOp dIsN (gCall S_line_fits (aC (gTu 3 (aC (gV 1) (aC (gV 2) (aC (gV 3) aN)))) (aC (gL aN) (aC (gV 10) aN)))) (gC (.bl true))))))))))))))))))))))
noncomputable def S_law : List D → Option D := runB 15 B_law
theorem ok_law {f : Addr} {fd : FuncData} (F : Fun K "law" "law" s_law f fd) (c__law_cell : Cal P w K mg base "_law_cell" 1 ["script", "k"] S__law_cell) (c__law_number : Cal P w K mg base "_law_number" 1 ["cell"] S__law_number) (m_abs : mg "abs" = none) (m_int : mg "int" = none) (c_reduced : Cal P w K mg base "reduced" 1 ["line"] S_reduced) (m_len : mg "len" = none) (m_isinstance : mg "isinstance" = none) (m_tuple : mg "tuple" = none) (c__law_is_common : Cal P w K mg base "_law_is_common" 1 ["line", "divisor"] S__law_is_common) (c_floor_at : Cal P w K mg base "floor_at" 1 ["line", "place"] S_floor_at) (c_ceiling_at : Cal P w K mg base "ceiling_at" 1 ["line", "place"] S_ceiling_at) (m_range : mg "range" = none) (c_is_near : Cal P w K mg base "is_near" 1 ["line", "point", "error"] S_is_near) (c_line_fits : Cal P w K mg base "line_fits" 2 ["line", "points", "error"] S_line_fits) (m_all : mg "all" = none) : FnOk P w K mg base CX0 3 f fd ["script"] (spD K mg 1 S_law) :=
  def_ok F sc_law fun cdv A outer s H E hr =>
  (ss_cons (s_set 1 sc_law.nd (e_callC c__law_number hr (by decide) (n_cons (e_callC c__law_cell hr (by decide) (n_cons (e_var 0) (n_cons e_int n_nil))) n_nil)))
  (ss_cons (s_set 2 sc_law.nd (e_callC c__law_number hr (by decide) (n_cons (e_callC c__law_cell hr (by decide) (n_cons (e_var 0) (n_cons e_int n_nil))) n_nil)))
  (ss_cons (s_set 3 sc_law.nd (e_op od_add e_int (e_cb cb_abs (by rfl) m_abs boot_abs' (e_callC c__law_number hr (by decide) (n_cons (e_callC c__law_cell hr (by decide) (n_cons (e_var 0) (n_cons e_int n_nil))) n_nil)).bo)))
  (ss_cons (s_set 4 sc_law.nd (e_callC c__law_number hr (by decide) (n_cons (e_callC c__law_cell hr (by decide) (n_cons (e_var 0) (n_cons e_int n_nil))) n_nil)))
  (ss_cons (s_set 5 sc_law.nd (e_op od_add e_int (e_op od_mod (e_cty cb_int (by rfl) m_int boot_int' (e_callC c__law_cell hr (by decide) (n_cons (e_var 0) (n_cons e_int n_nil))).bo) e_int)))
  (ss_cons (s_if (w_and (t_cmp od_gt (e_var 5) e_int) (w_and (t_cmp od_lt (e_cb cb_abs (by rfl) m_abs boot_abs' (b_var 1)) (e_op od_pow e_int e_int)) (w_and (t_cmp od_lt (e_cb cb_abs (by rfl) m_abs boot_abs' (b_var 2)) (e_op od_pow e_int e_int)) (w_and1 (t_cmp od_lt (e_var 3) (e_op od_pow e_int e_int)))))).t
  (ss_one (s_unp (e_tup (n_cons (e_op od_mul (e_var 1) (e_var 5)) (n_cons (e_op od_mul (e_var 2) (e_var 5)) (n_cons (e_op od_mul (e_var 3) (e_var 5)) n_nil)))) (g_tup rfl (gl_cons (g_name 1 sc_law.nd) (gl_cons (g_name 2 sc_law.nd) (gl_cons (g_name 3 sc_law.nd) gl_nil))))))
  ss_nil)
  (ss_cons (s_set 6 sc_law.nd (e_callC c_reduced hr (by decide) (n_cons (e_tup (n_cons (e_var 1) (n_cons (e_var 2) (n_cons (e_var 3) n_nil)))) n_nil)))
  (ss_cons (s_if (w_or (t_not (t_tru (e_isi (by rfl) m_isinstance boot_isinstance' (by rfl) m_tuple boot_tuple' (b_var 6)).bo)) (w_or (t_cmpB (ob_ne hr.units) (e_cb cb_len (by rfl) m_len boot_len' (b_var 6)).bo e_int.bo) (w_or1 (t_cmp od_lt (e_ix (b_var 6) e_int) e_int)))).t
  (ss_one (s_ret e_bl))
  ss_nil)
  (ss_cons (s_if (w_or (t_cmpB (ob_ne hr.units) (e_op od_mul (e_ix (b_var 6) e_int) (e_var 3)).bo (e_op od_mul (e_var 1) (e_ix (b_var 6) e_int)).bo) (w_or1 (t_cmpB (ob_ne hr.units) (e_op od_mul (e_ix (b_var 6) e_int) (e_var 3)).bo (e_op od_mul (e_var 2) (e_ix (b_var 6) e_int)).bo))).t
  (ss_one (s_ret e_bl))
  ss_nil)
  (ss_cons (s_for PassesOwn.never rfl (i_list (el_lst (n_cons e_int (n_cons e_int (n_cons e_int (n_cons e_int (n_cons e_int (n_cons e_int (n_cons e_int (n_cons e_int (n_cons e_int (n_cons e_int n_nil))))))))))).fz) (g_name 7 sc_law.nd)
  (ss_one (s_if (t_tru (e_callC c__law_is_common hr (by decide) (n_cons (e_var 6) (n_cons (e_var 7) n_nil))).bo)
  (ss_one (s_ret e_bl))
  ss_nil)))
  (ss_cons (s_set 8 sc_law.nd (e_callC c_floor_at hr (by decide) (n_cons (e_tup (n_cons (e_var 1) (n_cons (e_var 2) (n_cons (e_var 3) n_nil)))) (n_cons (e_var 4) n_nil))))
  (ss_cons (s_set 9 sc_law.nd (e_callC c_ceiling_at hr (by decide) (n_cons (e_tup (n_cons (e_var 1) (n_cons (e_var 2) (n_cons (e_var 3) n_nil)))) (n_cons (e_var 4) n_nil))))
  (ss_cons (s_if (w_or (t_not (t_chn (e_op od_mul (e_var 8) (e_var 3)) (c_cons od_le (e_op od_add (e_op od_mul (e_var 1) (e_var 4)) (e_var 2)) (c_last od_lt (e_op od_mul (e_op od_add (e_var 8) e_int) (e_var 3)))))) (w_or1 (t_not (t_chn (e_op od_mul (e_op od_sub (e_var 9) e_int) (e_var 3)) (c_cons od_lt (e_op od_add (e_op od_mul (e_var 1) (e_var 4)) (e_var 2)) (c_last od_le (e_op od_mul (e_var 9) (e_var 3)))))))).t
  (ss_one (s_ret e_bl))
  ss_nil)
  (ss_cons (s_set 10 sc_law.nd (e_op od_mod (e_cty cb_int (by rfl) m_int boot_int' (e_callC c__law_cell hr (by decide) (n_cons (e_var 0) (n_cons e_int n_nil))).bo) e_int))
  (ss_cons (s_setO 11 sc_law.nd (el_lst n_nil))
  (ss_cons (s_if (t_cmp od_gt (e_cb cb_abs (by rfl) m_abs boot_abs' (b_var 8)) (e_op od_sub (e_op od_pow e_int e_int) e_int))
  (ss_one (s_ret e_bl))
  ss_nil)
  (ss_cons (s_for PassesOwn.never rfl (i_rng2 (by rfl) m_range (n_cons (e_op od_sub e_int e_int) (n_cons e_int n_nil))) (g_name 12 sc_law.nd)
  (ss_cons (s_set 13 sc_law.nd (e_tup (n_cons (e_var 4) (n_cons (e_op od_add (e_var 8) (e_var 12)) n_nil))))
  (ss_cons (s_set 14 sc_law.nd (e_cmp od_le (e_cb cb_abs (by rfl) m_abs boot_abs' (e_op od_sub (e_op od_add (e_op od_mul (e_var 1) (e_var 4)) (e_var 2)) (e_op od_mul (e_ix (b_var 13) e_int) (e_var 3))).bo) (e_op od_mul (e_var 10) (e_var 3))))
  (ss_cons (s_if (t_cmpB (ob_ne hr.units) (e_callC c_is_near hr (by decide) (n_cons (e_tup (n_cons (e_var 1) (n_cons (e_var 2) (n_cons (e_var 3) n_nil)))) (n_cons (e_var 13) (n_cons (e_var 10) n_nil)))).bo (b_var 14))
  (ss_one (s_ret e_bl))
  ss_nil)
  (ss_one (s_app 11 (e_var 13)))))))
  (ss_cons (s_if (t_cmpB (ob_ne hr.units) (e_callC c_line_fits hr (by decide) (n_cons (e_tup (n_cons (e_var 1) (n_cons (e_var 2) (n_cons (e_var 3) n_nil)))) (n_cons (el_sl (b_var 11) (o_so e_int) (o_so e_int)).fz (n_cons (e_var 10) n_nil)))).bo (e_cb (cb_all rfl) (by rfl) m_all boot_all' (el_lc (own := [("point", 13)]) rfl sc_law.nd (i_list (el_sl (b_var 11) (o_so e_int) (o_so e_int)).fz) (blkOk_by (own := [("point", 13)]) (N := N_law) (sc := defScope s_law) (by decide +kernel)) (by decide) (fun _ _ _ _ _ => (g_name 13 sc_law.nd)) (fun _ _ _ _ _ => ts_nil) (fun _ _ _ _ _ => (e_callC c_is_near hr (by decide) (n_cons (e_tup (n_cons (e_var 1) (n_cons (e_var 2) (n_cons (e_var 3) n_nil)))) (n_cons (e_var 13) (n_cons (e_var 10) n_nil)))))).fz.bo).bo)
  (ss_one (s_ret e_bl))
  ss_nil)
  (ss_one (s_ret (e_cmpB ob_isN (e_callC c_line_fits hr (by decide) (n_cons (e_tup (n_cons (e_var 1) (n_cons (e_var 2) (n_cons (e_var 3) n_nil)))) (n_cons (el_lst n_nil).fz (n_cons (e_var 10) n_nil)))).bo e_bl.bo)))))))))))))))))))))
end
end K01

namespace K01
open PySem L2 DL
local macro_rules | `(tactic| walk_at "ev call") => `(tactic| ((with_reducible (show _ = _)); with_reducible assumption))
local macro_rules | `(tactic| walk_at "ev mul") => `(tactic| first | (with_reducible assumption) | exact mulOk_l (by omega) (by omega) | exact mulOk_r (by omega) (by omega) | decide +kernel)
local macro_rules | `(tactic| walk_at "ev pos") => `(tactic| first | (with_reducible assumption) | decide | omega)
local macro_rules | `(tactic| walk_at "ev log") => `(tactic| first | (with_reducible assumption) | exact log_of (k := 100) (by omega) (by decide) (by decide) | decide +kernel)
local macro_rules | `(tactic| walk_at "ev") => `(tactic| (repeat' first
  | (with_reducible exact ev_I) | (with_reducible exact ev_C) | (with_reducible exact ev_nl) | (with_reducible exact ev_No)
  | ((with_reducible apply ev_V); exact rfl) | ((with_reducible apply ev_B); exact rfl) | ((with_reducible apply ev_Bo); exact rfl)
  | (with_reducible apply ev_cs) | (with_reducible apply ev_tu) | (with_reducible apply ev_L)
  | (with_reducible apply ev_op) | (with_reducible apply ev_U) | (with_reducible apply ev_call) | (with_reducible apply ev_A)
  | (with_reducible apply ev_UL) | (with_reducible apply ev_Sl) | (with_reducible apply ev_So) | (with_reducible apply ev_meth)
  | (with_reducible apply ev_T) | (with_reducible apply ev_Tru) | (with_reducible apply ev_not) | (with_reducible apply ev_bl)
  | (with_reducible apply ev_ch) | (with_reducible apply ev_ch1) | (with_reducible apply ev_chn)
  | (with_reducible apply ev_and) | (with_reducible apply ev_or)
  | (with_reducible exact d_add) | (with_reducible exact d_sub)
  | ((with_reducible refine d_mul ?_); walk_at "ev mul") | ((with_reducible refine d_mod ?_); walk_at "ev pos") | ((with_reducible refine d_div ?_ ?_) <;> first | walk_at "ev pos" | walk_at "ev log")
  | ((with_reducible (show dLt (.int _) (.int _) = _)); exact rfl) | ((with_reducible (show dLe (.int _) (.int _) = _)); exact rfl) | ((with_reducible (show dGt (.int _) (.int _) = _)); exact rfl) | ((with_reducible (show dGe (.int _) (.int _) = _)); exact rfl)
  | ((with_reducible (show dInt (.int _) = _)); exact rfl) | ((with_reducible (show dAbs (.int _) = _)); exact rfl) | ((with_reducible (show dNeg (.int _) = _)); exact rfl)
  | ((with_reducible (show dTru (.bl _) = _)); exact rfl) | ((with_reducible refine d_pow ?_); decide)
  | ((with_reducible (show dIsi _ (.bl _) = _)); exact rfl) | ((with_reducible (show dIsi _ (.tup _) = _)); exact rfl) | ((with_reducible (show dIsi _ (.int _) = _)); exact rfl) | ((with_reducible (show dIsi _ .non = _)); exact rfl)
  | ((with_reducible (show dIsN _ _ = _)); exact rfl) | ((with_reducible (show dNoN _ _ = _)); exact rfl)
  | ((with_reducible (show dLen (.lst _) = _)); exact rfl) | ((with_reducible (show dLen (.scr _) = _)); exact rfl) | ((with_reducible (show dLen (.tup _) = _)); exact rfl)
  | (with_reducible refine d_eq eqOk_int eqOk_int eqd_int) | (with_reducible refine d_eq eqOk_bl eqOk_bl eqd_bl) | (with_reducible refine d_ne eqOk_int eqOk_int eqd_int)
  | (with_reducible refine d_ne eqOk_bl eqOk_bl eqd_bl) | ((with_reducible (show dIx (.tup _) (.int _) = _)); exact rfl)
  | walk_at "ev call"))
local macro_rules | `(tactic| walk_at "ev norm") => `(tactic| simp only [List.map_cons, List.map_nil, List.length_cons, List.length_nil, Nat.reduceAdd, Nat.reduceSub, List.reduceReplicate, List.cons_append, List.nil_append, List.set_cons_zero, List.set_cons_succ, List.zip_cons_cons, List.zip_nil_left, List.zip_nil_right, List.foldl_cons, List.foldl_nil])
local macro_rules | `(tactic| walk_at "ev st") => `(tactic| first
  | ((with_reducible apply sq_set); walk_at "ev"; all_goals (try walk_at "ev norm"))
  | ((with_reducible apply sq_unp); (walk_at "ev"); (all_goals try exact rfl); all_goals (try walk_at "ev norm"))
  | ((with_reducible apply sq_par); walk_at "ev"; all_goals (try walk_at "ev norm"))
  | ((with_reducible apply sq_setO); walk_at "ev"; all_goals (try walk_at "ev norm"))
  | ((with_reducible apply sq_ret); walk_at "ev")
  | ((with_reducible apply sv_ret); walk_at "ev")
  | ((with_reducible apply sv_set); walk_at "ev")
  | (with_reducible apply sq_nil))
def cell (ns : List Int) (k : Nat) : Int := ns.getD k 0
theorem cell_eq (ns : List Int) (k : Int) (h0 : 0 ≤ k) : S__law_cell [.scr ns, .int k] = some (.int (cell ns k.toNat)) := by
  obtain ⟨k, rfl⟩ := Int.eq_ofNat_of_zero_le h0
  refine sv_run ?_
  unfold B__law_cell
  walk_at "ev norm"
  refine sv_ifS (b := decide ((k : Int) < (ns.length : Int))) ?_ ?_ ?_
  · walk_at "ev"
  · intro h
    have h : k < ns.length := by simpa using h
    refine sv_rt (sv_ret (ev_op (ev_B rfl) (ev_V rfl) ?_))
    show (atI ns (k : Int)).map D.int = _
    rw [atI_nat (List.getElem?_eq_getElem h)]
    simp [cell, h]
  · intro h
    have h : ns.length ≤ k := by simpa using h
    rw [sv_nilS]
    refine sv_ret ?_
    simp [cell, List.getElem?_eq_none h, gI]
local macro_rules | `(tactic| walk_at "ev call") => `(tactic| with_reducible exact cell_eq _ _ (by decide))
def absI (a : Int) : Int := if a < 0 then -a else a
theorem absI_le {a b : Int} : absI a ≤ b ↔ -b ≤ a ∧ a ≤ b := by unfold absI; split <;> omega
def encP (a : Int × Int) : D := .tup [.int a.1, .int a.2]
def encL (l : Int × Int × Int) : D := .tup [.int l.1, .int l.2.1, .int l.2.2]
theorem all_map_bl {α : Type} (xs : List α) (t : α → Bool) : dAll (.lst (xs.map fun a => D.bl (t a))) = some (.bl (xs.all t)) := by
  have e : xs.map (fun a => D.bl (t a)) = (xs.map t).map D.bl := by rw [List.map_map]; rfl
  rw [e, d_all]
  simp [List.all_map]
def nearB (p q d x y e : Int) : Bool := decide (absI (p * x + q - y * d) ≤ e * d)
theorem near_eq (p q d x y e : Int) (hx : -(2 ^ 64) < x ∧ x < 2 ^ 64) (hd : -(2 ^ 64) < d ∧ d < 2 ^ 64) : S_is_near [.tup [.int p, .int q, .int d], .tup [.int x, .int y], .int e] = some (.bl (nearB p q d x y e)) := by
  refine sv_run ?_
  unfold B_is_near
  walk_at "ev norm"
  walk_at "ev st"
  walk_at "ev st"
  walk_at "ev st"
theorem fits_eq (p q d e : Int) (pts : List (Int × Int)) (hp : ∀ a ∈ pts, -(2 ^ 64) < a.1 ∧ a.1 < 2 ^ 64) (hd : -(2 ^ 64) < d ∧ d < 2 ^ 64) (hl : pts.length < 1000000) : S_line_fits [.tup [.int p, .int q, .int d], .lst (pts.map encP), .int e] = some (.bl (pts.all fun a => nearB p q d a.1 a.2 e)) := by
  refine sv_run ?_
  unfold B_line_fits
  walk_at "ev norm"
  refine sv_ret (ev_U (ev_L (ev_lc (ev_it (ev_V rfl)) (by simpa using hl) (compL_map pts _ (fun a => .bl (nearB p q d a.1 a.2 e)) fun a ha => ⟨_, rfl, ?_⟩))) (all_map_bl _ _))
  simp only [wipeE]
  walk_at "ev norm"
  refine ev_call ?_ (near_eq p q d a.1 a.2 e (hp a ha) hd)
  walk_at "ev"
local macro_rules | `(tactic| walk_at "ev mul") => `(tactic| exact mulOk_l (by omega) (by omega))
theorem floor_eq (p q d x : Int) (hx : -(2 ^ 64) < x ∧ x < 2 ^ 64) (h0 : 0 < d) (hd : d < 2 ^ 64) : S_floor_at [.tup [.int p, .int q, .int d], .int x] = some (.int ((p * x + q) / d)) := by
  refine sv_run ?_
  unfold B_floor_at
  walk_at "ev norm"
  walk_at "ev st"
  walk_at "ev st"
theorem ceil_eq (p q d x : Int) (hx : -(2 ^ 64) < x ∧ x < 2 ^ 64) (h0 : 0 < d) (hd : d < 2 ^ 64) : S_ceiling_at [.tup [.int p, .int q, .int d], .int x] = some (.int (-((-p * x - q) / d))) := by
  refine sv_run ?_
  unfold B_ceiling_at
  walk_at "ev norm"
  walk_at "ev st"
  walk_at "ev st"
def gg (p q d : Int) : Int := ((Nat.gcd ((Nat.gcd p.natAbs q.natAbs : Nat) : Int).natAbs d.natAbs : Nat) : Int)
theorem red_eq (p q d : Int) (h0 : 0 < d) (hd : d < 2 ^ 64) : S_reduced [.tup [.int p, .int q, .int d]] = some (.tup [.int (p / gg p q d), .int (q / gg p q d), .int (d / gg p q d)]) := by
  have g0 : 0 < gg p q d := by
    unfold gg
    have : 0 < Nat.gcd ((Nat.gcd p.natAbs q.natAbs : Nat) : Int).natAbs d.natAbs := Nat.gcd_pos_of_pos_right _ (by omega)
    omega
  have g1 : gg p q d < 2 ^ 64 := by
    unfold gg
    have := Nat.gcd_le_right (m := ((Nat.gcd p.natAbs q.natAbs : Nat) : Int).natAbs) (n := d.natAbs) (by omega)
    omega
  refine sv_run ?_
  unfold B_reduced
  walk_at "ev norm"
  walk_at "ev st"
  refine sq_set (d := .int (gg p q d)) (ev_A (ev_cs (ev_A (ev_cs (ev_V rfl) (ev_cs (ev_V rfl) ev_nl)) rfl) (ev_cs (ev_V rfl) ev_nl)) rfl) ?_
  walk_at "ev norm"
  walk_at "ev st"
def num (c : Int) : Int := if c % 3 = 0 then (c / 3) % 41 - 20 else (c / 3) % (2 * 10 ^ 18 - 1) - 10 ^ 18 + 1
theorem num_b (c : Int) : -(10 ^ 18) < num c ∧ num c < 10 ^ 18 := by
  unfold num
  split <;> omega
theorem num_eq (c : Int) : S__law_number [.int c] = some (.int (num c)) := by
  refine sv_run ?_
  unfold B__law_number num
  walk_at "ev norm"
  refine sv_ifS (b := c % 3 == 0) ?_ ?_ ?_
  · walk_at "ev"
  · intro h
    rw [if_pos (by simpa using h)]
    walk_at "ev st"
  · intro h
    rw [if_neg (by simpa using h), sv_nilS]
    have e1 : (10 : Int) ^ (18 : Int).toNat = 10 ^ 18 := rfl
    refine sv_ret ?_
    walk_at "ev"
    all_goals exact rfl
theorem common_eq (a b c k : Int) (hk : 0 < k) : S__law_is_common [.tup [.int a, .int b, .int c], .int k] = some (.bl ([a, b, c].all fun n => n % k == 0)) := by
  refine sv_run ?_
  unfold B__law_is_common
  walk_at "ev norm"
  refine sv_ret (ev_U (ev_L (ev_lc (ev_itT (ev_V rfl)) (by simp) (compL_map [a, b, c] D.int (fun n => .bl (n % k == 0)) fun n _ => ⟨_, rfl, ?_⟩))) (all_map_bl _ _))
  simp only [wipeE]
  walk_at "ev norm"
  walk_at "ev"
theorem gg_pos (p q d : Int) (h0 : 0 < d) : 0 < gg p q d := by
  unfold gg
  have : 0 < Nat.gcd ((Nat.gcd p.natAbs q.natAbs : Nat) : Int).natAbs d.natAbs := Nat.gcd_pos_of_pos_right _ (by omega)
  omega
theorem gg_dvd (p q d : Int) : gg p q d ∣ p ∧ gg p q d ∣ q ∧ gg p q d ∣ d := by
  unfold gg
  have h1 := Nat.gcd_dvd_left (Nat.gcd p.natAbs q.natAbs : Nat) d.natAbs
  have h2 := Nat.gcd_dvd_right (Nat.gcd p.natAbs q.natAbs : Nat) d.natAbs
  have e : ((Nat.gcd p.natAbs q.natAbs : Nat) : Int).natAbs = Nat.gcd p.natAbs q.natAbs := rfl
  rw [e]
  refine ⟨?_, ?_, ?_⟩
  · exact Int.ofNat_dvd_left.mpr (Nat.dvd_trans h1 (Nat.gcd_dvd_left _ _))
  · exact Int.ofNat_dvd_left.mpr (Nat.dvd_trans h1 (Nat.gcd_dvd_right _ _))
  · exact Int.ofNat_dvd_left.mpr h2
theorem gg_great (p q d k : Int) (h1 : k ∣ p) (h2 : k ∣ q) (h3 : k ∣ d) : k ∣ gg p q d := by
  unfold gg
  have e : ((Nat.gcd p.natAbs q.natAbs : Nat) : Int).natAbs = Nat.gcd p.natAbs q.natAbs := rfl
  rw [e]
  exact Int.ofNat_dvd_right.mpr (Nat.dvd_gcd (Nat.dvd_gcd (Int.natAbs_dvd_natAbs.mpr h1) (Int.natAbs_dvd_natAbs.mpr h2)) (Int.natAbs_dvd_natAbs.mpr h3))
theorem coprime (p q d k : Int) (h0 : 0 < d) (hk : 2 ≤ k) : ([p / gg p q d, q / gg p q d, d / gg p q d].all fun n => n % k == 0) = false := by
  rw [Bool.eq_false_iff]
  intro h
  simp only [List.all_cons, List.all_nil, Bool.and_true, Bool.and_eq_true, beq_iff_eq] at h
  obtain ⟨h1, h2, h3⟩ := h
  have g0 := gg_pos p q d h0
  obtain ⟨d1, d2, d3⟩ := gg_dvd p q d
  have up : ∀ a : Int, gg p q d ∣ a → (a / gg p q d) % k = 0 → k * gg p q d ∣ a := fun a ha hm => by
    obtain ⟨c, hc⟩ := Int.dvd_of_emod_eq_zero hm
    refine ⟨c, ?_⟩
    have e := Int.ediv_mul_cancel ha
    rw [hc] at e
    rw [← e]
    grind
  have big := gg_great p q d _ (up p d1 h1) (up q d2 h2) (up d d3 h3)
  have := Int.le_of_dvd g0 big
  have : 2 * gg p q d ≤ k * gg p q d := Int.mul_le_mul_of_nonneg_right hk (by omega)
  omega
theorem cross (p q d a : Int) (ha : gg p q d ∣ a) : (a / gg p q d) * d = a * (d / gg p q d) := by
  have e1 := Int.ediv_mul_cancel ha
  have e2 := Int.ediv_mul_cancel (gg_dvd p q d).2.2
  generalize a / gg p q d = u at *
  generalize d / gg p q d = v at *
  grind
theorem primes {Γ : DEnv} {Γs : D → DEnv} (p q d : Int) (h0 : 0 < d) (ks : List Int) (hk : ∀ k ∈ ks, 2 ≤ k) (s0 s1 s2 s3 s4 s5 s7 : Sl) (tl : DEnv) :
    ∃ s7', forL (gN 7) (sIf (gTru (gCall S__law_is_common (aC (gV 6) (aC (gV 7) aN)))) (sRet (gC (.bl false))) sNil) (ks.map D.int) (s0 :: s1 :: s2 :: s3 :: s4 :: s5 :: .sh (.tup [.int (p / gg p q d), .int (q / gg p q d), .int (d / gg p q d)]) :: s7 :: tl)
      = some (.nx (s0 :: s1 :: s2 :: s3 :: s4 :: s5 :: .sh (.tup [.int (p / gg p q d), .int (q / gg p q d), .int (d / gg p q d)]) :: s7' :: tl)) := by
  induction ks generalizing s7 with
  | nil => exact ⟨s7, rfl⟩
  | cons k ks ih =>
    obtain ⟨s', h⟩ := ih (fun k hk' => hk k (List.mem_cons_of_mem _ hk')) (.sh (.int k))
    refine ⟨s', forL_nx rfl ?_ h⟩
    have hk2 := hk k List.mem_cons_self
    refine sv_ifN (ev_Tru (ev_call (ev_cs (ev_V rfl) (ev_cs (ev_V rfl) ev_nl)) (common_eq _ _ _ k (by omega))) rfl) (coprime p q d k h0 hk2)
theorem low_ok (n d : Int) (h : 0 < d) : n / d * d ≤ n ∧ n < (n / d + 1) * d := ⟨Int.ediv_mul_le n (by omega), Int.lt_ediv_add_one_mul_self n h⟩
theorem high_ok (p x q d : Int) (h : 0 < d) : (-((-p * x - q) / d) - 1) * d < p * x + q ∧ p * x + q ≤ -((-p * x - q) / d) * d := by
  obtain ⟨h1, h2⟩ := low_ok (-p * x - q) d h
  generalize (-p * x - q) / d = m at *
  have e : -p * x - q = -(p * x + q) := by grind
  rw [e] at h1 h2
  have e1 : (-m - 1) * d = -((m + 1) * d) := by grind
  have e2 : -m * d = -(m * d) := by grind
  rw [e1, e2]
  omega
theorem scale (a t : Int) (ha : -(10 ^ 15) < a ∧ a < 10 ^ 15) (ht : 1 ≤ t ∧ t ≤ 30) : -(10 ^ 18) < a * t ∧ a * t < 10 ^ 18 := by
  have h1 : a * t ≤ 10 ^ 15 * t := Int.mul_le_mul_of_nonneg_right (by omega) (by omega)
  have h2 : -(10 ^ 15) * t ≤ a * t := Int.mul_le_mul_of_nonneg_right (by omega) (by omega)
  omega
theorem law_true (ns : List Int) (hl : ns.length ≤ 63) : S_law [.scr ns] = some (.bl true) := by
  refine sv_run ?_
  unfold B_law
  walk_at "ev norm"
  have n0 := num_b (cell ns (Int.toNat 0))
  have n1 := num_b (cell ns (Int.toNat 1))
  have n2 := num_b (cell ns (Int.toNat 2))
  have n3 := num_b (cell ns (Int.toNat 3))
  refine sq_set (ev_call (ev_cs (ev_call (ev_cs (ev_V rfl) (ev_cs ev_I ev_nl)) (cell_eq _ _ (by decide))) ev_nl) (num_eq _)) ?_
  walk_at "ev norm"
  refine sq_set (ev_call (ev_cs (ev_call (ev_cs (ev_V rfl) (ev_cs ev_I ev_nl)) (cell_eq _ _ (by decide))) ev_nl) (num_eq _)) ?_
  walk_at "ev norm"
  refine sq_set (ev_op ev_I (ev_U (ev_call (ev_cs (ev_call (ev_cs (ev_V rfl) (ev_cs ev_I ev_nl)) (cell_eq _ _ (by decide))) ev_nl) (num_eq _)) rfl) d_add) ?_
  walk_at "ev norm"
  refine sq_set (ev_call (ev_cs (ev_call (ev_cs (ev_V rfl) (ev_cs ev_I ev_nl)) (cell_eq _ _ (by decide))) ev_nl) (num_eq _)) ?_
  walk_at "ev norm"
  walk_at "ev st"
  generalize num (cell ns (Int.toNat 0)) = p0 at n0 ⊢
  generalize num (cell ns (Int.toNat 1)) = q0 at n1 ⊢
  generalize hd0 : (1 + if num (cell ns (Int.toNat 2)) < 0 then -num (cell ns (Int.toNat 2)) else num (cell ns (Int.toNat 2))) = d0
  have n2' : 0 < d0 ∧ d0 ≤ 10 ^ 18 := by split at hd0 <;> omega
  clear hd0 n2
  generalize num (cell ns (Int.toNat 3)) = x at n3 ⊢
  generalize ht : 1 + cell ns (Int.toNat 4) % 30 = times
  have n4 : 1 ≤ times ∧ times ≤ 30 := by omega
  clear ht
  have e15 : (10 : Int) ^ (15 : Int).toNat = 10 ^ 15 := rfl
  have e18 : (10 : Int) ^ (18 : Int).toNat = 10 ^ 18 := rfl
  with_reducible apply sq_ifX (Q := fun Γ' => ∃ p q d : Int, (-(10 ^ 18) < p ∧ p < 10 ^ 18) ∧ (-(10 ^ 18) < q ∧ q < 10 ^ 18) ∧ 0 < d ∧ d ≤ 10 ^ 18 ∧ Γ' = [Sl.sh (D.scr ns), Sl.sh (D.int p), Sl.sh (D.int q), Sl.sh (D.int d), Sl.sh (D.int x), Sl.sh (D.int times), Sl.no, Sl.no, Sl.no, Sl.no, Sl.no, Sl.no, Sl.no, Sl.no, Sl.no])
  · walk_at "ev"
  · intro hb
    rw [e15] at hb
    simp only [Bool.and_eq_true, decide_eq_true_eq] at hb
    obtain ⟨h1, h2, h3, h4⟩ := hb
    have hp : -(10 ^ 15) < p0 ∧ p0 < 10 ^ 15 := by split at h2 <;> omega
    have hq : -(10 ^ 15) < q0 ∧ q0 < 10 ^ 15 := by split at h3 <;> omega
    have b1 := scale p0 times hp n4
    have b2 := scale q0 times hq n4
    have b3 := scale d0 times (by omega) n4
    have b4 : 0 < d0 * times := Int.mul_pos n2'.1 (by omega)
    refine ⟨_, ⟨p0 * times, q0 * times, d0 * times, b1, b2, b4, by omega, rfl⟩, ?_⟩
    refine sv_unp (ev_tu (ev_cs (ev_op (ev_V rfl) (ev_V rfl) (d_mul (mulOk_l (by omega) (by omega)))) (ev_cs (ev_op (ev_V rfl) (ev_V rfl) (d_mul (mulOk_l (by omega) (by omega)))) (ev_cs (ev_op (ev_V rfl) (ev_V rfl) (d_mul (mulOk_l (by omega) (by omega)))) ev_nl)))) rfl
  · intro hb
    exact ⟨_, ⟨p0, q0, d0, n0, n1, n2'.1, n2'.2, rfl⟩, rfl⟩
  rintro _ ⟨p, q, d, bp, bq, d0', d1, rfl⟩
  clear n0 n1 n2' n4
  have hd : -(2 ^ 64) < d ∧ d < 2 ^ 64 := by omega
  have hx : -(2 ^ 64) < x ∧ x < 2 ^ 64 := by omega
  -- the reduced line
  refine sq_set (ev_call (ev_cs (ev_tu (ev_cs (ev_V rfl) (ev_cs (ev_V rfl) (ev_cs (ev_V rfl) ev_nl)))) ev_nl) (red_eq p q d d0' (by omega))) ?_
  walk_at "ev norm"
  have g0 := gg_pos p q d d0'
  obtain ⟨v1, v2, v3⟩ := gg_dvd p q d
  have hs : 1 ≤ d / gg p q d := by
    have := Int.ediv_mul_cancel v3
    have : 0 < d / gg p q d := Int.ediv_pos_of_pos_of_dvd d0' (by omega) v3
    omega
  have hs2 : d / gg p q d < 2 ^ 64 := by
    have := Int.ediv_le_self (gg p q d) (show 0 ≤ d by omega)
    omega
  refine sq_ifN (b := false || (!(3 == 3) || decide (d / gg p q d < 1))) ?_ (by simp; omega) ?_
  · refine ev_or (ev_not (b := true) ?_) (ev_or (ev_T (ev_op (ev_U (ev_B rfl) rfl) ev_I (d_ne eqOk_int eqOk_int eqd_int))) (ev_T (ev_op (ev_op (ev_B rfl) ev_I rfl) ev_I rfl)))
    walk_at "ev"
  have c1 := cross p q d p v1
  have c2 := cross p q d q v2
  refine sq_ifN (b := !((p / gg p q d) * d == p * (d / gg p q d)) || !((q / gg p q d) * d == q * (d / gg p q d))) ?_ (by rw [c1, c2]; simp) ?_
  · have m1 : ∀ i, mulOk i d = true := fun i => mulOk_r hd.1 hd.2
    have m2 : ∀ i, mulOk i (d / gg p q d) = true := fun i => mulOk_r (by omega) hs2
    exact ev_or (ev_T (ev_op (ev_op (ev_op (ev_B rfl) ev_I rfl) (ev_V rfl) (d_mul (m1 _))) (ev_op (ev_V rfl) (ev_op (ev_B rfl) ev_I rfl) (d_mul (m2 _))) (d_ne eqOk_int eqOk_int eqd_int))) (ev_T (ev_op (ev_op (ev_op (ev_B rfl) ev_I rfl) (ev_V rfl) (d_mul (m1 _))) (ev_op (ev_V rfl) (ev_op (ev_B rfl) ev_I rfl) (d_mul (m2 _))) (d_ne eqOk_int eqOk_int eqd_int)))
  -- the primes
  obtain ⟨s7, hf⟩ := primes (Γ := []) (Γs := fun _ => []) p q d d0' [2, 3, 5, 7, 11, 13, 17, 19, 23, 29] (by simp) (.sh (.scr ns)) (.sh (.int p)) (.sh (.int q)) (.sh (.int d)) (.sh (.int x)) (.sh (.int times)) .no [.no, .no, .no, .no, .no, .no, .no]
  refine sv_nx (sv_for (ds := [2, 3, 5, 7, 11, 13, 17, 19, 23, 29].map D.int) (ev_it (ev_L rfl)) hf) ?_
  clear hf c1 c2 v1 v2 v3 hs hs2
  generalize Sl.sh (D.tup [D.int (p / gg p q d), D.int (q / gg p q d), D.int (d / gg p q d)]) = s6
  refine sq_set (ev_call (ev_cs (ev_tu (ev_cs (ev_V rfl) (ev_cs (ev_V rfl) (ev_cs (ev_V rfl) ev_nl)))) (ev_cs (ev_V rfl) ev_nl)) (floor_eq p q d x hx d0' (by omega))) ?_
  walk_at "ev norm"
  refine sq_set (ev_call (ev_cs (ev_tu (ev_cs (ev_V rfl) (ev_cs (ev_V rfl) (ev_cs (ev_V rfl) ev_nl)))) (ev_cs (ev_V rfl) ev_nl)) (ceil_eq p q d x hx d0' (by omega))) ?_
  walk_at "ev norm"
  obtain ⟨l1, l2⟩ := low_ok (p * x + q) d d0'
  obtain ⟨l3, l4⟩ := high_ok p x q d d0'
  generalize (p * x + q) / d = low at *
  generalize -((-p * x - q) / d) = high at *
  have m1 : ∀ i, mulOk i d = true := fun i => mulOk_r hd.1 hd.2
  have m2 : ∀ i, mulOk i x = true := fun i => mulOk_r hx.1 hx.2
  with_reducible apply sq_ifN
  · with_reducible apply ev_or
    · with_reducible apply ev_not
      refine ev_ch (ev_op (ev_V rfl) (ev_V rfl) (d_mul (m1 _))) (ev_chn (ev_op (ev_op (ev_V rfl) (ev_V rfl) (d_mul (m2 _))) (ev_V rfl) d_add) rfl (ev_ch1 (ev_op (ev_op (ev_V rfl) ev_I d_add) (ev_V rfl) (d_mul (m1 _))) rfl))
    · with_reducible apply ev_not
      refine ev_ch (ev_op (ev_op (ev_V rfl) ev_I d_sub) (ev_V rfl) (d_mul (m1 _))) (ev_chn (ev_op (ev_op (ev_V rfl) (ev_V rfl) (d_mul (m2 _))) (ev_V rfl) d_add) rfl (ev_ch1 (ev_op (ev_V rfl) (ev_V rfl) (d_mul (m1 _))) rfl))
  · simp [l1, l2, l3, l4]
  clear l1 l2 l3 l4
  walk_at "ev st"
  generalize cell ns (Int.toNat 5) % 4 = er
  walk_at "ev st"
  with_reducible apply sv_ifS
  · walk_at "ev"
  · intro _
    exact sv_rt rfl
  intro hb
  rw [e18] at hb
  have hlow : -(10 ^ 18) < low ∧ low < 10 ^ 18 := by
    simp only [decide_eq_false_iff_not, Int.not_lt] at hb
    split at hb <;> omega
  clear hb
  rw [sv_nilS]
  -- the points
  have er11 : rngD (0 - 5) (6 - (0 - 5) : Int).toNat = ((List.range 11).map fun i : Nat => ((-5 : Int) + i)).map D.int := by unfold rngD; rw [List.map_map]; rfl
  obtain ⟨Γ', hf, ks, pts, s12, s13, s14, e1, -, e2, hpts, rfl⟩ := forL_inv (gs := gN 12) (F := sSeq (sSet 13 (gTu 2 (aC (gV 4) (aC (gOp dAdd (gV 8) (gV 12)) aN))))
  (sSeq (sSet 14 (gOp dLe (gU dAbs (gOp dSub (gOp dAdd (gOp dMul (gV 1) (gV 4)) (gV 2)) (gOp dMul (gIx (gB 13) (gI 1)) (gV 3)))) (gOp dMul (gV 10) (gV 3))))
  (sSeq (sIf (gT (gOp dNe (gCall S_is_near (aC (gTu 3 (aC (gV 1) (aC (gV 2) (aC (gV 3) aN)))) (aC (gV 13) (aC (gV 10) aN)))) (gB 14)))
  (sRet (gC (.bl false)))
  sNil)
  (sApp 11 (gV 13))))) (fun rest Γ => ∃ (ks : List Int) (pts : List (Int × Int)) (s12 s13 s14 : Sl), rest = ks.map D.int ∧ (∀ k ∈ ks, -5 ≤ k ∧ k ≤ 5) ∧ pts.length + ks.length = 11 ∧ (∀ a ∈ pts, -(2 ^ 64) < a.1 ∧ a.1 < 2 ^ 64) ∧
      Γ = [.sh (.scr ns), .sh (.int p), .sh (.int q), .sh (.int d), .sh (.int x), .sh (.int times), s6, s7, .sh (.int low), .sh (.int high), .sh (.int er), .ow (pts.map encP), s12, s13, s14]) (fun dd ds Γ hI => by
    obtain ⟨ks, pts, s12, s13, s14, e1, e2, e3, e4, rfl⟩ := hI
    cases ks with
    | nil => cases e1
    | cons k ks =>
      cases e1
      refine ⟨_, _, rfl, .inl ?_, ks, pts ++ [(x, low + k)], .sh (.int k), .sh (encP (x, low + k)), .sh (.bl (nearB p q d x (low + k) er)), rfl, fun j hj => e2 j (List.mem_cons_of_mem _ hj), by simp at e3 ⊢; omega, ?_, rfl⟩
      · walk_at "ev norm"
        walk_at "ev st"
        refine sq_set (d := .bl (nearB p q d x (low + k) er)) (ev_op (ev_U (ev_op (ev_op (ev_op (ev_V rfl) (ev_V rfl) (d_mul (m2 _))) (ev_V rfl) d_add) (ev_op (ev_op (ev_B rfl) ev_I rfl) (ev_V rfl) (d_mul (m1 _))) d_sub) rfl) (ev_op (ev_V rfl) (ev_V rfl) (d_mul (m1 _))) rfl) ?_
        walk_at "ev norm"
        refine sq_ifN (ev_T (ev_op (ev_call (ev_cs (ev_tu (ev_cs (ev_V rfl) (ev_cs (ev_V rfl) (ev_cs (ev_V rfl) ev_nl)))) (ev_cs (ev_V rfl) (ev_cs (ev_V rfl) ev_nl))) (near_eq p q d x (low + k) er hx hd)) (ev_B rfl) (d_ne eqOk_bl eqOk_bl eqd_bl))) (by simp) ?_
        refine (sv_app (ev_V rfl) rfl ?_).trans ?_
        · simp at e3 ⊢
          omega
        · walk_at "ev norm"
          rw [List.map_append]
          rfl
      · intro a ha
        rcases List.mem_append.mp ha with h | h
        · exact e4 a h
        · simp only [List.mem_singleton] at h
          subst h
          exact hx) (((List.range 11).map fun i : Nat => ((-5 : Int) + i)).map D.int) _ ⟨_, [], .no, .no, .no, rfl, by decide, by decide, by simp, rfl⟩
  refine sv_nx (sv_for ((ev_rng2 (ev_cs (ev_op ev_I ev_I d_sub) (ev_cs ev_I ev_nl)) (by omega) (by omega) (by omega) (by omega)).trans (congrArg some er11)) hf) ?_
  have ec : dCut (.lst (pts.map encP)) (some 3) (some 8) = some ((cutD pts (some 3) (some 8)).map encP) := by
    show some (cutD (pts.map encP) (some 3) (some 8)) = _
    unfold cutD
    rw [List.length_map, List.map_take, List.map_drop]
  have hin : ∀ a ∈ cutD pts (some 3) (some 8), -(2 ^ 64) < a.1 ∧ a.1 < 2 ^ 64 := fun a ha => hpts a (List.mem_of_mem_drop (List.mem_of_mem_take ha))
  have hle : (cutD pts (some 3) (some 8)).length ≤ 11 := by
    unfold cutD
    rw [List.length_take, List.length_drop]
    omega
  refine sq_ifN (ev_T (ev_op (ev_call (ev_cs (ev_tu (ev_cs (ev_V rfl) (ev_cs (ev_V rfl) (ev_cs (ev_V rfl) ev_nl)))) (ev_cs (ev_L (ev_Sl (ev_Bo rfl) (ev_So ev_I) (ev_So ev_I) ec)) (ev_cs (ev_V rfl) ev_nl))) (fits_eq p q d er _ hin hd (by omega)))
    (ev_U (ev_L (ev_lc (ev_it (ev_L (ev_Sl (ev_Bo rfl) (ev_So ev_I) (ev_So ev_I) ec))) (by simp; omega) (compL_map (cutD pts (some 3) (some 8)) _ (fun a => .bl (nearB p q d a.1 a.2 er)) fun a ha => ⟨_, rfl, ?_⟩))) (all_map_bl _ _)) (d_ne eqOk_bl eqOk_bl eqd_bl))) (by simp) ?_
  · simp only [wipeE]
    walk_at "ev norm"
    exact ev_call (ev_cs (ev_tu (ev_cs (ev_V rfl) (ev_cs (ev_V rfl) (ev_cs (ev_V rfl) ev_nl)))) (ev_cs (ev_V rfl) (ev_cs (ev_V rfl) ev_nl))) (near_eq p q d a.1 a.2 er (hin a ha) hd)
  refine sv_ret (ev_op (ev_call (ev_cs (ev_tu (ev_cs (ev_V rfl) (ev_cs (ev_V rfl) (ev_cs (ev_V rfl) ev_nl)))) (ev_cs (ev_L ev_nl) (ev_cs (ev_V rfl) ev_nl))) (fits_eq p q d er [] (by simp) hd (by simp))) ev_C rfl)
end K01

namespace K01
open PySem L2 DL
def spLaw (K : PySem.W.Frag) : Sp := fun vs H Q _ => ∃ (a : Addr) (ns : List Int), vs = [.ref a] ∧ SqL K H a (ns.map V.int) ∧ ns.length ≤ 63 ∧ ∀ H', Q (.bl true) H'
theorem all_mk {P : Program} {w : World} {K : PySem.W.Frag} {h : Heap} {mg : Str → Option Value} {fa : Addr} (X : K.In h) (G : h.Ns mainGlobals mg) (hfa : mg "law" = some (.ref fa))
    {f1 : Addr} {od1 an1 : Option Addr} {sl1 : Array (Option Value)} {oc1 kV1 dc1 pm1 cd1 ct1 : Value} (a1 : PySem.W.nsIn K mainGlobals "reduced" = some (some (.ref f1))) (l1 : K.lookup f1 = some ⟨oc1, od1, .func (PySem.W.fnOf "reduced" "reduced" (defArgs s_reduced) (defBody s_reduced) (defScope s_reduced) .none kV1 dc1 pm1 an1 cd1 ct1), sl1⟩) (c1 : PySem.W.codeIn K cd1 "reduced" = true) (k1 : PySem.W.keepIn K (.ref f1) = true)
    {f2 : Addr} {od2 an2 : Option Addr} {sl2 : Array (Option Value)} {oc2 kV2 dc2 pm2 cd2 ct2 : Value} (a2 : PySem.W.nsIn K mainGlobals "floor_at" = some (some (.ref f2))) (l2 : K.lookup f2 = some ⟨oc2, od2, .func (PySem.W.fnOf "floor_at" "floor_at" (defArgs s_floor_at) (defBody s_floor_at) (defScope s_floor_at) .none kV2 dc2 pm2 an2 cd2 ct2), sl2⟩) (c2 : PySem.W.codeIn K cd2 "floor_at" = true) (k2 : PySem.W.keepIn K (.ref f2) = true)
    {f3 : Addr} {od3 an3 : Option Addr} {sl3 : Array (Option Value)} {oc3 kV3 dc3 pm3 cd3 ct3 : Value} (a3 : PySem.W.nsIn K mainGlobals "ceiling_at" = some (some (.ref f3))) (l3 : K.lookup f3 = some ⟨oc3, od3, .func (PySem.W.fnOf "ceiling_at" "ceiling_at" (defArgs s_ceiling_at) (defBody s_ceiling_at) (defScope s_ceiling_at) .none kV3 dc3 pm3 an3 cd3 ct3), sl3⟩) (c3 : PySem.W.codeIn K cd3 "ceiling_at" = true) (k3 : PySem.W.keepIn K (.ref f3) = true)
    {f4 : Addr} {od4 an4 : Option Addr} {sl4 : Array (Option Value)} {oc4 kV4 dc4 pm4 cd4 ct4 : Value} (a4 : PySem.W.nsIn K mainGlobals "is_near" = some (some (.ref f4))) (l4 : K.lookup f4 = some ⟨oc4, od4, .func (PySem.W.fnOf "is_near" "is_near" (defArgs s_is_near) (defBody s_is_near) (defScope s_is_near) .none kV4 dc4 pm4 an4 cd4 ct4), sl4⟩) (c4 : PySem.W.codeIn K cd4 "is_near" = true) (k4 : PySem.W.keepIn K (.ref f4) = true)
    {f5 : Addr} {od5 an5 : Option Addr} {sl5 : Array (Option Value)} {oc5 kV5 dc5 pm5 cd5 ct5 : Value} (a5 : PySem.W.nsIn K mainGlobals "line_fits" = some (some (.ref f5))) (l5 : K.lookup f5 = some ⟨oc5, od5, .func (PySem.W.fnOf "line_fits" "line_fits" (defArgs s_line_fits) (defBody s_line_fits) (defScope s_line_fits) .none kV5 dc5 pm5 an5 cd5 ct5), sl5⟩) (c5 : PySem.W.codeIn K cd5 "line_fits" = true) (k5 : PySem.W.keepIn K (.ref f5) = true)
    {f6 : Addr} {od6 an6 : Option Addr} {sl6 : Array (Option Value)} {oc6 kV6 dc6 pm6 cd6 ct6 : Value} (a6 : PySem.W.nsIn K mainGlobals "_law_cell" = some (some (.ref f6))) (l6 : K.lookup f6 = some ⟨oc6, od6, .func (PySem.W.fnOf "_law_cell" "_law_cell" (defArgs s__law_cell) (defBody s__law_cell) (defScope s__law_cell) .none kV6 dc6 pm6 an6 cd6 ct6), sl6⟩) (c6 : PySem.W.codeIn K cd6 "_law_cell" = true) (k6 : PySem.W.keepIn K (.ref f6) = true)
    {f7 : Addr} {od7 an7 : Option Addr} {sl7 : Array (Option Value)} {oc7 kV7 dc7 pm7 cd7 ct7 : Value} (a7 : PySem.W.nsIn K mainGlobals "_law_number" = some (some (.ref f7))) (l7 : K.lookup f7 = some ⟨oc7, od7, .func (PySem.W.fnOf "_law_number" "_law_number" (defArgs s__law_number) (defBody s__law_number) (defScope s__law_number) .none kV7 dc7 pm7 an7 cd7 ct7), sl7⟩) (c7 : PySem.W.codeIn K cd7 "_law_number" = true) (k7 : PySem.W.keepIn K (.ref f7) = true)
    {f8 : Addr} {od8 an8 : Option Addr} {sl8 : Array (Option Value)} {oc8 kV8 dc8 pm8 cd8 ct8 : Value} (a8 : PySem.W.nsIn K mainGlobals "_law_is_common" = some (some (.ref f8))) (l8 : K.lookup f8 = some ⟨oc8, od8, .func (PySem.W.fnOf "_law_is_common" "_law_is_common" (defArgs s__law_is_common) (defBody s__law_is_common) (defScope s__law_is_common) .none kV8 dc8 pm8 an8 cd8 ct8), sl8⟩) (c8 : PySem.W.codeIn K cd8 "_law_is_common" = true) (k8 : PySem.W.keepIn K (.ref f8) = true)
    {f9 : Addr} {od9 an9 : Option Addr} {sl9 : Array (Option Value)} {oc9 kV9 dc9 pm9 cd9 ct9 : Value} (a9 : PySem.W.nsIn K mainGlobals "law" = some (some (.ref f9))) (l9 : K.lookup f9 = some ⟨oc9, od9, .func (PySem.W.fnOf "law" "law" (defArgs s_law) (defBody s_law) (defScope s_law) .none kV9 dc9 pm9 an9 cd9 ct9), sl9⟩) (c9 : PySem.W.codeIn K cd9 "law" = true) (k9 : PySem.W.keepIn K (.ref f9) = true)
    (z_gcd : PySem.W.nsIn K mainGlobals "gcd" = some (some (.builtin "math.gcd")))
    (z_abs : PySem.W.nsIn K mainGlobals "abs" = some none)
    (z_all : PySem.W.nsIn K mainGlobals "all" = some none)
    (z_len : PySem.W.nsIn K mainGlobals "len" = some none)
    (z_int : PySem.W.nsIn K mainGlobals "int" = some none)
    (z_isinstance : PySem.W.nsIn K mainGlobals "isinstance" = some none)
    (z_tuple : PySem.W.nsIn K mainGlobals "tuple" = some none)
    (z_range : PySem.W.nsIn K mainGlobals "range" = some none) :
    ∃ fd : FuncData, (∀ (s : Shared) (v : Value), BindsTo s fd ⟨[v], []⟩ [("script", v)]) ∧ ∀ base : Heap, K.In base → base.Ns mainGlobals mg → FnOk P w K mg base CX0 3 fa fd ["script"] (spLaw K) := by
  have e := hfa.symm.trans (PySem.W.mg_of X G a9)
  cases e
  have M_gcd := PySem.W.mg_of X G z_gcd
  have M_abs := PySem.W.mg_none_of X G z_abs
  have M_all := PySem.W.mg_none_of X G z_all
  have M_len := PySem.W.mg_none_of X G z_len
  have M_int := PySem.W.mg_none_of X G z_int
  have M_isinstance := PySem.W.mg_none_of X G z_isinstance
  have M_tuple := PySem.W.mg_none_of X G z_tuple
  have M_range := PySem.W.mg_none_of X G z_range
  have F1 := fun_mk (st := s_reduced) l1 c1 k1
  have b1 := F1.binds (ps := ["line"]) fun _ _ _ _ _ _ us hl => match us, hl with | [_], _ => rfl
  have C_reduced : ∀ base : Heap, Cal P w K mg base "reduced" 1 ["line"] S_reduced := fun base => ⟨f1, _, ok_reduced F1 M_gcd, PySem.W.mg_of X G a1, k1, b1⟩
  have F2 := fun_mk (st := s_floor_at) l2 c2 k2
  have b2 := F2.binds (ps := ["line", "place"]) fun _ _ _ _ _ _ us hl => match us, hl with | [_, _], _ => rfl
  have C_floor_at : ∀ base : Heap, Cal P w K mg base "floor_at" 1 ["line", "place"] S_floor_at := fun base => ⟨f2, _, ok_floor_at F2, PySem.W.mg_of X G a2, k2, b2⟩
  have F3 := fun_mk (st := s_ceiling_at) l3 c3 k3
  have b3 := F3.binds (ps := ["line", "place"]) fun _ _ _ _ _ _ us hl => match us, hl with | [_, _], _ => rfl
  have C_ceiling_at : ∀ base : Heap, Cal P w K mg base "ceiling_at" 1 ["line", "place"] S_ceiling_at := fun base => ⟨f3, _, ok_ceiling_at F3, PySem.W.mg_of X G a3, k3, b3⟩
  have F4 := fun_mk (st := s_is_near) l4 c4 k4
  have b4 := F4.binds (ps := ["line", "point", "error"]) fun _ _ _ _ _ _ us hl => match us, hl with | [_, _, _], _ => rfl
  have C_is_near : ∀ base : Heap, Cal P w K mg base "is_near" 1 ["line", "point", "error"] S_is_near := fun base => ⟨f4, _, ok_is_near F4 M_abs, PySem.W.mg_of X G a4, k4, b4⟩
  have F5 := fun_mk (st := s_line_fits) l5 c5 k5
  have b5 := F5.binds (ps := ["line", "points", "error"]) fun _ _ _ _ _ _ us hl => match us, hl with | [_, _, _], _ => rfl
  have C_line_fits : ∀ base : Heap, Cal P w K mg base "line_fits" 2 ["line", "points", "error"] S_line_fits := fun base => ⟨f5, _, ok_line_fits F5 (C_is_near base) M_all, PySem.W.mg_of X G a5, k5, b5⟩
  have F6 := fun_mk (st := s__law_cell) l6 c6 k6
  have b6 := F6.binds (ps := ["script", "k"]) fun _ _ _ _ _ _ us hl => match us, hl with | [_, _], _ => rfl
  have C__law_cell : ∀ base : Heap, Cal P w K mg base "_law_cell" 1 ["script", "k"] S__law_cell := fun base => ⟨f6, _, ok__law_cell F6 M_len, PySem.W.mg_of X G a6, k6, b6⟩
  have F7 := fun_mk (st := s__law_number) l7 c7 k7
  have b7 := F7.binds (ps := ["cell"]) fun _ _ _ _ _ _ us hl => match us, hl with | [_], _ => rfl
  have C__law_number : ∀ base : Heap, Cal P w K mg base "_law_number" 1 ["cell"] S__law_number := fun base => ⟨f7, _, ok__law_number F7 M_int, PySem.W.mg_of X G a7, k7, b7⟩
  have F8 := fun_mk (st := s__law_is_common) l8 c8 k8
  have b8 := F8.binds (ps := ["line", "divisor"]) fun _ _ _ _ _ _ us hl => match us, hl with | [_, _], _ => rfl
  have C__law_is_common : ∀ base : Heap, Cal P w K mg base "_law_is_common" 1 ["line", "divisor"] S__law_is_common := fun base => ⟨f8, _, ok__law_is_common F8 M_int M_all, PySem.W.mg_of X G a8, k8, b8⟩
  have F9 := fun_mk (st := s_law) l9 c9 k9
  exact ⟨PySem.W.fnOf "law" "law" (defArgs s_law) (defBody s_law) (defScope s_law) .none kV9 dc9 pm9 an9 cd9 ct9, fun s v => .of_eq rfl, fun base _ _ => (ok_law (P := P) (w := w) (base := base) F9 (C__law_cell base) (C__law_number base) M_abs M_int (C_reduced base) M_len M_isinstance M_tuple (C__law_is_common base) (C_floor_at base) (C_ceiling_at base) M_range (C_is_near base) (C_line_fits base) M_all).imp fun vs H Q E ⟨a, ns, e, hS, hl, k⟩ => ⟨H, [.scr ns], .bl true, by rw [e]; rfl, Same.refl _, by rw [e]; exact .cons (.scr hS) .nil, law_true ns hl, fun G' H' v x r => by cases r; exact k H'⟩⟩
end K01
open PySem PySem.W PyProof.Rows
set_option maxHeartbeats 0 in
theorem PySem.Challenge.cw_fewestlines_k01_lines_holds : PySem.Challenge.rw_fewestlines_k01_lines.Holds := by
  w_on; o_law; k_head; (case hw => w_witness2)
  k_fill
  refine L2.walk_of (l := PySem.Challenge.rw_fewestlines_k01_lines) (n := 63) (k := 3) (x := "script") (CX := fun _ => L2.CX0) (sp := fun w => K01.spLaw _) rfl (by decide) rfl ⟨rfl, by decide, by decide⟩ (fun w h Y => PySem.W.kIn_of Y) ?F (fun _ _ a ns hl _ hS => ⟨a, ns, rfl, hS, hl, fun _ => rfl⟩) (fun _ _ _ _ _ h => h)
  case F =>
    intro w mg fa h KX G hmg
    refine' K01.all_mk KX G hmg ?a1 ?l1 ?c1 ?k1 ?a2 ?l2 ?c2 ?k2 ?a3 ?l3 ?c3 ?k3 ?a4 ?l4 ?c4 ?k4 ?a5 ?l5 ?c5 ?k5 ?a6 ?l6 ?c6 ?k6 ?a7 ?l7 ?c7 ?k7 ?a8 ?l8 ?c8 ?k8 ?a9 ?l9 ?c9 ?k9 ?z_gcd ?z_abs ?z_all ?z_len ?z_int ?z_isinstance ?z_tuple ?z_range
    (case a1 => k_is); (case l1 => k_is); (case c1 => k_is); (case k1 => k_is); (case a2 => k_is); (case l2 => k_is); (case c2 => k_is); (case k2 => k_is); (case a3 => k_is); (case l3 => k_is); (case c3 => k_is); (case k3 => k_is); (case a4 => k_is); (case l4 => k_is); (case c4 => k_is); (case k4 => k_is); (case a5 => k_is); (case l5 => k_is); (case c5 => k_is); (case k5 => k_is); (case a6 => k_is); (case l6 => k_is); (case c6 => k_is); (case k6 => k_is); (case a7 => k_is); (case l7 => k_is); (case c7 => k_is); (case k7 => k_is); (case a8 => k_is); (case l8 => k_is); (case c8 => k_is); (case k8 => k_is); (case a9 => k_is); (case l9 => k_is); (case c9 => k_is); (case k9 => k_is); (case z_gcd => k_is); (case z_abs => k_is); (case z_all => k_is); (case z_len => k_is); (case z_int => k_is); (case z_isinstance => k_is); (case z_tuple => k_is); (case z_range => k_is)


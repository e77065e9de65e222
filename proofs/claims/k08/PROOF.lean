import PyProof.Rows.All
import Wide.All
import OpenK.AllK
import Wide.FinOn
import HandS.ForMost
import HandS.IsInst
import HandS.Gcd
import HandS.Wide
import HandS.Style
import HandS.SortInts
import HandS.RevRange
import HandS.Conv
import HandS.Lambda
import HandS.Exc
import HandS.Flow
import KE.GoesMore
import HandS.More
import HandS.OwnIter
import HandS.Iter
import KE.KDictZip
import PyProof.AssignAttr
import HandS.Deep
import HandS.Text
import HandS.FStr
import HandS.StrMore
import KE.IntTextLaws
import HandS.NoneIn
import HandS.WideBits
import PySem.Challenge.RW_fewestlines_k08_least_errors
set_option Elab.async false
set_option linter.all false
set_option maxRecDepth 100000
set_option maxHeartbeats 4000000
namespace DL
open PySem L2

/-! ### data, and how a value holds it -/
inductive D where
  | non | bl (b : Bool) | int (i : Int) | str (x : Str)
  | lst (xs : List D) | tup (xs : List D) | scr (ns : List Int)
  | obj (c : Nat) (vs : List D) | fn (a c : Addr) (q : Str) (vs : List V) (ds : List D) | dic (ks : List Key) (xs : List D) | lls (xs : List D) | exc (a dx : Addr) (n : Int)

/-- the program's classes: names, fields in the order in which __init__ sets them -/
def cTab : List (Str × List Str) := [("Cutting", ["pieces", "reasons"]), ("Level", ["stored", "error", "pieces"]), ("Index", ["stored", "_levels"]), ("Fitter", ["error", "count", "_strip"]), ("Strip", ["_upper", "_lower", "_greatest"]), ("Run", ["entries", "_index"]), ("FlatCutting", ["pieces", "reasons"]), ("SpanCutting", ["pieces", "reasons"]), ("LeastSlope", ["_chain", "bound"]), ("Bundle", ["count", "_first", "_least", "_greatest"]), ("Stream", ["error", "length", "_closed", "_start", "_bundle"]), ("Plan", ["pieces", "reaches", "prices"]), ("Coded", ["pieces", "corrections"]), ("Outline", ["error", "length", "pieces"]), ("Row", ["errors", "_strip"]), ("Reaches", ["_points", "_rows"]), ("Store", ["capacity", "error", "moves", "edits", "_buffer", "_runs"]), ("Starts", ["_row", "_waiting", "_passed"]), ("InvalidPaper", ["line"]), ("Cursor", ["_pairs"]), ("View", ["edits", "_values"]), ("PlainStore", ["_values"]), ("Paper", ["_lines", "number"]), ("Durable", ["store", "base", "journal", "synced", "_serial"]), ("Boxes", ["_bits", "_points", "_index"])]
def cN (c : Nat) : Str := (cTab.getD c ("", [])).1
def cF (c : Nat) : List Str := (cTab.getD c ("", [])).2
theorem sqt_same {K : PySem.W.Frag} {H H' : Hp} {a : Addr} {xs : List V} (e : Same H H') (h : SqT K H a xs) : SqT K H' a xs := by
  rcases h with (h | ⟨o, h⟩) | h
  · exact .inl (.inl (e _ _ h))
  · exact .inl (.inr ⟨o, e _ _ h⟩)
  · exact .inr h
mutual
inductive Rep (K : PySem.W.Frag) (mg : Str → Option Value) (G : Hp) : V → D → Prop
  | non : Rep K mg G .non .non
  | bl (b : Bool) : Rep K mg G (.bl b) (.bl b)
  | int (i : Int) : Rep K mg G (.int i) (.int i)
  | str (x : Str) : Rep K mg G (.str x) (.str x)
  | lst {a : Addr} {vs : List V} {xs : List D} (h : G a = some (.lst vs)) (r : RepL K mg G vs xs) : Rep K mg G (.ref a) (.lst xs)
  | tup {a : Addr} {vs : List V} {xs : List D} (h : SqT K G a vs) (r : RepL K mg G vs xs) : Rep K mg G (.ref a) (.tup xs)
  | scr {a : Addr} {ns : List Int} (h : SqL K G a (ns.map V.int)) : Rep K mg G (.ref a) (.scr ns)
  | obj {a C dx : Addr} {c : Nat} {vs : List V} {ds : List D} (hm : mg (cN c) = some (.ref C)) (h : G a = some (.ins C dx ((cF c).zip vs))) (r : RepL K mg G (vs.take ds.length) ds) : Rep K mg G (.ref a) (.obj c ds)
  | fn {a c : Addr} {q : Str} {vs : List V} {ds : List D} (hc : G c = some (LamX.CodeO c q)) (r : RepL K mg G vs ds) : Rep K mg G (.ref a) (.fn a c q vs ds)
  | dic {a : Addr} {ks : List Key} {vs : List V} {xs : List D} (h : G a = some (.dK (ks.zip vs))) (l : ks.length = vs.length) (r : RepL K mg G vs xs) : Rep K mg G (.ref a) (.dic ks xs)
  | lls {a : Addr} {vs : List V} {xs : List D} (h : G a = some (.lst vs)) (r : RepL K mg G vs xs) : Rep K mg G (.ref a) (.lls xs)
  | exc {a dx : Addr} {n : Int} (h : G dx = some (.xd [("line", .int n)])) : Rep K mg G (.ref a) (.exc a dx n)
inductive RepL (K : PySem.W.Frag) (mg : Str → Option Value) (G : Hp) : List V → List D → Prop
  | nil : RepL K mg G [] []
  | cons {v : V} {vs : List V} {d : D} {ds : List D} (h : Rep K mg G v d) (r : RepL K mg G vs ds) : RepL K mg G (v :: vs) (d :: ds)
end

section
variable {K : PySem.W.Frag} {mg : Str → Option Value} {G G' : Hp}
mutual
theorem Rep.mono (e : Same G G') : ∀ {v : V} {d : D}, Rep K mg G v d → Rep K mg G' v d
  | _, _, .non => .non
  | _, _, .bl b => .bl b
  | _, _, .int i => .int i
  | _, _, .str x => .str x
  | _, _, .lst h r => .lst (e _ _ h) (RepL.mono e r)
  | _, _, .tup h r => .tup (sqt_same e h) (RepL.mono e r)
  | _, _, .scr h => .scr (e.seq h)
  | _, _, .obj hm h r => .obj hm (e _ _ h) (RepL.mono e r)
  | _, _, .fn hc r => .fn (e _ _ hc) (RepL.mono e r)
  | _, _, .dic h l r => .dic (e _ _ h) l (RepL.mono e r)
  | _, _, .lls h r => .lls (e _ _ h) (RepL.mono e r)
  | _, _, .exc h => .exc (e _ _ h)
theorem RepL.mono (e : Same G G') : ∀ {v : List V} {d : List D}, RepL K mg G v d → RepL K mg G' v d
  | _, _, .nil => .nil
  | _, _, .cons h r => .cons (Rep.mono e h) (RepL.mono e r)
end
theorem RepL.length : ∀ {vs : List V} {ds : List D}, RepL K mg G vs ds → vs.length = ds.length
  | _, _, .nil => rfl
  | _, _, .cons _ r => by simp [RepL.length r]
theorem RepL.get : ∀ {vs : List V} {ds : List D} (i : Nat) {d : D}, RepL K mg G vs ds → ds[i]? = some d → ∃ v, vs[i]? = some v ∧ Rep K mg G v d
  | _, _, _, _, .nil, h => by simp at h
  | _, _, 0, _, .cons h _, e => by simp at e; subst e; exact ⟨_, rfl, h⟩
  | _, _, i + 1, _, .cons _ r, e => by
    obtain ⟨v, h1, h2⟩ := RepL.get i r (by simpa using e)
    exact ⟨v, by simpa using h1, h2⟩
theorem RepL.all {vs : List V} {ds : List D} (r : RepL K mg G vs ds) : RepL K mg G (vs.take ds.length) ds := by
  rw [← r.length, List.take_length]
  exact r
theorem Rep.objA {a C dx : Addr} {c : Nat} {vs : List V} {ds : List D} (hm : mg (cN c) = some (.ref C)) (h : G a = some (.ins C dx ((cF c).zip vs))) (r : RepL K mg G vs ds) : Rep K mg G (.ref a) (.obj c ds) := .obj hm h r.all
theorem RepL.getT {vs : List V} {ds : List D} (i : Nat) {d : D} (r : RepL K mg G (vs.take ds.length) ds) (h : ds[i]? = some d) : ∃ v, vs[i]? = some v ∧ Rep K mg G v d := by
  obtain ⟨v, e, q⟩ := r.get i h
  refine ⟨v, ?_, q⟩
  rw [List.getElem?_take] at e
  split at e
  · exact e
  · cases e
theorem RepL.append : ∀ {vs ws : List V} {ds es : List D}, RepL K mg G vs ds → RepL K mg G ws es → RepL K mg G (vs ++ ws) (ds ++ es)
  | _, _, _, _, .nil, s => s
  | _, _, _, _, .cons h r, s => .cons h (r.append s)
theorem RepL.take : ∀ (n : Nat) {vs : List V} {ds : List D}, RepL K mg G vs ds → RepL K mg G (vs.take n) (ds.take n)
  | 0, _, _, _ => by simp; exact .nil
  | _ + 1, _, _, .nil => .nil
  | n + 1, _, _, .cons h r => .cons h (r.take n)
theorem RepL.drop : ∀ (n : Nat) {vs : List V} {ds : List D}, RepL K mg G vs ds → RepL K mg G (vs.drop n) (ds.drop n)
  | 0, _, _, r => r
  | _ + 1, _, _, .nil => .nil
  | n + 1, _, _, .cons _ r => r.drop n
theorem RepL.set : ∀ (i : Nat) {vs : List V} {ds : List D} {v : V} {d : D}, RepL K mg G vs ds → Rep K mg G v d → RepL K mg G (vs.set i v) (ds.set i d)
  | _, _, _, _, _, .nil, _ => .nil
  | 0, _, _, _, _, .cons _ r, h => .cons h r
  | i + 1, _, _, _, _, .cons h r, q => .cons h (r.set i q)
theorem RepL.reverse : ∀ {vs : List V} {ds : List D}, RepL K mg G vs ds → RepL K mg G vs.reverse ds.reverse
  | _, _, .nil => .nil
  | _, _, .cons h r => by
    rw [List.reverse_cons, List.reverse_cons]
    exact r.reverse.append (.cons h .nil)
theorem RepL.ints : ∀ {ns : List Int} {vs : List V}, RepL K mg G vs (ns.map D.int) → vs = ns.map V.int
  | [], _, r => by cases r; rfl
  | n :: ns, _, r => by
    cases r with
    | cons h r => cases h; rw [RepL.ints r]; rfl
theorem RepL.ofInts : ∀ {ns : List Int}, RepL K mg G (ns.map V.int) (ns.map D.int)
  | [] => .nil
  | n :: ns => .cons (.int n) RepL.ofInts
theorem RepL.bls : ∀ {ns : List Bool} {vs : List V}, RepL K mg G vs (ns.map D.bl) → vs = ns.map V.bl
  | [], _, r => by cases r; rfl
  | n :: ns, _, r => by
    cases r with
    | cons h r => cases h; rw [RepL.bls r]; rfl
end

/-! what is looked at: a datum, or a list or an object of somebody's own -/
/-- no table of code objects -/
def NT (o : HO) : Prop := ∀ ps, o ≠ .tbl ps
def SameN (H H' : Hp) : Prop := ∀ a o, H a = some o → NT o → H' a = some o
theorem same_n {H H' : Hp} (e : Same H H') : SameN H H' := fun a o q _ => e a o q
theorem SameN.trans {H H1 H2 : Hp} (a : SameN H H1) (b : SameN H1 H2) : SameN H H2 := fun x o q n => b x o (a x o q n) n
mutual
inductive RepB (K : PySem.W.Frag) (mg : Str → Option Value) (G H : Hp) : V → D → Prop
  | sh {v : V} {d : D} (h : Rep K mg G v d) : RepB K mg G H v d
  | li {p : Addr} {vs : List V} {xs : List D} (h : H p = some (.lst vs)) (r : RepL K mg G vs xs) : RepB K mg G H (.ref p) (.lst xs)
  | obj {p C dx : Addr} {c : Nat} {vs : List V} {ds : List D} (hm : mg (cN c) = some (.ref C)) (h : H p = some (.ins C dx ((cF c).zip vs))) (r : RepBL K mg G H (vs.take ds.length) ds) : RepB K mg G H (.ref p) (.obj c ds)
  | dic {p : Addr} {ks : List Key} {vs : List V} {xs : List D} (h : H p = some (.dK (ks.zip vs))) (l : ks.length = vs.length) (r : RepL K mg G vs xs) : RepB K mg G H (.ref p) (.dic ks xs)
  | lls {p : Addr} {vs : List V} {xs : List D} (h : H p = some (.lst vs)) (r : RepBL K mg G H vs xs) : RepB K mg G H (.ref p) (.lls xs)
inductive RepBL (K : PySem.W.Frag) (mg : Str → Option Value) (G H : Hp) : List V → List D → Prop
  | nil : RepBL K mg G H [] []
  | cons {v : V} {vs : List V} {d : D} {ds : List D} (h : RepB K mg G H v d) (r : RepBL K mg G H vs ds) : RepBL K mg G H (v :: vs) (d :: ds)
end
section
variable {K : PySem.W.Frag} {mg : Str → Option Value} {G G' H H' : Hp}
mutual
theorem RepB.mono (g : Same G G') (k : SameN H H') : ∀ {v : V} {d : D}, RepB K mg G H v d → RepB K mg G' H' v d
  | _, _, .sh h => .sh (h.mono g)
  | _, _, .li h r => .li (k _ _ h nofun) (r.mono g)
  | _, _, .obj hm h r => .obj hm (k _ _ h nofun) (RepBL.mono g k r)
  | _, _, .dic h l r => .dic (k _ _ h nofun) l (r.mono g)
  | _, _, .lls h r => .lls (k _ _ h nofun) (RepBL.mono g k r)
theorem RepBL.mono (g : Same G G') (k : SameN H H') : ∀ {v : List V} {d : List D}, RepBL K mg G H v d → RepBL K mg G' H' v d
  | _, _, .nil => .nil
  | _, _, .cons h r => .cons (RepB.mono g k h) (RepBL.mono g k r)
end
theorem RepBL.length : ∀ {vs : List V} {ds : List D}, RepBL K mg G H vs ds → vs.length = ds.length
  | _, _, .nil => rfl
  | _, _, .cons _ r => by simp [RepBL.length r]
theorem RepBL.get : ∀ {vs : List V} {ds : List D} (i : Nat) {d : D}, RepBL K mg G H vs ds → ds[i]? = some d → ∃ v, vs[i]? = some v ∧ RepB K mg G H v d
  | _, _, _, _, .nil, h => by simp at h
  | _, _, 0, _, .cons h _, e => by simp at e; subst e; exact ⟨_, rfl, h⟩
  | _, _, i + 1, _, .cons _ r, e => by
    obtain ⟨v, h1, h2⟩ := RepBL.get i r (by simpa using e)
    exact ⟨v, by simpa using h1, h2⟩
theorem RepBL.all {vs : List V} {ds : List D} (r : RepBL K mg G H vs ds) : RepBL K mg G H (vs.take ds.length) ds := by
  rw [← r.length, List.take_length]
  exact r
theorem RepB.objA {p C dx : Addr} {c : Nat} {vs : List V} {ds : List D} (hm : mg (cN c) = some (.ref C)) (h : H p = some (.ins C dx ((cF c).zip vs))) (r : RepBL K mg G H vs ds) : RepB K mg G H (.ref p) (.obj c ds) := .obj hm h r.all
theorem RepBL.getT {vs : List V} {ds : List D} (i : Nat) {d : D} (r : RepBL K mg G H (vs.take ds.length) ds) (h : ds[i]? = some d) : ∃ v, vs[i]? = some v ∧ RepB K mg G H v d := by
  obtain ⟨v, e, q⟩ := r.get i h
  refine ⟨v, ?_, q⟩
  rw [List.getElem?_take] at e
  split at e
  · exact e
  · cases e
theorem RepL.bo : ∀ {vs : List V} {ds : List D}, RepL K mg G vs ds → RepBL K mg G H vs ds
  | _, _, .nil => .nil
  | _, _, .cons h r => .cons (.sh h) r.bo
end

theorem nn {H H' : Hp} (e : Same H H') {a : Addr} (h : H a ≠ Option.none) : H' a ≠ Option.none := by
  cases q : H a with
  | none => exact absurd q h
  | some o => rw [e a o q]; simp
theorem same_at {H H' : Hp} (e : Same H H') {a : Addr} (h : H a ≠ Option.none) : H' a = H a := by
  cases q : H a with
  | none => exact absurd q h
  | some o => rw [e a o q]
/-- a list, an instance, a dict -/
def LID (o : HO) : Prop := (∃ vs, o = .lst vs) ∨ (∃ C dx fs, o = .ins C dx fs) ∨ ∃ kvs, o = .dK kvs
/-- what is known of tables: it outlasts all that leaves them as they are -/
structure TabI where
  tz : Addr → Prop
  t : Hp → Hp → Prop
  keep : ∀ {G H G' H' : Hp}, t G H → Same G G' → (∀ a, tz a → H' a = H a) → (∀ a, tz a → G a = Option.none → G' a = Option.none) → t G' H'
  live : ∀ {G H : Hp}, t G H → ∀ a, tz a → H a ≠ Option.none ∧ G a = Option.none
  tbl : ∀ {G H : Hp}, t G H → ∀ a, tz a → ∃ ps, H a = some (.tbl ps)
  less : ∀ {G G' H : Hp}, t G H → (∀ a o, G' a = some o → G a = some o) → (∀ a o, G a = some o → G' a = some o ∨ LID o) → t G' H
def TabI.none : TabI := ⟨fun _ => False, fun _ _ => True, fun _ _ _ _ => trivial, fun _ _ h => h.elim, fun _ _ h => h.elim, fun _ _ _ => trivial⟩
/-- the tables that a program is about -/
class TabCtx where
  ti : TabI
instance (priority := low) TabCtx.none : TabCtx := ⟨TabI.none⟩
variable [TC : TabCtx]
/-! ### how heaps grow: G what is known and stays, H all that is tracked -/
structure Ext [TC : TabCtx] (G H G' H' : Hp) : Prop where
  gg : Same G G'
  hh : SameN H H'
  gh : Same G' H'
  new : ∀ a, G' a ≠ none → G a ≠ none ∨ H a = none
  hn : ∀ a, H a ≠ none → H' a ≠ none
  tb : TC.ti.t G H → TC.ti.t G' H'
theorem Ext.hf {G H G' H' : Hp} (e : Ext G H G' H') {a : Addr} (h : H' a = none) : H a = none := by
  cases q : H a with
  | none => rfl
  | some o => exact absurd h (e.hn a (by rw [q]; simp))
theorem Ext.same {G H G' H' : Hp} (gg : Same G G') (hh : Same H H') (gh : Same G' H') (new : ∀ a, G' a ≠ none → G a ≠ none ∨ H a = none) : Ext G H G' H' :=
  ⟨gg, same_n hh, gh, new, fun _ h => nn hh h, fun t => TC.ti.keep t gg (fun a h => same_at hh (TC.ti.live t a h).1) (fun a h g => by
    cases q : G' a with
    | none => rfl
    | some u =>
      rcases new a (by rw [q]; simp) with z | z
      · exact absurd g z
      · exact absurd z (TC.ti.live t a h).1)⟩
theorem Ext.refl {G H : Hp} (h : Same G H) : Ext G H G H := Ext.same (Same.refl _) (Same.refl _) h fun _ h => .inl h
theorem Ext.trans {G H G1 H1 G2 H2 : Hp} (a : Ext G H G1 H1) (b : Ext G1 H1 G2 H2) : Ext G H G2 H2 :=
  ⟨a.gg.trans b.gg, a.hh.trans b.hh, b.gh, fun x h => by
    rcases b.new x h with h | h
    · exact a.new x h
    · exact .inr (a.hf h), fun x h => b.hn x (a.hn x h), fun t => b.tb (a.tb t)⟩
theorem same_upd {H : Hp} {p : Addr} {o : HO} (h : H p = none) : Same H (upd H p o) := fun b x e => by
  rw [upd_ne (ne_of_none e h)]
  exact e
theorem same_upd2 {G H : Hp} {p : Addr} {o : HO} (e : Same G H) : Same (upd G p o) (upd H p o) := fun b x h => by
  by_cases q : b = p
  · subst q; rw [upd_same] at h ⊢; exact h
  · rw [upd_ne q] at h ⊢; exact e _ _ h
/-- a new object, known from now on -/
theorem Ext.new1 {G H : Hp} {p : Addr} {o : HO} (gh : Same G H) (h : H p = none) : Ext G H (upd G p o) (upd H p o) :=
  Ext.same (same_upd (gh.free h)) (same_upd h) (same_upd2 gh) fun a q => by
    by_cases e : a = p
    · subst e; exact .inr h
    · rw [upd_ne e] at q; exact .inl q
/-- a new object that is kept for oneself -/
theorem Ext.own1 {G H : Hp} {p : Addr} {o : HO} (gh : Same G H) (h : H p = none) : Ext G H G (upd H p o) :=
  Ext.same (Same.refl _) (same_upd h) (fun a x q => by rw [upd_ne (ne_of_none (gh a x q) h)]; exact gh a x q) fun a q => .inl q

/-- a new object of one's own is given away -/
theorem Ext.frz1 {G H G1 H1 : Hp} {p : Addr} {o : HO} (x : Ext G H G1 H1) (hp : H p = none) (gp : G1 p = none) (h : H1 p = some o) : Ext G H (upd G1 p o) H1 :=
  ⟨x.gg.trans (same_upd gp), x.hh, fun a u q => by
    by_cases z : a = p
    · subst z; rw [upd_same] at q; cases q; exact h
    · rw [upd_ne z] at q; exact x.gh _ _ q, fun a q => by
    by_cases z : a = p
    · subst z; exact .inr hp
    · rw [upd_ne z] at q; exact x.new a q, x.hn, fun t => TC.ti.keep (x.tb t) (same_upd gp) (fun _ _ => rfl) (fun a h g => by
      rw [upd_ne (fun z => (TC.ti.live t a h).1 (by rw [z]; exact hp))]
      exact g)⟩

/-! ### slots -/
inductive Sl where
  | no | sh (d : D) | ow (xs : List D) | dk (ks : List Key) (xs : List D) | ob (c : Nat) (fs : List Sl) | bo (d : D) | ol (ss : List Sl) | od (ks : List Key) (ss : List Sl)
/-- a slot that may be written at its places -/
def SlP (s : Sl) : Prop := s ≠ .no ∧ ∀ d, s ≠ .bo d
abbrev DEnv := List Sl

/-! a value that holds what a slot says; F: the objects that are one's own in it (or some more) -/
mutual
inductive Hd (K : PySem.W.Frag) (mg : Str → Option Value) (G H : Hp) : V → (Addr → Prop) → Sl → Prop
  | sh {v : V} {d : D} {F : Addr → Prop} (h : Rep K mg G v d) : Hd K mg G H v F (.sh d)
  | ow {p : Addr} {vs : List V} {xs : List D} {F : Addr → Prop} (f : F p) (h : H p = some (.lst vs)) (r : RepL K mg G vs xs) : Hd K mg G H (.ref p) F (.ow xs)
  | dk {p : Addr} {ks : List Key} {vs : List V} {xs : List D} {F : Addr → Prop} (f : F p) (h : H p = some (.dK (ks.zip vs))) (l : ks.length = vs.length) (r : RepL K mg G vs xs) : Hd K mg G H (.ref p) F (.dk ks xs)
  | ob {p C dx : Addr} {c : Nat} {vs : List V} {fs : List Sl} {F F' : Addr → Prop} (f : F p) (hm : mg (cN c) = some (.ref C)) (h : H p = some (.ins C dx ((cF c).zip vs))) (n : ¬ F' p) (s : ∀ a, F' a → F a) (r : HdL K mg G H vs F' fs) : Hd K mg G H (.ref p) F (.ob c fs)
  | ol {p : Addr} {vs : List V} {ss : List Sl} {F F' : Addr → Prop} (f : F p) (h : H p = some (.lst vs)) (n : ¬ F' p) (s : ∀ a, F' a → F a) (r : HdL K mg G H vs F' ss) : Hd K mg G H (.ref p) F (.ol ss)
  | od {p : Addr} {ks : List Key} {vs : List V} {ss : List Sl} {F F' : Addr → Prop} (f : F p) (h : H p = some (.dK (ks.zip vs))) (l : ks.length = vs.length) (n : ¬ F' p) (s : ∀ a, F' a → F a) (r : HdL K mg G H vs F' ss) : Hd K mg G H (.ref p) F (.od ks ss)
inductive HdL (K : PySem.W.Frag) (mg : Str → Option Value) (G H : Hp) : List V → (Addr → Prop) → List Sl → Prop
  | nil {F : Addr → Prop} : HdL K mg G H [] F []
  | cons {v : V} {vs : List V} {s : Sl} {ss : List Sl} {F F1 F2 : Addr → Prop} (h : Hd K mg G H v F1 s) (r : HdL K mg G H vs F2 ss) (s1 : ∀ a, F1 a → F a) (s2 : ∀ a, F2 a → F a) (d : ∀ a, F1 a → ¬ F2 a) : HdL K mg G H (v :: vs) F (s :: ss)
end
section
variable {K : PySem.W.Frag} {mg : Str → Option Value} {G G' H H' : Hp}
mutual
theorem Hd.mono (g : Same G G') : ∀ {v : V} {F : Addr → Prop} {s : Sl}, (∀ a o, F a → H a = some o → NT o → H' a = some o) → Hd K mg G H v F s → Hd K mg G' H' v F s
  | _, _, _, _, .sh h => .sh (h.mono g)
  | _, _, _, e, .ow f h r => .ow f (e _ _ f h nofun) (r.mono g)
  | _, _, _, e, .dk f h l r => .dk f (e _ _ f h nofun) l (r.mono g)
  | _, _, _, e, .ob f hm h n s r => .ob f hm (e _ _ f h nofun) n s (HdL.mono g (fun a o fa => e a o (s a fa)) r)
  | _, _, _, e, .ol f h n s r => .ol f (e _ _ f h nofun) n s (HdL.mono g (fun a o fa => e a o (s a fa)) r)
  | _, _, _, e, .od f h l n s r => .od f (e _ _ f h nofun) l n s (HdL.mono g (fun a o fa => e a o (s a fa)) r)
theorem HdL.mono (g : Same G G') : ∀ {v : List V} {F : Addr → Prop} {s : List Sl}, (∀ a o, F a → H a = some o → NT o → H' a = some o) → HdL K mg G H v F s → HdL K mg G' H' v F s
  | _, _, _, _, .nil => .nil
  | _, _, _, e, .cons h r s1 s2 d => .cons (Hd.mono g (fun a o fa => e a o (s1 a fa)) h) (HdL.mono g (fun a o fa => e a o (s2 a fa)) r) s1 s2 d
end
theorem Hd.wide {v : V} {F F' : Addr → Prop} {s : Sl} (w : ∀ a, F a → F' a) (h : Hd K mg G H v F s) : Hd K mg G H v F' s := by
  cases h with
  | sh h => exact .sh h
  | ow f h r => exact .ow (w _ f) h r
  | dk f h l r => exact .dk (w _ f) h l r
  | ob f hm h n s r => exact .ob (w _ f) hm h n (fun a x => w a (s a x)) r
  | ol f h n s r => exact .ol (w _ f) h n (fun a x => w a (s a x)) r
  | od f h l n s r => exact .od (w _ f) h l n (fun a x => w a (s a x)) r
theorem HdL.wide {vs : List V} {F F' : Addr → Prop} {ss : List Sl} (w : ∀ a, F a → F' a) (h : HdL K mg G H vs F ss) : HdL K mg G H vs F' ss := by
  cases h with
  | nil => exact .nil
  | cons h r s1 s2 d => exact .cons h r (fun a x => w a (s1 a x)) (fun a x => w a (s2 a x)) d
theorem HdL.wide2 {vs : List V} {F F' : Addr → Prop} {ss : List Sl} (w : ∀ a, F a → F' a) (h : HdL K mg G H vs F ss) : HdL K mg G H vs F' ss := h.wide w
theorem Hd.mono2 {v : V} {F F' : Addr → Prop} {s : Sl} (g : Same G G') (k : ∀ a o, F a → H a = some o → NT o → H' a = some o) (w : ∀ a, F a → F' a) (h : Hd K mg G H v F s) : Hd K mg G' H' v F' s := (h.mono g k).wide w
theorem HdL.length : ∀ {vs : List V} {F : Addr → Prop} {ss : List Sl}, HdL K mg G H vs F ss → vs.length = ss.length
  | _, _, _, .nil => rfl
  | _, _, _, .cons _ r _ _ _ => by simp [HdL.length r]
end

def SlOk (K : PySem.W.Frag) (mg : Str → Option Value) (H0 G H : Hp) (F : Addr → Prop) (o : Option (Option V)) (s : Sl) : Prop := s = .no ∨ (∃ v, o = some (some v) ∧ Hd K mg G H v F s) ∨ ∃ v d, s = .bo d ∧ o = some (some v) ∧ RepB K mg G H0 v d

def isOwn : Sl → Bool
  | .ow _ => true
  | .dk _ _ => true
  | .ob _ _ => true
  | .ol _ => true
  | .od _ _ => true
  | _ => false
/-- a slot whose value stays, if it is the first one -/
def keepS : Sl → Bool
  | .bo _ => true
  | s => isOwn s
theorem keepS_own {s : Sl} (h : isOwn s = true) : keepS s = true := by cases s <;> first | exact h | rfl
theorem keepS_hd {K : PySem.W.Frag} {mg : Str → Option Value} {G H : Hp} {v : V} {F : Addr → Prop} {s : Sl} (h : Hd K mg G H v F s) (k : keepS s = true) : isOwn s = true := by cases h <;> first | exact k | rfl
/-- what belongs to others; the value that the first slot keeps as long as it is one's own -/
structure Zs where
  z : Addr → Prop
  a : Option V
  t : TabI
structure Rel [TC : TabCtx] (K : PySem.W.Frag) (mg : Str → Option Value) (G0 H0 : Hp) (Z : Zs) (Γ : DEnv) (σ : St) (G H : Hp) : Prop where
  len : σ.length = Γ.length
  gh : Same G H
  hh : SameN H0 H
  gg : Same G0 G
  new : ∀ a, G a ≠ none → G0 a ≠ none ∨ H0 a = none
  zz : ∀ a, Z.z a → H a ≠ none
  an : ∀ v s, Z.a = some v → Γ[0]? = some s → keepS s = true → σ[0]? = some (some v)
  tb : Z.t.t G H
  tz : ∀ a, Z.t.tz a → Z.z a
  tc : Z.t = TC.ti
  hn : ∀ a, H0 a ≠ Option.none → H a ≠ Option.none
  own : ∃ own : Nat → Addr → Prop, (∀ i a, own i a → G a = none ∧ H0 a = none ∧ H a ≠ none ∧ ¬ Z.z a) ∧ (∀ i j a, own i a → own j a → i = j) ∧ ∀ (i : Nat) s, Γ[i]? = some s → SlOk K mg H0 G H (own i) (σ[i]?) s

section
variable {K : PySem.W.Frag} {mg : Str → Option Value} {G0 H0 G H G' H' : Hp} {Z : Zs} {Γ : DEnv} {σ : St}
theorem Ext.none {a : Addr} (e : Ext G H G' H') (h1 : G a = Option.none) (h2 : H a ≠ Option.none) : G' a = Option.none := by
  cases q : G' a with
  | none => rfl
  | some u =>
    rcases e.new a (by rw [q]; simp) with z | z
    · exact absurd h1 z
    · exact absurd z h2
theorem SlOk.ext {F : Addr → Prop} {o : Option (Option V)} {s : Sl} (e : Ext G H G' H') (h : SlOk K mg H0 G H F o s) : SlOk K mg H0 G' H' F o s := by
  rcases h with h | ⟨v, h1, h2⟩ | ⟨v, d, h0, h1, h2⟩
  · exact .inl h
  · exact .inr (.inl ⟨v, h1, h2.mono e.gg fun a o _ q n => e.hh a o q n⟩)
  · exact .inr (.inr ⟨v, d, h0, h1, h2.mono e.gg (same_n (Same.refl _))⟩)
theorem Rel.hf (r : Rel K mg G0 H0 Z Γ σ G H) {a : Addr} (h : H a = Option.none) : H0 a = Option.none := by
  cases q : H0 a with
  | none => rfl
  | some o => exact absurd h (r.hn a (by rw [q]; simp))
theorem Rel.tbx (r : Rel K mg G0 H0 Z Γ σ G H) (e : TC.ti.t G H → TC.ti.t G' H') : Z.t.t G' H' := by
  rw [r.tc]
  exact e (by rw [← r.tc]; exact r.tb)
theorem Rel.tbc (r : Rel K mg G0 H0 Z Γ σ G H) : TC.ti.t G H := by rw [← r.tc]; exact r.tb
theorem Rel.ext (r : Rel K mg G0 H0 Z Γ σ G H) (e : Ext G H G' H') : Rel K mg G0 H0 Z Γ σ G' H' := by
  obtain ⟨own, o1, o2, o3⟩ := r.own
  exact ⟨r.len, e.gh, r.hh.trans e.hh, r.gg.trans e.gg, fun a q => by
    rcases e.new a q with z | z
    · exact r.new a z
    · exact .inr (r.hf z), fun a z => e.hn _ (r.zz a z), r.an, r.tbx e.tb, r.tz, r.tc, fun a h => e.hn a (r.hn a h), own, fun i a h => by
      obtain ⟨h1, h2, h3, h4⟩ := o1 i a h
      exact ⟨e.none h1 h3, h2, e.hn _ h3, h4⟩, o2, fun i s h => (o3 i s h).ext e⟩
theorem set_get {α : Type} {l : List α} {i j : Nat} {x y : α} (h : (l.set i x)[j]? = some y) : (i = j ∧ i < l.length ∧ y = x) ∨ (i ≠ j ∧ l[j]? = some y) := by
  by_cases e : i = j
  · subst e
    rw [List.getElem?_set] at h
    by_cases z : i < l.length
    · simp [z] at h; exact .inl ⟨rfl, z, h.symm⟩
    · simp [z] at h
  · rw [List.getElem?_set_ne e] at h
    exact .inr ⟨e, h⟩
/-- a slot gets something that was made anew -/
theorem Rel.setNew (r : Rel K mg G0 H0 Z Γ σ G H) (e : Ext G H G' H') (i : Nat) {v : V} {s : Sl} {F : Addr → Prop} (h : Hd K mg G' H' v F s) (hF : ∀ a, F a → G' a = none ∧ H a = none ∧ H' a ≠ none) (hi : i ≠ 0 ∨ isOwn s = false) : Rel K mg G0 H0 Z (Γ.set i s) (σ.set i (some v)) G' H' := by
  obtain ⟨own, o1, o2, o3⟩ := r.own
  have r' := r.ext e
  refine ⟨by simpa using r.len, r'.gh, r'.hh, r'.gg, r'.new, r'.zz, fun w s' e1 e2 e3 => ?_, r'.tb, r'.tz, r'.tc, r'.hn, fun j a => if j = i then F a else own j a, fun j a q => ?_, fun j k a q1 q2 => ?_, fun j s' q => ?_⟩
  · rcases set_get e2 with ⟨ei, hl, rfl⟩ | ⟨ei, q⟩
    · rcases hi with h' | h'
      · exact absurd ei h'
      · rw [keepS_hd h e3] at h'; cases h'
    · rw [List.getElem?_set_ne ei]
      exact r.an w s' e1 q e3
  · by_cases ei : j = i
    · simp only [ei, if_true] at q
      obtain ⟨h1, h2, h3⟩ := hF a q
      exact ⟨h1, r.hf h2, h3, fun z => r.zz a z h2⟩
    · simp only [ei, if_false] at q
      obtain ⟨h1, h2, h3, h4⟩ := o1 j a q
      exact ⟨e.none h1 h3, h2, e.hn _ h3, h4⟩
  · by_cases e1 : j = i
    · by_cases e2 : k = i
      · rw [e1, e2]
      · simp only [e1, e2, if_true, if_false] at q1 q2
        exact absurd (hF a q1).2.1 (o1 k a q2).2.2.1
    · by_cases e2 : k = i
      · simp only [e1, e2, if_true, if_false] at q1 q2
        exact absurd (hF a q2).2.1 (o1 j a q1).2.2.1
      · simp only [e1, e2, if_false] at q1 q2
        exact o2 j k a q1 q2
  · rcases set_get q with ⟨ei, hl, rfl⟩ | ⟨ei, q⟩
    · subst ei
      refine .inr (.inl ⟨v, by simp [List.getElem?_set, r.len, hl], ?_⟩)
      simp only [if_true]
      exact h
    · rw [List.getElem?_set_ne ei]
      simp only [Ne.symm ei, if_false]
      exact (o3 j s' q).ext e
/-- a slot gets a datum -/
theorem Rel.set (r : Rel K mg G0 H0 Z Γ σ G H) (i : Nat) {v : V} {d : D} (h : Rep K mg G v d) : Rel K mg G0 H0 Z (Γ.set i (.sh d)) (σ.set i (some v)) G H :=
  r.setNew (Ext.refl r.gh) i (F := fun _ => False) (.sh h) (fun _ z => z.elim) (.inr rfl)
/-- slots forgotten -/
theorem Rel.drop (r : Rel K mg G0 H0 Z Γ σ G H) (i : Nat) : Rel K mg G0 H0 Z (Γ.set i .no) (σ.set i none) G H := by
  obtain ⟨own, o1, o2, o3⟩ := r.own
  refine ⟨by simpa using r.len, r.gh, r.hh, r.gg, r.new, r.zz, fun w s' e1 e2 e3 => ?_, r.tb, r.tz, r.tc, r.hn, own, o1, o2, fun j s q => ?_⟩
  · rcases set_get e2 with ⟨ei, hl, rfl⟩ | ⟨ei, q⟩
    · cases e3
    · rw [List.getElem?_set_ne ei]
      exact r.an w s' e1 q e3
  rcases set_get q with ⟨ei, hl, rfl⟩ | ⟨ei, q⟩
  · exact .inl rfl
  · rw [List.getElem?_set_ne ei]
    exact o3 j s q
def wipeE (Γ : DEnv) : List Nat → DEnv
  | [] => Γ
  | v :: vs => (wipeE Γ vs).set v .no
theorem Rel.wipe (r : Rel K mg G0 H0 Z Γ σ G H) : ∀ vs : List Nat, Rel K mg G0 H0 Z (wipeE Γ vs) (L2.wipe σ vs) G H
  | [] => r
  | v :: vs => (r.wipe vs).drop v
/-- an object of somebody else is written -/
theorem Rel.aside (r : Rel K mg G0 H0 Z Γ σ G H) {p : Addr} {o : HO} (hz : Z.z p) (ht : ¬ Z.t.tz p) (hg : G p = none) (h0 : H0 p = none) : Rel K mg G0 H0 Z Γ σ G (upd H p o) := by
  obtain ⟨own, o1, o2, o3⟩ := r.own
  have up : ∀ a, H a ≠ Option.none → upd H p o a ≠ Option.none := fun a q => by
    by_cases e : a = p
    · subst e; rw [upd_same]; simp
    · rw [upd_ne e]; exact q
  refine ⟨r.len, fun a u q => ?_, fun a u q n => ?_, r.gg, r.new, fun a z => up a (r.zz a z), r.an, Z.t.keep r.tb (Same.refl _) (fun a h => upd_ne (fun e => ht (by rw [← e]; exact h))) (fun _ _ g => g), r.tz, r.tc, fun a h => up a (r.hn a h), own, fun i a q => ?_, o2, fun j s q => ?_⟩
  · rw [upd_ne (ne_of_none q hg)]; exact r.gh _ _ q
  · rw [upd_ne (ne_of_none q h0)]; exact r.hh _ _ q n
  · obtain ⟨h1, h2, h3, h4⟩ := o1 i a q
    exact ⟨h1, h2, up a h3, h4⟩
  · rcases o3 j s q with h | ⟨v, h1, h2⟩ | h
    · exact .inl h
    · refine .inr (.inl ⟨v, h1, h2.mono (Same.refl _) fun a u fa q _ => ?_⟩)
      rw [upd_ne]
      · exact q
      · intro e; subst e; exact (o1 j a fa).2.2.2 hz
    · exact .inr (.inr h)
/-- an object that is new becomes somebody else's -/
theorem Rel.zput (r : Rel K mg G0 H0 Z Γ σ G H) {p : Addr} {o : HO} (hp : H p = none) : Rel K mg G0 H0 ⟨fun a => Z.z a ∨ a = p, Z.a, Z.t⟩ Γ σ G (upd H p o) := by
  obtain ⟨own, o1, o2, o3⟩ := r.own
  have x := Ext.own1 (o := o) r.gh hp
  have r' := r.ext x
  refine ⟨r'.len, r'.gh, r'.hh, r'.gg, r'.new, fun a z => ?_, r.an, r'.tb, fun a h => .inl (r.tz a h), r.tc, r'.hn, own, fun i a q => ?_, o2, fun j s q => (o3 j s q).ext x⟩
  · rcases z with z | z
    · exact r'.zz a z
    · subst z; rw [upd_same]; simp
  · obtain ⟨h1, h2, h3, h4⟩ := o1 i a q
    exact ⟨h1, h2, x.hn _ h3, fun z => by
      rcases z with z | z
      · exact h4 z
      · subst z; exact h3 hp⟩
/-! ### places: a slot, or a field of a field .. of it (the last field first) -/
abbrev Pth := List (Nat × Nat)
def getR : Pth → Sl → Option Sl
  | [], s => some s
  | (c, j) :: r, s => match getR r s with
    | some (.ob c' fs) => if c' = c then fs[j]? else none
    | some (.ol ss) => if c = 1000 then ss[j]? else none
    | _ => none
def setR : Pth → Sl → Sl → Option Sl
  | [], s', _ => some s'
  | (c, j) :: r, s', s => match getR r s with
    | some (.ob c' fs) => if c' = c ∧ j < fs.length then setR r (.ob c (fs.set j s')) s else none
    | some (.ol ss) => if c = 1000 ∧ j < ss.length then setR r (.ol (ss.set j s')) s else none
    | _ => none
/-- a field's part, and what a change of it makes -/
theorem HdL.upd : ∀ {vs : List V} {F : Addr → Prop} {ss : List Sl} (j : Nat) {s : Sl}, HdL K mg G H vs F ss → ss[j]? = some s → ∃ v F1, vs[j]? = some v ∧ Hd K mg G H v F1 s ∧ (∀ a, F1 a → F a) ∧
    ∀ (G' H' : Hp) (F1' : Addr → Prop) (s' : Sl), Same G G' → (∀ a o, F a → ¬ F1 a → H a = some o → NT o → H' a = some o) → Hd K mg G' H' v F1' s' → (∀ a, F1' a → F1 a ∨ ¬ F a) → HdL K mg G' H' vs (fun a => (F a ∧ ¬ F1 a) ∨ F1' a) (ss.set j s')
  | _, _, _, _, _, .nil, h => by simp at h
  | _, _, _, 0, _, .cons (v := v) (vs := vs) (ss := ss) (F := F) (F1 := F1) (F2 := F2) h r s1 s2 d, e => by
    simp at e; subst e
    refine ⟨v, F1, rfl, h, s1, fun G' H' F1' s' sg k h' nf => ?_⟩
    refine .cons (F1 := F1') (F2 := fun a => F2 a ∧ ¬ F1' a) h' (HdL.wide2 (fun a x => ⟨x, fun y => ?_⟩) (HdL.mono sg (fun a o fa q n => k a o (s2 a fa) (fun y => d a y fa) q n) r)) (fun a x => .inr x) (fun a x => ?_) fun a x y => y.2 x
    · rcases nf a y with z | z
      · exact d a z x
      · exact z (s2 a x)
    · exact .inl ⟨s2 a x.1, fun y => d a y x.1⟩
  | _, _, _, j + 1, s, .cons (v := v0) (vs := vs) (ss := ss) (F := F) (F1 := Fh) (F2 := Ft) h r s1 s2 d, e => by
    obtain ⟨v, F1, e1, e2, e3, k'⟩ := HdL.upd j r (by simpa using e)
    refine ⟨v, F1, by simpa using e1, e2, fun a x => s2 a (e3 a x), fun G' H' F1' s' sg k h' nf => ?_⟩
    have t := k' G' H' F1' s' sg (fun a o fa nfa q n => k a o (s2 a fa) nfa q n) h' fun a x => by
      rcases nf a x with z | z
      · exact .inl z
      · exact .inr fun y => z (s2 a y)
    refine .cons (F1 := fun a => Fh a ∧ ¬ F1' a) (h.mono2 sg (fun a o fa q n => k a o (s1 a fa) (fun y => d a fa (e3 a y)) q n) fun a x => ⟨x, fun y => ?_⟩) t (fun a x => .inl ⟨s1 a x.1, fun y => d a x.1 (e3 a y)⟩) (fun a x => ?_) fun a x y => ?_
    · rcases nf a y with z | z
      · exact d a x (e3 a z)
      · exact z (s1 a x)
    · rcases x with x | x
      · exact .inl ⟨s2 a x.1, x.2⟩
      · exact .inr x
    · rcases y with y | y
      · exact d a x.1 y.1
      · exact x.2 y
/-- a place's part, and what a change of it makes -/
theorem Hd.upd : ∀ (rp : Pth) {v : V} {F : Addr → Prop} {s s1 : Sl}, Hd K mg G H v F s → getR rp s = some s1 → ∃ v1 F1, (rp = [] → v1 = v) ∧ Hd K mg G H v1 F1 s1 ∧ (∀ a, F1 a → F a) ∧
    ∀ (G' H' : Hp) (F1' : Addr → Prop) (s1' s' : Sl), Same G G' → (∀ a o, F a → ¬ F1 a → H a = some o → NT o → H' a = some o) → Hd K mg G' H' v1 F1' s1' → (∀ a, F1' a → F1 a ∨ ¬ F a) → setR rp s1' s = some s' →
      Hd K mg G' H' v (fun a => (F a ∧ ¬ F1 a) ∨ F1' a) s'
  | [], v, F, s, s1, h, e => by
    cases e
    refine ⟨v, F, fun _ => rfl, h, fun _ x => x, fun G' H' F1' s1' s' sg k h' nf es => ?_⟩
    cases es
    exact h'.wide fun a x => .inr x
  | (c, j) :: rp, v, F, s, s1, h, e => by
    unfold getR at e
    cases q : getR rp s with
    | none => rw [q] at e; cases e
    | some par =>
      rw [q] at e
      cases par with
      | ob c' fs =>
        replace e : (if c' = c then fs[j]? else none) = some s1 := e
        split at e
        · rename_i hc
          subst hc
          obtain ⟨vp, Fp, evp, hp, sp, kp⟩ := Hd.upd rp h q
          cases hp with
          | ob f hm ho n sF r =>
            rename_i p C dx vs F'
            obtain ⟨v1, F1, e1, h1, s1F, k1⟩ := r.upd j e
            refine ⟨v1, F1, (fun e => by cases e), h1, fun a x => sp a (sF a (s1F a x)), fun G' H' F1' s1' s' sg k h' nf es => ?_⟩
            unfold setR at es
            rw [q] at es
            have hlt : j < fs.length := (List.getElem?_eq_some_iff.mp e).1
            replace es : (if c' = c' ∧ j < fs.length then setR rp (.ob c' (fs.set j s1')) s else none) = some s' := es
            rw [if_pos ⟨rfl, hlt⟩] at es
            have t := k1 G' H' F1' s1' sg (fun a o fa nfa q => k a o (sp a (sF a fa)) nfa q) h' fun a x => by
              rcases nf a x with z | z
              · exact .inl z
              · exact .inr fun y => z (sp a (sF a y))
            have np1 : ¬ F1 p := fun y => n (s1F p y)
            have np1' : ¬ F1' p := fun y => by
              rcases nf p y with z | z
              · exact np1 z
              · exact z (sp p f)
            have hob : Hd K mg G' H' (.ref p) (fun a => (Fp a ∧ ¬ F1 a) ∨ F1' a) (.ob c' (fs.set j s1')) := by
              refine .ob (.inl ⟨f, np1⟩) hm (k p _ (sp p f) np1 ho nofun) (F' := fun a => (F' a ∧ ¬ F1 a) ∨ F1' a) (fun y => ?_) (fun a y => ?_) t
              · rcases y with y | y
                · exact n y.1
                · exact np1' y
              · rcases y with y | y
                · exact .inl ⟨sF a y.1, y.2⟩
                · exact .inr y
            refine (kp G' H' _ _ s' sg (fun a o fa nfa q => k a o fa (fun y => nfa (sF a (s1F a y))) q) hob (fun a y => ?_) es).wide fun a y => ?_
            · rcases y with y | y
              · exact .inl y.1
              · rcases nf a y with z | z
                · exact .inl (sF a (s1F a z))
                · exact .inr z
            · rcases y with y | y
              · exact .inl ⟨y.1, fun z => y.2 (sF a (s1F a z))⟩
              · rcases y with y | y
                · exact .inl ⟨sp a y.1, y.2⟩
                · exact .inr y
        · cases e
      | ol ss =>
        replace e : (if c = 1000 then ss[j]? else none) = some s1 := e
        split at e
        · rename_i hc
          subst hc
          obtain ⟨vp, Fp, evp, hp, sp, kp⟩ := Hd.upd rp h q
          cases hp with
          | ol f ho n sF r =>
            rename_i p vs F'
            obtain ⟨v1, F1, e1, h1, s1F, k1⟩ := r.upd j e
            refine ⟨v1, F1, (fun e => by cases e), h1, fun a x => sp a (sF a (s1F a x)), fun G' H' F1' s1' s' sg k h' nf es => ?_⟩
            unfold setR at es
            rw [q] at es
            have hlt : j < ss.length := (List.getElem?_eq_some_iff.mp e).1
            replace es : (if 1000 = 1000 ∧ j < ss.length then setR rp (.ol (ss.set j s1')) s else none) = some s' := es
            rw [if_pos ⟨rfl, hlt⟩] at es
            have t := k1 G' H' F1' s1' sg (fun a o fa nfa q => k a o (sp a (sF a fa)) nfa q) h' fun a x => by
              rcases nf a x with z | z
              · exact .inl z
              · exact .inr fun y => z (sp a (sF a y))
            have np1 : ¬ F1 p := fun y => n (s1F p y)
            have np1' : ¬ F1' p := fun y => by
              rcases nf p y with z | z
              · exact np1 z
              · exact z (sp p f)
            have hob : Hd K mg G' H' (.ref p) (fun a => (Fp a ∧ ¬ F1 a) ∨ F1' a) (.ol (ss.set j s1')) := by
              refine .ol (.inl ⟨f, np1⟩) (k p _ (sp p f) np1 ho nofun) (F' := fun a => (F' a ∧ ¬ F1 a) ∨ F1' a) (fun y => ?_) (fun a y => ?_) t
              · rcases y with y | y
                · exact n y.1
                · exact np1' y
              · rcases y with y | y
                · exact .inl ⟨sF a y.1, y.2⟩
                · exact .inr y
            refine (kp G' H' _ _ s' sg (fun a o fa nfa q => k a o fa (fun y => nfa (sF a (s1F a y))) q) hob (fun a y => ?_) es).wide fun a y => ?_
            · rcases y with y | y
              · exact .inl y.1
              · rcases nf a y with z | z
                · exact .inl (sF a (s1F a z))
                · exact .inr z
            · rcases y with y | y
              · exact .inl ⟨y.1, fun z => y.2 (sF a (s1F a z))⟩
              · rcases y with y | y
                · exact .inl ⟨sp a y.1, y.2⟩
                · exact .inr y
        · cases e
      | _ => cases e
mutual
def toD : Sl → Option D
  | .no => none
  | .sh d => some d
  | .ow xs => some (.lst xs)
  | .dk ks xs => some (.dic ks xs)
  | .bo _ => none
  | .ol _ => none
  | .od _ _ => none
  | .ob c fs => (toDs fs).map (.obj c)
def toDs : List Sl → Option (List D)
  | [] => some []
  | s :: ss => (toD s).bind fun d => (toDs ss).map (d :: ·)
end
/-- what is one's own becomes known: the known part grows by it -/
structure Frz (K : PySem.W.Frag) (mg : Str → Option Value) (G H : Hp) (F : Addr → Prop) (G' : Hp) : Prop where
  gg : Same G G'
  gh : Same G' H
  new : ∀ a, G' a ≠ none → G a ≠ none ∨ F a
  tup : ∀ a vs, G' a = some (.tup vs) → G a = some (.tup vs)
theorem frz_one {K : PySem.W.Frag} {mg : Str → Option Value} {G H : Hp} {F : Addr → Prop} {p : Addr} {o : HO} (gh : Same G H) (f : F p) (gp : G p = none) (h : H p = some o) (nt : ∀ vs, o ≠ .tup vs) : Frz K mg G H F (upd G p o) := by
  refine ⟨fun a u q => ?_, fun a u q => ?_, fun a q => ?_, fun a vs q => ?_⟩
  · rw [upd_ne (ne_of_none q gp)]; exact q
  · by_cases e : a = p
    · subst e; rw [upd_same] at q; cases q; exact h
    · rw [upd_ne e] at q; exact gh _ _ q
  · by_cases e : a = p
    · subst e; exact .inr f
    · rw [upd_ne e] at q; exact .inl q
  · by_cases e : a = p
    · subst e; rw [upd_same] at q; cases q; exact absurd rfl (nt vs)
    · rw [upd_ne e] at q; exact q
theorem Frz.trans {K : PySem.W.Frag} {mg : Str → Option Value} {G H G1 G2 : Hp} {F F1 F2 : Addr → Prop} (a : Frz K mg G H F1 G1) (b : Frz K mg G1 H F2 G2) (s1 : ∀ a, F1 a → F a) (s2 : ∀ a, F2 a → F a) : Frz K mg G H F G2 :=
  ⟨a.gg.trans b.gg, b.gh, fun x q => by
    rcases b.new x q with z | z
    · rcases a.new x z with z | z
      · exact .inl z
      · exact .inr (s1 x z)
    · exact .inr (s2 x z), fun x vs q => a.tup x vs (b.tup x vs q)⟩
mutual
theorem Hd.frz : ∀ {G H : Hp} {v : V} {F : Addr → Prop} {s : Sl} {d : D}, Hd K mg G H v F s → toD s = some d → Same G H → (∀ a, F a → G a = none) → ∃ G', Frz K mg G H F G' ∧ Rep K mg G' v d
  | G, H, _, _, _, _, .sh h, e, gh, _ => by
    simp only [toD] at e; cases e
    exact ⟨G, ⟨Same.refl _, gh, fun _ h => .inl h, fun _ _ h => h⟩, h⟩
  | G, H, _, _, _, _, .ow f h r, e, gh, gn => by
    simp only [toD] at e; cases e
    have x := frz_one (K := K) (mg := mg) gh f (gn _ f) h (fun vs z => by cases z)
    exact ⟨_, x, .lst upd_same (r.mono x.gg)⟩
  | G, H, _, _, _, _, .dk f h l r, e, gh, gn => by
    simp only [toD] at e; cases e
    have x := frz_one (K := K) (mg := mg) gh f (gn _ f) h (fun vs z => by cases z)
    exact ⟨_, x, .dic upd_same l (r.mono x.gg)⟩
  | G, H, _, F, _, _, .ob (p := p) f hm h n s r, e, gh, gn => by
    simp only [toD, Option.map_eq_some_iff] at e
    obtain ⟨ds, e1, rfl⟩ := e
    obtain ⟨G1, x1, r1⟩ := HdL.frz r e1 gh fun a z => gn a (s a z)
    have gp : G1 p = none := by
      cases q : G1 p with
      | none => rfl
      | some u =>
        rcases x1.new p (by rw [q]; simp) with z | z
        · exact absurd (gn _ f) z
        · exact absurd z n
    have x2 := frz_one (K := K) (mg := mg) (F := F) x1.gh f gp h (fun vs z => by cases z)
    exact ⟨_, x1.trans x2 s fun _ z => z, .objA hm upd_same (r1.mono x2.gg)⟩
  | _, _, _, _, _, _, .ol _ _ _ _ _, e, _, _ => by simp only [toD] at e; cases e
  | _, _, _, _, _, _, .od _ _ _ _ _ _, e, _, _ => by simp only [toD] at e; cases e
theorem HdL.frz : ∀ {G H : Hp} {vs : List V} {F : Addr → Prop} {ss : List Sl} {ds : List D}, HdL K mg G H vs F ss → toDs ss = some ds → Same G H → (∀ a, F a → G a = none) → ∃ G', Frz K mg G H F G' ∧ RepL K mg G' vs ds
  | G, H, _, _, _, _, .nil, e, gh, _ => by
    simp only [toDs] at e; cases e
    exact ⟨G, ⟨Same.refl _, gh, fun _ h => .inl h, fun _ _ h => h⟩, .nil⟩
  | G, H, _, _, _, _, .cons h r s1 s2 dj, e, gh, gn => by
    simp only [toDs] at e
    cases q1 : toD _ with
    | none => rw [q1] at e; cases e
    | some d =>
      rw [q1] at e
      simp only [Option.bind_some, Option.map_eq_some_iff] at e
      obtain ⟨ds, e2, rfl⟩ := e
      obtain ⟨G1, x1, r1⟩ := Hd.frz h q1 gh fun a z => gn a (s1 a z)
      have r' := HdL.mono (H' := H) x1.gg (fun _ _ _ q _ => q) r
      obtain ⟨G2, x2, r2⟩ := HdL.frz r' e2 x1.gh fun a z => by
        cases q : G1 a with
        | none => rfl
        | some u =>
          rcases x1.new a (by rw [q]; simp) with w | w
          · exact absurd (gn a (s2 a z)) w
          · exact absurd z (dj a w)
      exact ⟨G2, x1.trans x2 s1 s2, .cons (r1.mono x2.gg) r2⟩
end
mutual
theorem getR_own : ∀ {rp : Pth} {s : Sl} {c : Nat} {fs : List Sl}, getR rp s = some (.ob c fs) → isOwn s = true
  | [], _, _, _, h => by cases h; rfl
  | (c, j) :: rp, s, _, _, h => by
    unfold getR at h
    cases q : getR rp s with
    | none => rw [q] at h; cases h
    | some par =>
      cases par with
      | ob c' fs => exact getR_own q
      | ol ss => exact getR_ownL q
      | _ => rw [q] at h; cases h
theorem getR_ownL : ∀ {rp : Pth} {s : Sl} {fs : List Sl}, getR rp s = some (.ol fs) → isOwn s = true
  | [], _, _, h => by cases h; rfl
  | (c, j) :: rp, s, _, h => by
    unfold getR at h
    cases q : getR rp s with
    | none => rw [q] at h; cases h
    | some par =>
      cases par with
      | ob c' fs => exact getR_own q
      | ol ss => exact getR_ownL q
      | _ => rw [q] at h; cases h
end
theorem setR_own {rp : Pth} {s s1 s1' s' : Sl} (hg : getR rp s = some s1) (hs : setR rp s1' s = some s') (h : isOwn s1' = true → isOwn s1 = true) : isOwn s' = true → isOwn s = true := by
  cases rp with
  | nil => cases hg; cases hs; exact h
  | cons p rp =>
    obtain ⟨c, j⟩ := p
    unfold getR at hg
    cases q : getR rp s with
    | none => rw [q] at hg; cases hg
    | some par =>
      cases par with
      | ob c' fs => exact fun _ => getR_own q
      | ol ss => exact fun _ => getR_ownL q
      | _ => rw [q] at hg; cases hg
/-- a place of a slot: what it holds, and how it may be changed -/
structure Pack (K : PySem.W.Frag) (mg : Str → Option Value) (G0 H0 : Hp) (Z : Zs) (Γ : DEnv) (σ : St) (i : Nat) (rp : Pth) (s s1 : Sl) (v : V) (F1 : Addr → Prop) (Hb G H : Hp) : Prop where
  hd : Hd K mg G H v F1 s1
  fr : ∀ a, F1 a → G a = none ∧ H0 a = none ∧ H a ≠ none ∧ ¬ Z.z a ∧ Hb a ≠ none
  tb : TC.ti.t G H
  ntz : ∀ a, F1 a → ¬ TC.ti.tz a
  hbt : ∀ a, TC.ti.tz a → Hb a ≠ none
  upC : ∀ (G' H' : Hp) (F1' : Addr → Prop) (s1' s' : Sl), Same G G' → Same G' H' → TC.ti.t G' H' → (∀ a, ¬ F1 a → H a ≠ none → H' a ≠ none) → (∀ a, G' a ≠ none → G a ≠ none ∨ Hb a = none ∨ F1 a) → (∀ a o, ¬ F1 a → H a = some o → NT o → H' a = some o) → Hd K mg G' H' v F1' s1' →
    (∀ a, F1' a → G' a = none ∧ H' a ≠ none ∧ (F1 a ∨ Hb a = none)) → (isOwn s1' = true → isOwn s1 = true) → setR rp s1' s = some s' → Rel K mg G0 H0 Z (Γ.set i s') σ G' H'
theorem Pack.up {i : Nat} {rp : Pth} {s s1 : Sl} {v : V} {F1 : Addr → Prop} {Hb : Hp} (P : Pack K mg G0 H0 Z Γ σ i rp s s1 v F1 Hb G H) (G' H' : Hp) (F1' : Addr → Prop) (s1' s' : Sl) (sg : Same G G') (gh : Same G' H') (nw : ∀ a, G' a ≠ none → G a ≠ none ∨ Hb a = none ∨ F1 a) (keep : ∀ a o, ¬ F1 a → H a = some o → H' a = some o) (h' : Hd K mg G' H' v F1' s1')
    (nf : ∀ a, F1' a → G' a = none ∧ H' a ≠ none ∧ (F1 a ∨ Hb a = none)) (io : isOwn s1' = true → isOwn s1 = true) (es : setR rp s1' s = some s') : Rel K mg G0 H0 Z (Γ.set i s') σ G' H' := by
  have hn' : ∀ a, ¬ F1 a → H a ≠ none → H' a ≠ none := fun a nf h => by
    cases q : H a with
    | none => exact absurd q h
    | some o => rw [keep a o nf q]; simp
  refine P.upC G' H' F1' s1' s' sg gh (TC.ti.keep P.tb sg (fun a h => ?_) (fun a h g => ?_)) hn' nw (fun a o nf q _ => keep a o nf q) h' nf io es
  · cases q : H a with
    | none => exact absurd q (TC.ti.live P.tb a h).1
    | some o => exact keep a o (fun y => P.ntz a y h) q
  · cases q : G' a with
    | none => rfl
    | some u =>
      rcases nw a (by rw [q]; simp) with z | z | z
      · exact absurd g z
      · exact absurd z (P.hbt a h)
      · exact absurd h (P.ntz a z)
theorem Rel.pack (R : Rel K mg G0 H0 Z Γ σ G H) {i : Nat} {rp : Pth} {s s1 : Sl} (hi : Γ[i]? = some s) (hg : getR rp s = some s1) (hn : s1 ≠ .no) (hs : SlP s) :
    ∃ v F1, (rp = [] → σ[i]? = some (some v)) ∧ ∀ G1 H1, Ext G H G1 H1 → Pack K mg G0 H0 Z Γ σ i rp s s1 v F1 H G1 H1 := by
  obtain ⟨own, o1, o2, o3⟩ := R.own
  rcases o3 i s hi with z | ⟨v0, e0, h0⟩ | ⟨_, d0, z, _⟩
  · exact absurd z hs.1
  rotate_left
  · exact absurd z (hs.2 d0)
  obtain ⟨v1, F1, ev, h1, sF, kk⟩ := Hd.upd rp h0 hg
  refine ⟨v1, F1, fun e => by rw [ev e]; exact e0, fun G1 H1 x => ?_⟩
  have R1 := R.ext x
  have old : ∀ a, F1 a → G a = none ∧ H0 a = none ∧ H a ≠ none ∧ ¬ Z.z a := fun a y => o1 i a (sF a y)
  refine ⟨h1.mono x.gg fun a o _ q n => x.hh a o q n, fun a y => ?_, R1.tbc, fun a y h => (old a y).2.2.2 (R.tz a (by rw [R.tc]; exact h)), fun a h => R.zz a (R.tz a (by rw [R.tc]; exact h)), fun G' H' F1' s1' s' sg gh tb' hn' nw keep h' nf io es => ?_⟩
  · obtain ⟨z1, z2, z3, z4⟩ := old a y
    exact ⟨x.none z1 z3, z2, x.hn _ z3, z4, z3⟩
  · have big : Hd K mg G' H' v0 (fun a => (own i a ∧ ¬ F1 a) ∨ F1' a) s' := by
      have hx : Hd K mg G1 H1 v0 (own i) s := h0.mono x.gg fun a o _ q n => x.hh a o q n
      refine kk G' H' F1' s1' s' (x.gg.trans sg) (fun a o fa nfa q n => keep a o nfa (x.hh a o q n) n) h' (fun a y => ?_) es
      rcases (nf a y).2.2 with z | z
      · exact .inl z
      · exact .inr fun w => (o1 i a w).2.2.1 z
    have stay : ∀ j a, own j a → ¬ F1 a → G' a = none ∧ H' a ≠ none := fun j a w nf1 => by
      obtain ⟨z1, z2, z3, z4⟩ := o1 j a w
      have g1 := x.none z1 z3
      have h1' := x.hn _ z3
      refine ⟨?_, ?_⟩
      · cases q : G' a with
        | none => rfl
        | some u =>
          rcases nw a (by rw [q]; simp) with z | z | z
          · exact absurd g1 z
          · exact absurd z z3
          · exact absurd z nf1
      · exact hn' a nf1 h1'
    refine ⟨by simpa using R.len, gh, fun a o q n => ?_, R1.gg.trans sg, fun a q => ?_, fun a z => ?_, fun w s'' e1 e2 e3 => ?_, (by rw [R.tc]; exact tb'), R.tz, R.tc, fun a h => hn' a (fun y => h (old a y).2.1) (R1.hn a h), fun j a => if j = i then (own i a ∧ ¬ F1 a) ∨ F1' a else own j a, fun j a w => ?_, fun j k a w1 w2 => ?_, fun j s'' q => ?_⟩
    · refine keep a o (fun y => ?_) (R1.hh a o q n) n
      rw [(old a y).2.1] at q; cases q
    · rcases nw a q with z | z | z
      · exact R1.new a z
      · exact .inr (R.hf z)
      · exact .inr (old a z).2.1
    · exact hn' a (fun y => (old a y).2.2.2 z) (R1.zz a z)
    · rcases set_get e2 with ⟨ei, hl, rfl⟩ | ⟨ei, q⟩
      · subst ei
        exact R.an w s e1 hi (keepS_own (setR_own hg es io (keepS_hd big e3)))
      · exact R.an w s'' e1 q e3
    · by_cases ej : j = i
      · simp only [ej, if_true] at w
        rcases w with w | w
        · obtain ⟨z1, z2, z3, z4⟩ := o1 i a w.1
          obtain ⟨y1, y2⟩ := stay i a w.1 w.2
          exact ⟨y1, z2, y2, z4⟩
        · obtain ⟨y1, y2, y3⟩ := nf a w
          rcases y3 with y3 | y3
          · exact ⟨y1, (old a y3).2.1, y2, (old a y3).2.2.2⟩
          · exact ⟨y1, R.hf y3, y2, fun z => R.zz a z y3⟩
      · simp only [ej, if_false] at w
        have nf1 : ¬ F1 a := fun y => ej (o2 j i a w (sF a y))
        obtain ⟨z1, z2, z3, z4⟩ := o1 j a w
        obtain ⟨y1, y2⟩ := stay j a w nf1
        exact ⟨y1, z2, y2, z4⟩
    · have cross : ∀ j', j' ≠ i → own j' a → ¬ ((own i a ∧ ¬ F1 a) ∨ F1' a) := fun j' ne w y => by
        rcases y with y | y
        · exact ne (o2 j' i a w y.1)
        · rcases (nf a y).2.2 with z | z
          · exact ne (o2 j' i a w (sF a z))
          · exact (o1 j' a w).2.2.1 z
      by_cases e1 : j = i
      · by_cases e2 : k = i
        · rw [e1, e2]
        · simp only [e1, e2, if_true, if_false] at w1 w2
          exact absurd w1 (cross k e2 w2)
      · by_cases e2 : k = i
        · simp only [e1, e2, if_true, if_false] at w1 w2
          exact absurd w2 (cross j e1 w1)
        · simp only [e1, e2, if_false] at w1 w2
          exact o2 j k a w1 w2
    · rcases set_get q with ⟨ej, hl, rfl⟩ | ⟨ej, q⟩
      · subst ej
        refine .inr (.inl ⟨v0, e0, ?_⟩)
        simp only [if_true]
        exact big
      · rcases o3 j s'' q with z | ⟨w, z1, z2⟩ | ⟨w, d, z0, z1, z2⟩
        · exact .inl z
        · refine .inr (.inl ⟨w, z1, ?_⟩)
          simp only [Ne.symm ej, if_false]
          refine z2.mono (x.gg.trans sg) fun a o fa q n => keep a o (fun y => ?_) (x.hh a o q n) n
          exact ej (o2 i j a (sF a y) fa)
        · exact .inr (.inr ⟨w, d, z0, z1, z2.mono (x.gg.trans sg) (same_n (Same.refl _))⟩)
theorem Rel.sh (R : Rel K mg G0 H0 Z Γ σ G H) {i : Nat} {d : D} (hi : Γ[i]? = some (.sh d)) : ∃ v, σ[i]? = some (some v) ∧ Rep K mg G v d := by
  obtain ⟨own, o1, o2, o3⟩ := R.own
  rcases o3 i _ hi with z | ⟨v, h1, h2⟩ | ⟨_, _, z, _⟩
  · cases z
  · cases h2 with
    | sh h => exact ⟨v, h1, h⟩
  · cases z
theorem Rel.bo (R : Rel K mg G0 H0 Z Γ σ G H) {i : Nat} {d : D} (hi : Γ[i]? = some (.bo d)) : ∃ v, σ[i]? = some (some v) ∧ RepB K mg G H v d := by
  obtain ⟨own, o1, o2, o3⟩ := R.own
  rcases o3 i _ hi with z | ⟨v, h1, h2⟩ | ⟨v, d', z, h1, h2⟩
  · cases z
  · cases h2
  · cases z; exact ⟨v, h1, h2.mono (Same.refl _) R.hh⟩
theorem Rel.ow (R : Rel K mg G0 H0 Z Γ σ G H) {i : Nat} {xs : List D} (hi : Γ[i]? = some (.ow xs)) : ∃ p vs, σ[i]? = some (some (.ref p)) ∧ G p = none ∧ H0 p = none ∧ H p = some (.lst vs) ∧ RepL K mg G vs xs := by
  obtain ⟨own, o1, o2, o3⟩ := R.own
  rcases o3 i _ hi with z | ⟨v, h1, h2⟩ | ⟨_, _, z, _⟩
  · cases z
  · cases h2 with
    | ow f h r => exact ⟨_, _, h1, (o1 i _ f).1, (o1 i _ f).2.1, h, r⟩
  · cases z
/-- a field of a place -/
theorem Pack.fld {i : Nat} {rp : Pth} {s s1 : Sl} {c j : Nat} {fs : List Sl} {v : V} {F : Addr → Prop} {Hb : Hp} (P : Pack K mg G0 H0 Z Γ σ i rp s (.ob c fs) v F Hb G H) (hg : getR rp s = some (.ob c fs)) (hj : fs[j]? = some s1) :
    ∃ p C dx vs v1 F1, v = .ref p ∧ mg (cN c) = some (.ref C) ∧ H p = some (.ins C dx ((cF c).zip vs)) ∧ vs[j]? = some v1 ∧ Pack K mg G0 H0 Z Γ σ i ((c, j) :: rp) s s1 v1 F1 Hb G H := by
  have hd := P.hd
  cases hd with
  | ob f hm ho n sF r =>
    rename_i p C dx vs F'
    obtain ⟨v1, F1, e1, h1, s1F, k1⟩ := r.upd j hj
    refine ⟨p, C, dx, vs, v1, F1, rfl, hm, ho, e1, h1, fun a y => P.fr a (sF a (s1F a y)), P.tb, fun a y => P.ntz a (sF a (s1F a y)), P.hbt, fun G' H' F1' s1' s' sg gh tb' hn' nw keep h' nf io es => ?_⟩
    have hlt : j < fs.length := (List.getElem?_eq_some_iff.mp hj).1
    unfold setR at es
    rw [hg] at es
    replace es : (if c = c ∧ j < fs.length then setR rp (.ob c (fs.set j s1')) s else none) = some s' := es
    rw [if_pos ⟨rfl, hlt⟩] at es
    have nf' : ∀ a, F1' a → F1 a ∨ ¬ F a := fun a x => by
      rcases (nf a x).2.2 with z | z
      · exact .inl z
      · exact .inr fun y => (P.fr a y).2.2.2.2 z
    have t := k1 G' H' F1' s1' sg (fun a o fa nfa q n => keep a o nfa q n) h' fun a x => by
      rcases nf' a x with z | z
      · exact .inl z
      · exact .inr fun y => z (sF a y)
    have np1 : ¬ F1 p := fun y => n (s1F p y)
    have np1' : ¬ F1' p := fun y => by
      rcases nf' p y with z | z
      · exact np1 z
      · exact z f
    have hob : Hd K mg G' H' (.ref p) (fun a => (F a ∧ ¬ F1 a) ∨ F1' a) (.ob c (fs.set j s1')) := by
      refine .ob (.inl ⟨f, np1⟩) hm (keep p _ np1 ho nofun) (F' := fun a => (F' a ∧ ¬ F1 a) ∨ F1' a) (fun y => ?_) (fun a y => ?_) t
      · rcases y with y | y
        · exact n y.1
        · exact np1' y
      · rcases y with y | y
        · exact .inl ⟨sF a y.1, y.2⟩
        · exact .inr y
    refine P.upC G' H' _ _ s' sg gh tb' (fun a nfa h => hn' a (fun y => nfa (sF a (s1F a y))) h) (fun a q => ?_) (fun a o nfa q n => keep a o (fun y => nfa (sF a (s1F a y))) q n) hob (fun a y => ?_) (fun _ => rfl) es
    · rcases nw a q with z | z | z
      · exact .inl z
      · exact .inr (.inl z)
      · exact .inr (.inr (sF a (s1F a z)))
    · rcases y with y | y
      · obtain ⟨z1, z2, z3, z4, z5⟩ := P.fr a y.1
        refine ⟨?_, ?_, .inl y.1⟩
        · cases q : G' a with
          | none => rfl
          | some u =>
            rcases nw a (by rw [q]; simp) with w | w | w
            · exact absurd z1 w
            · exact absurd w z5
            · exact absurd w y.2
        · exact hn' a y.2 z3
      · obtain ⟨z1, z2, z3⟩ := nf a y
        refine ⟨z1, z2, ?_⟩
        rcases z3 with z3 | z3
        · exact .inl (sF a (s1F a z3))
        · exact .inr z3
/-- an item of a place that is a list of things -/
theorem Pack.itm {i : Nat} {rp : Pth} {s s1 : Sl} {j : Nat} {fs : List Sl} {v : V} {F : Addr → Prop} {Hb : Hp} (P : Pack K mg G0 H0 Z Γ σ i rp s (.ol fs) v F Hb G H) (hg : getR rp s = some (.ol fs)) (hj : fs[j]? = some s1) :
    ∃ p vs v1 F1, v = .ref p ∧ H p = some (.lst vs) ∧ vs.length = fs.length ∧ vs[j]? = some v1 ∧ Pack K mg G0 H0 Z Γ σ i ((1000, j) :: rp) s s1 v1 F1 Hb G H := by
  have hd := P.hd
  cases hd with
  | ol f ho n sF r =>
    rename_i p vs F'
    obtain ⟨v1, F1, e1, h1, s1F, k1⟩ := r.upd j hj
    refine ⟨p, vs, v1, F1, rfl, ho, r.length, e1, h1, fun a y => P.fr a (sF a (s1F a y)), P.tb, fun a y => P.ntz a (sF a (s1F a y)), P.hbt, fun G' H' F1' s1' s' sg gh tb' hn' nw keep h' nf io es => ?_⟩
    have hlt : j < fs.length := (List.getElem?_eq_some_iff.mp hj).1
    unfold setR at es
    rw [hg] at es
    replace es : (if 1000 = 1000 ∧ j < fs.length then setR rp (.ol (fs.set j s1')) s else none) = some s' := es
    rw [if_pos ⟨rfl, hlt⟩] at es
    have nf' : ∀ a, F1' a → F1 a ∨ ¬ F a := fun a x => by
      rcases (nf a x).2.2 with z | z
      · exact .inl z
      · exact .inr fun y => (P.fr a y).2.2.2.2 z
    have t := k1 G' H' F1' s1' sg (fun a o fa nfa q n => keep a o nfa q n) h' fun a x => by
      rcases nf' a x with z | z
      · exact .inl z
      · exact .inr fun y => z (sF a y)
    have np1 : ¬ F1 p := fun y => n (s1F p y)
    have np1' : ¬ F1' p := fun y => by
      rcases nf' p y with z | z
      · exact np1 z
      · exact z f
    have hob : Hd K mg G' H' (.ref p) (fun a => (F a ∧ ¬ F1 a) ∨ F1' a) (.ol (fs.set j s1')) := by
      refine .ol (.inl ⟨f, np1⟩) (keep p _ np1 ho nofun) (F' := fun a => (F' a ∧ ¬ F1 a) ∨ F1' a) (fun y => ?_) (fun a y => ?_) t
      · rcases y with y | y
        · exact n y.1
        · exact np1' y
      · rcases y with y | y
        · exact .inl ⟨sF a y.1, y.2⟩
        · exact .inr y
    refine P.upC G' H' _ _ s' sg gh tb' (fun a nfa h => hn' a (fun y => nfa (sF a (s1F a y))) h) (fun a q => ?_) (fun a o nfa q n => keep a o (fun y => nfa (sF a (s1F a y))) q n) hob (fun a y => ?_) (fun _ => rfl) es
    · rcases nw a q with z | z | z
      · exact .inl z
      · exact .inr (.inl z)
      · exact .inr (.inr (sF a (s1F a z)))
    · rcases y with y | y
      · obtain ⟨z1, z2, z3, z4, z5⟩ := P.fr a y.1
        refine ⟨?_, ?_, .inl y.1⟩
        · cases q : G' a with
          | none => rfl
          | some u =>
            rcases nw a (by rw [q]; simp) with w | w | w
            · exact absurd z1 w
            · exact absurd w z5
            · exact absurd w y.2
        · exact hn' a y.2 z3
      · obtain ⟨z1, z2, z3⟩ := nf a y
        refine ⟨z1, z2, ?_⟩
        rcases z3 with z3 | z3
        · exact .inl (sF a (s1F a z3))
        · exact .inr z3
/-- a place of one's own becomes known to all -/
theorem Rel.frzP (R : Rel K mg G0 H0 Z Γ σ G H) {i : Nat} {rp : Pth} {s s1 s' : Sl} {d : D} (hi : Γ[i]? = some s) (hg : getR rp s = some s1) (hn : s1 ≠ .no) (hs : SlP s) (hd : toD s1 = some d) (es : setR rp (.sh d) s = some s') :
    ∃ G', Rel K mg G0 H0 Z (Γ.set i s') σ G' H ∧ Same G G' := by
  obtain ⟨v, F1, _, pk⟩ := R.pack hi hg hn hs
  have p := pk G H (Ext.refl R.gh)
  obtain ⟨G', x, r⟩ := p.hd.frz hd R.gh fun a z => (p.fr a z).1
  refine ⟨G', p.up G' H (fun _ => False) (.sh d) s' x.gg x.gh (fun a q => ?_) (fun _ _ _ q => q) (.sh r) (fun _ z => z.elim) (fun z => nomatch z) es, x.gg⟩
  rcases x.new a q with z | z
  · exact .inl z
  · exact .inr (.inr z)
end

/-! ### judgements over data -/
abbrev Ex := DEnv → Option D
abbrev Te := DEnv → Option Bool
abbrev Ag := DEnv → Option (List D)
inductive Res where
  | nx (Γ : DEnv) | rt (d : D) | rm (d : D) (s : Sl) | ro (s : Sl) | bk (Γ : DEnv) | ct (Γ : DEnv) | ra (n : Int)
abbrev Sm := DEnv → Option Res

structure E (X : Cx) (e : Expr) (f : Ex) : Prop where
  ex : ∃ t, PE X e t ∧ ∀ G0 H0 Z Γ σ G H Q d, Rel X.K X.mg G0 H0 Z Γ σ G H → f Γ = some d → (∀ G' H' v, Ext G H G' H' → Rep X.K X.mg G' v d → Q v H') → t σ H Q
/-- a new list -/
structure EL (X : Cx) (e : Expr) (f : Ag) : Prop where
  ex : ∃ t, PE X e t ∧ ∀ G0 H0 Z Γ σ G H Q ds, Rel X.K X.mg G0 H0 Z Γ σ G H → f Γ = some ds → (∀ G' H' p vs, Ext G H G' H' → H p = none → G' p = none → H' p = some (.lst vs) → RepL X.K X.mg G' vs ds → Q (.ref p) H') → t σ H Q
/-- a list, maybe one's own, that is only looked at -/
structure EB (X : Cx) (e : Expr) (f : Ag) : Prop where
  ex : ∃ t, PE X e t ∧ ∀ G0 H0 Z Γ σ G H Q ds, Rel X.K X.mg G0 H0 Z Γ σ G H → f Γ = some ds → (∀ G' H' p vs, Ext G H G' H' → SqL X.K H' p vs → RepL X.K X.mg G' vs ds → Q (.ref p) H') → t σ H Q
structure T (X : Cx) (e : Expr) (f : Te) : Prop where
  ex : ∃ t, PT X e t ∧ ∀ G0 H0 Z Γ σ G H Q b, Rel X.K X.mg G0 H0 Z Γ σ G H → f Γ = some b → (∀ G' H', Ext G H G' H' → Q b H') → t σ H Q
structure W (X : Cx) (e : Expr) (f : Te) : Prop where
  ex : ∃ t, PW X e t ∧ ∀ G0 H0 Z Γ σ G H Q b, Rel X.K X.mg G0 H0 Z Γ σ G H → f Γ = some b → (∀ G' H', Ext G H G' H' → Q b H') → t σ H Q
structure A (X : Cx) (es : List Expr) (f : Ag) : Prop where
  ex : ∃ t, PA X es t ∧ ∀ G0 H0 Z Γ σ G H Q ds, Rel X.K X.mg G0 H0 Z Γ σ G H → f Γ = some ds → (∀ G' H' vs, Ext G H G' H' → RepL X.K X.mg G' vs ds → Q vs H') → t σ H Q
/-! an exception with a number -/
def WS (X : Cx) : WX := fun cls d σ H => ∀ u s', XE X (fun c' d' σ' H' => c' = cls ∧ d' = d ∧ σ' = σ ∧ H' = H) u s' → X.xe u s'
theorem takes_WS {X : Cx} : Takes X (WS X) := fun u s' ⟨a, B, sI, pins, σ, H, cls, d, e, I, nb, up, sky, na, os, ag, w⟩ =>
  w u s' ⟨a, B, sI, pins, σ, H, cls, d, e, I, nb, up, sky, na, os, ag, rfl, rfl, rfl, rfl⟩
/-- its class, its field line -/
def XIp (mg : Str → Option Value) (n : Int) (cls : Value) (d : Option Addr) (H0 H : Hp) : Prop := ∃ C dx, mg "InvalidPaper" = some (.ref C) ∧ cls = .ref C ∧ d = some dx ∧ H dx = some (.xd [("line", .int n)]) ∧ H0 dx = none
def RaiseOk (X : Cx) (G0 H0 : Hp) (Z : Zs) (n : Int) : Prop := ∀ cls d σ G H, Rel X.K X.mg G0 H0 Z (List.replicate σ.length .no) σ G H → XIp X.mg n cls d H0 H → WS X cls d σ H
/-- what is wanted behind a statement -/
def Fin (X : Cx) (G0 H0 : Hp) (Z : Zs) (D : Ends) : Res → Prop
  | .nx Γ => ∀ σ G H, Rel X.K X.mg G0 H0 Z Γ σ G H → D.nx σ H
  | .bk Γ => ∀ σ G H, Rel X.K X.mg G0 H0 Z Γ σ G H → D.bk σ H
  | .ct Γ => ∀ σ G H, Rel X.K X.mg G0 H0 Z Γ σ G H → D.ct σ H
  | .rt d => ∀ G H v, Ext G0 H0 G H → Rep X.K X.mg G v d → D.rt v H
  | .ro s => ∀ G H v F, Ext G0 H0 G H → Hd X.K X.mg G H v F s → (∀ a, F a → G a = none ∧ H0 a = none ∧ H a ≠ none) → D.rt v H
  | .ra n => RaiseOk X G0 H0 Z n
  | .rm d s => ∀ Γ σ G H v, Rel X.K X.mg G0 H0 Z Γ σ G H → Γ[0]? = some s → Rep X.K X.mg G v d → D.rt v H
structure S (X : Cx) (st : Stmt) (f : Sm) : Prop where
  ex : ∃ t, PS X st t ∧ ∀ G0 H0 Z Γ σ G H D r, Rel X.K X.mg G0 H0 Z Γ σ G H → f Γ = some r → Fin X G0 H0 Z D r → t D σ H
structure Ss (X : Cx) (st : List Stmt) (f : Sm) : Prop where
  ex : ∃ t, PSs X st t ∧ ∀ G0 H0 Z Γ σ G H D r, Rel X.K X.mg G0 H0 Z Γ σ G H → f Γ = some r → Fin X G0 H0 Z D r → t D σ H
end DL

namespace DL
open PySem L2
variable [TC : TabCtx]

theorem obind {α β : Type} {o : Option α} {f : α → Option β} {b : β} (h : o.bind f = some b) : ∃ a, o = some a ∧ f a = some b := by
  cases o with
  | none => cases h
  | some a => exact ⟨a, rfl, h⟩

/-! ### what is looked at: a datum, or a list of one's own -/
structure B (X : Cx) (e : Expr) (f : Ex) : Prop where
  ex : ∃ t, PE X e t ∧ ∀ G0 H0 Z Γ σ G H Q d, Rel X.K X.mg G0 H0 Z Γ σ G H → f Γ = some d → (∀ G' H' v, Ext G H G' H' → RepB X.K X.mg G' H' v d → Q v H') → t σ H Q

section
variable {K : PySem.W.Frag} {mg : Str → Option Value} {G H G' H' : Hp} {v : V} {d : D}
theorem RepB.ext (r : RepB K mg G H v d) (e : Ext G H G' H') : RepB K mg G' H' v d := by
  exact r.mono e.gg e.hh
/-- a list that is looked at -/
theorem RepB.lst {xs : List D} (gh : Same G H) (r : RepB K mg G H v (.lst xs)) : ∃ p vs, v = .ref p ∧ H p = some (.lst vs) ∧ RepL K mg G vs xs := by
  cases r with
  | sh r => cases r with
    | lst h r => exact ⟨_, _, rfl, gh _ _ h, r⟩
  | li h r => exact ⟨_, _, rfl, h, r⟩
theorem RepB.tup {xs : List D} (gh : Same G H) (r : RepB K mg G H v (.tup xs)) : ∃ p vs, v = .ref p ∧ SqT K H p vs ∧ RepL K mg G vs xs := by
  cases r with
  | sh r => cases r with
    | tup h r => exact ⟨_, _, rfl, sqt_same gh h, r⟩
theorem RepB.scr {ns : List Int} (gh : Same G H) (r : RepB K mg G H v (.scr ns)) : ∃ p, v = .ref p ∧ SqL K H p (ns.map V.int) := by
  cases r with
  | sh r => cases r with
    | scr h => exact ⟨_, rfl, gh.seq h⟩
mutual
theorem Hd.bo : ∀ {v : V} {F : Addr → Prop} {s : Sl} {d : D}, Hd K mg G H v F s → toD s = some d → RepB K mg G H v d
  | _, _, _, _, .sh h, e => by simp only [toD] at e; cases e; exact .sh h
  | _, _, _, _, .ow f h r, e => by simp only [toD] at e; cases e; exact .li h r
  | _, _, _, _, .dk _ h l r, e => by simp only [toD] at e; cases e; exact .dic h l r
  | _, _, _, _, .ob f hm h n s r, e => by
    simp only [toD, Option.map_eq_some_iff] at e
    obtain ⟨ds, e1, rfl⟩ := e
    exact .objA hm h (HdL.bo r e1)
  | _, _, _, _, .ol _ _ _ _ _, e => by simp only [toD] at e; cases e
  | _, _, _, _, .od _ _ _ _ _ _, e => by simp only [toD] at e; cases e
theorem HdL.bo : ∀ {vs : List V} {F : Addr → Prop} {ss : List Sl} {ds : List D}, HdL K mg G H vs F ss → toDs ss = some ds → RepBL K mg G H vs ds
  | _, _, _, _, .nil, e => by simp only [toDs] at e; cases e; exact .nil
  | _, _, _, _, .cons h r s1 s2 dj, e => by
    simp only [toDs] at e
    cases q1 : toD _ with
    | none => rw [q1] at e; cases e
    | some d =>
      rw [q1] at e
      simp only [Option.bind_some, Option.map_eq_some_iff] at e
      obtain ⟨ds, e2, rfl⟩ := e
      exact .cons (Hd.bo h q1) (HdL.bo r e2)
end
theorem Rep.flat (r : Rep K mg G v d) : (∀ i, d = .int i → v = .int i) ∧ (∀ b, d = .bl b → v = .bl b) ∧ (d = .non → v = .non) ∧ (∀ x, d = .str x → v = .str x) := by
  cases r <;> simp
end

/-! ### expressions -/
def gV (i : Nat) : Ex := fun Γ => match Γ[i]? with | some (.sh d) => some d | _ => none
def gB (i : Nat) : Ex := fun Γ => match Γ[i]? with | some (.sh d) => some d | some (.ow xs) => some (.lst xs) | some (.bo d) => some d | some (.ob c fs) => toD (.ob c fs) | some (.dk ks xs) => some (.dic ks xs) | _ => none
def gC (d : D) : Ex := fun _ => some d
def gI (i : Int) : Ex := fun _ => some (.int i)

section
variable {X : Cx} {e a b : Expr} {es : List Expr} {f g : Ex} {fs : Ag} {pos : Pos}

theorem e_var (i : Nat) {x : Str} (hN : X.N[i]? = some x := by rfl) (hv : Vis X.env.scope x := by first | exact Or.inl rfl | exact Or.inr (Or.inl rfl) | exact Or.inr (Or.inr rfl)) (hd : (x == ("__debug__" : Str)) = false := by decide)
    (hcd : (x == ("__classdict__" : Str)) = false := by decide) : E X (.Name x pos) (gV i) := by
  refine ⟨⟨_, pe_var hN hv hd hcd, fun G0 H0 Z Γ σ G H Q d R hf k => ?_⟩⟩
  unfold gV at hf
  cases q : Γ[i]? with
  | none => rw [q] at hf; cases hf
  | some s =>
    rw [q] at hf
    cases s with
    | sh d' =>
      cases hf
      obtain ⟨v, h1, h2⟩ := R.sh q
      exact ⟨v, h1, k G H v (Ext.refl R.gh) h2⟩
    | _ => cases hf
theorem b_var (i : Nat) {x : Str} (hN : X.N[i]? = some x := by rfl) (hv : Vis X.env.scope x := by first | exact Or.inl rfl | exact Or.inr (Or.inl rfl) | exact Or.inr (Or.inr rfl)) (hd : (x == ("__debug__" : Str)) = false := by decide)
    (hcd : (x == ("__classdict__" : Str)) = false := by decide) : B X (.Name x pos) (gB i) := by
  refine ⟨⟨_, pe_var hN hv hd hcd, fun G0 H0 Z Γ σ G H Q d R hf k => ?_⟩⟩
  unfold gB at hf
  cases q : Γ[i]? with
  | none => rw [q] at hf; cases hf
  | some s =>
    rw [q] at hf
    cases s with
    | ow xs =>
      cases hf
      obtain ⟨p, vs, h1, h2, h3, h4, h5⟩ := R.ow q
      exact ⟨_, h1, k G H _ (Ext.refl R.gh) (.li h4 h5)⟩
    | sh d' =>
      cases hf
      obtain ⟨v, h1, h2⟩ := R.sh q
      exact ⟨v, h1, k G H v (Ext.refl R.gh) (.sh h2)⟩
    | bo d' =>
      cases hf
      obtain ⟨v, h1, h2⟩ := R.bo q
      exact ⟨v, h1, k G H v (Ext.refl R.gh) h2⟩
    | ob c fs =>
      obtain ⟨own, o1, o2, o3⟩ := R.own
      rcases o3 i _ q with z | ⟨v, h1, h2⟩ | ⟨_, _, z, _⟩
      · cases z
      · exact ⟨v, h1, k G H v (Ext.refl R.gh) (h2.bo hf)⟩
      · cases z
    | dk ks xs =>
      obtain ⟨own, o1, o2, o3⟩ := R.own
      rcases o3 i _ q with z | ⟨v, h1, h2⟩ | ⟨_, _, z, _⟩
      · cases z
      · exact ⟨v, h1, k G H v (Ext.refl R.gh) (h2.bo (by cases hf; simp only [toD]))⟩
      · cases z
    | _ => cases hf
theorem E.bo (h : E X e f) : B X e f := by
  obtain ⟨t, h1, h2⟩ := h.ex
  exact ⟨⟨t, h1, fun G0 H0 Z Γ σ G H Q d R hf k => h2 G0 H0 Z Γ σ G H Q d R hf fun G' H' v e r => k G' H' v e (.sh r)⟩⟩
theorem e_int {i : Int} {j} : E X (.Constant (.int i) j pos) (gI i) := ⟨⟨_, pe_int, fun G0 H0 Z Γ σ G H Q d R hf k => by cases hf; exact k G H _ (Ext.refl R.gh) (.int i)⟩⟩
theorem e_bl {i : Bool} {j} : E X (.Constant (.bool i) j pos) (gC (.bl i)) := ⟨⟨_, pe_bl, fun G0 H0 Z Γ σ G H Q d R hf k => by cases hf; exact k G H _ (Ext.refl R.gh) (.bl i)⟩⟩
theorem e_non {j} : E X (.Constant .none j pos) (gC .non) := ⟨⟨_, pe_non, fun G0 H0 Z Γ σ G H Q d R hf k => by cases hf; exact k G H _ (Ext.refl R.gh) .non⟩⟩
theorem e_str {x : Str} {j} : E X (.Constant (.str x) j pos) (gC (.str x)) := ⟨⟨_, pe_str, fun G0 H0 Z Γ σ G H Q d R hf k => by cases hf; exact k G H _ (Ext.refl R.gh) (.str x)⟩⟩

/-! argument lists, displays -/
def aN : Ag := fun _ => some []
def aC (f : Ex) (r : Ag) : Ag := fun Γ => (f Γ).bind fun d => (r Γ).bind fun ds => some (d :: ds)
theorem a_nil : A X [] aN := ⟨⟨_, pa_nil, fun G0 H0 Z Γ σ G H Q ds R hf k => by cases hf; exact k G H _ (Ext.refl R.gh) .nil⟩⟩
theorem a_cons (he : E X e f) (hr : A X es fs) (hs : starEach (e :: es) X.env = (false, eval e X.env) :: starEach es X.env := by rfl) : A X (e :: es) (aC f fs) := by
  obtain ⟨t, h1, h2⟩ := he.ex
  obtain ⟨u, q1, q2⟩ := hr.ex
  refine ⟨⟨_, pa_cons h1 q1 hs, fun G0 H0 Z Γ σ G H Q ds R hf k => ?_⟩⟩
  obtain ⟨d, e1, hf⟩ := obind hf
  obtain ⟨es, e2, hf⟩ := obind hf
  cases hf
  refine h2 G0 H0 Z Γ σ G H _ d R e1 fun G1 H1 v x1 r1 => ?_
  refine q2 G0 H0 Z Γ σ G1 H1 _ es (R.ext x1) e2 fun G2 H2 vs x2 r2 => ?_
  exact k G2 H2 _ (x1.trans x2) (.cons (r1.mono x2.gg) r2)
/-- the number of items is known -/
def gTu (n : Nat) (fs : Ag) : Ex := fun Γ => (fs Γ).bind fun ds => some (.tup ds)
def gLst (fs : Ag) : Ag := fs
/-- displays are short: how many items is seen from the text -/
theorem A.len {X : Cx} : True := True.intro
end

/-- .. as a list of as many items as written -/
structure AN (X : Cx) (es : List Expr) (n : Nat) (f : Ag) : Prop where
  a : A X es f
  n : ∀ Γ ds, f Γ = some ds → ds.length = n
section
variable {X : Cx} {e a b : Expr} {es : List Expr} {f g : Ex} {fs : Ag} {pos : Pos} {n : Nat}
theorem n_nil : AN X [] 0 aN := ⟨a_nil, fun _ _ h => by cases h; rfl⟩
theorem n_cons (he : E X e f) (hr : AN X es n fs) (hs : starEach (e :: es) X.env = (false, eval e X.env) :: starEach es X.env := by rfl) : AN X (e :: es) (n + 1) (aC f fs) :=
  ⟨a_cons he hr.a hs, fun Γ ds h => by
    obtain ⟨d, e1, h⟩ := obind h
    obtain ⟨es, e2, h⟩ := obind h
    cases h
    simp [hr.n Γ es e2]⟩
theorem e_tup {x1} (h : AN X es n fs) (hn : n ≤ 1000 := by decide) : E X (.Tuple es x1 pos) (gTu n fs) := by
  obtain ⟨t, h1, h2⟩ := h.a.ex
  refine ⟨⟨_, pe_tup h1, fun G0 H0 Z Γ σ G H Q d R hf k => ?_⟩⟩
  obtain ⟨ds, e1, hf⟩ := obind hf
  cases hf
  refine h2 G0 H0 Z Γ σ G H _ ds R e1 fun G1 H1 vs x1 r1 => ⟨?_, fun p hp => ?_⟩
  · rw [r1.length, h.n Γ ds e1]; exact Nat.le_of_lt (small1000 hn)
  · have x2 := Ext.new1 (o := .tup vs) x1.gh hp
    exact k _ _ _ (x1.trans x2) (.tup (SqT.of upd_same) (r1.mono x2.gg))
theorem el_lst (h : AN X es n fs) (hn : n ≤ 1000 := by decide) : EL X (.List es pos) fs := by
  obtain ⟨t, h1, h2⟩ := h.a.ex
  refine ⟨⟨_, pe_lst h1, fun G0 H0 Z Γ σ G H Q ds R hf k => ?_⟩⟩
  refine h2 G0 H0 Z Γ σ G H _ ds R hf fun G1 H1 vs x1 r1 => ⟨?_, fun p hp => ?_⟩
  · rw [r1.length, h.n Γ ds hf]; exact Nat.le_of_lt (small1000 hn)
  · exact k _ _ p vs (x1.trans (Ext.own1 x1.gh hp)) (x1.hf hp) (x1.gh.free hp) upd_same r1
/-- a new list is handed on: known from now on -/
def gL (fs : Ag) : Ex := fun Γ => (fs Γ).bind fun ds => some (.lst ds)
theorem EL.fz (h : EL X e fs) : E X e (gL fs) := by
  obtain ⟨t, h1, h2⟩ := h.ex
  refine ⟨⟨_, h1, fun G0 H0 Z Γ σ G H Q d R hf k => ?_⟩⟩
  obtain ⟨ds, e1, hf⟩ := obind hf
  cases hf
  refine h2 G0 H0 Z Γ σ G H _ ds R e1 fun G1 H1 p vs x1 hp gp h r => ?_
  have sg : Same G1 (upd G1 p (.lst vs)) := same_upd gp
  exact k (upd G1 p (.lst vs)) H1 _ (x1.frz1 hp gp h) (.lst upd_same (r.mono sg))

/-! operators -/
def OpD (X : Cx) (fn : Value → Value → Sem Value) (o : D → D → Option D) : Prop :=
  ∃ r, OpR X fn r ∧ ∀ x y d v w G H Q, Same G H → o x y = some d → Rep X.K X.mg G v x → Rep X.K X.mg G w y → (∀ G' H' u, Ext G H G' H' → Rep X.K X.mg G' u d → Q u H') → r v w H Q
def gOp (o : D → D → Option D) (f g : Ex) : Ex := fun Γ => (f Γ).bind fun x => (g Γ).bind fun y => o x y
theorem op_run {r : R2} {o : D → D → Option D} (hr : ∀ x y d v w G H Q, Same G H → o x y = some d → Rep X.K X.mg G v x → Rep X.K X.mg G w y → (∀ G' H' u, Ext G H G' H' → Rep X.K X.mg G' u d → Q u H') → r v w H Q)
    {t u : TE} (h2 : ∀ G0 H0 Z Γ σ G H Q d, Rel X.K X.mg G0 H0 Z Γ σ G H → f Γ = some d → (∀ G' H' v, Ext G H G' H' → Rep X.K X.mg G' v d → Q v H') → t σ H Q)
    (q2 : ∀ G0 H0 Z Γ σ G H Q d, Rel X.K X.mg G0 H0 Z Γ σ G H → g Γ = some d → (∀ G' H' v, Ext G H G' H' → Rep X.K X.mg G' v d → Q v H') → u σ H Q) :
    ∀ G0 H0 Z Γ σ G H Q d, Rel X.K X.mg G0 H0 Z Γ σ G H → gOp o f g Γ = some d → (∀ G' H' v, Ext G H G' H' → Rep X.K X.mg G' v d → Q v H') → tOp r t u σ H Q := fun G0 H0 Z Γ σ G H Q d R hf k => by
  obtain ⟨x, e1, hf⟩ := obind hf
  obtain ⟨y, e2, hf⟩ := obind hf
  refine h2 G0 H0 Z Γ σ G H _ x R e1 fun G1 H1 v x1 r1 => ?_
  refine q2 G0 H0 Z Γ σ G1 H1 _ y (R.ext x1) e2 fun G2 H2 w x2 r2 => ?_
  exact hr x y d v w G2 H2 Q x2.gh hf (r1.mono x2.gg) r2 fun G3 H3 u x3 r3 => k G3 H3 u ((x1.trans x2).trans x3) r3
theorem e_op {op : Operator} {o : D → D → Option D} (ho : OpD X (binaryOp op) o) (ha : E X a f) (hb : E X b g) : E X (.BinOp a op b pos) (gOp o f g) := by
  obtain ⟨r, hr, hr2⟩ := ho
  obtain ⟨t, h1, h2⟩ := ha.ex
  obtain ⟨u, q1, q2⟩ := hb.ex
  exact ⟨⟨_, pe_op hr h1 q1, op_run hr2 h2 q2⟩⟩
theorem e_cmp {op : CmpOp} {o : D → D → Option D} (ho : OpD X (compareOp op) o) (ha : E X a f) (hb : E X b g) (hm : behindInMarks op b = false := by first | exact nomark _ | rfl) : E X (.Compare a [op] [b] pos) (gOp o f g) := by
  obtain ⟨r, hr, hr2⟩ := ho
  obtain ⟨t, h1, h2⟩ := ha.ex
  obtain ⟨u, q1, q2⟩ := hb.ex
  exact ⟨⟨_, pe_cmpR hr h1 q1 hm, op_run hr2 h2 q2⟩⟩
/-- an expression that gives True or False, as a test -/
def gT (f : Ex) : Te := fun Γ => (f Γ).bind fun d => match d with | .bl b => some b | _ => none
theorem gT_some {Γ : DEnv} {b : Bool} (h : gT f Γ = some b) : f Γ = some (.bl b) := by
  obtain ⟨d, e, h⟩ := obind h
  cases d with
  | bl c => cases h; exact e
  | _ => cases h
theorem t_cmp {op : CmpOp} {o : D → D → Option D} (ho : OpD X (compareOp op) o) (ha : E X a f) (hb : E X b g) (hm : behindInMarks op b = false := by first | exact nomark _ | rfl) : T X (.Compare a [op] [b] pos) (gT (gOp o f g)) := by
  obtain ⟨r, hr, hr2⟩ := ho
  obtain ⟨t, h1, h2⟩ := ha.ex
  obtain ⟨u, q1, q2⟩ := hb.ex
  refine ⟨⟨_, pt_cmpR hr h1 q1 hm, fun G0 H0 Z Γ σ G H Q c R hf k => ?_⟩⟩
  refine op_run hr2 h2 q2 G0 H0 Z Γ σ G H _ _ R (gT_some hf) fun G' H' v x r => ?_
  cases r
  exact ⟨_, rfl, k G' H' x⟩
theorem t_val (h : E X e f) (he : ∀ whole, isTrue e X.env whole = (do let v ← whole; standAt e.pos; holding [v] (truthy v)) := by intro _; rfl) : T X e (gT f) := by
  obtain ⟨t, h1, h2⟩ := h.ex
  refine ⟨⟨_, pt_val h1 he, fun G0 H0 Z Γ σ G H Q c R hf k => ?_⟩⟩
  refine h2 G0 H0 Z Γ σ G H _ _ R (gT_some hf) fun G' H' v x r => ?_
  cases r
  exact ⟨_, rfl, k G' H' x⟩
/-- .. of any kind, by its truth -/
def dTru : D → Option Bool
  | .non => some false
  | .bl b => some b
  | .int i => some (i != 0)
  | .lst xs => some (!xs.isEmpty)
  | .tup xs => some (!xs.isEmpty)
  | .str x => if x.length < 1000000 then some ((x.length : Int) != 0) else none
  | _ => none
def gTru (f : Ex) : Te := fun Γ => (f Γ).bind dTru
theorem line_big : (1000000 : Nat) ≤ sizeLine := by decide
theorem dTru_ok {K : PySem.W.Frag} {mg : Str → Option Value} {G' H' : Hp} {v : V} {d : D} {c : Bool} (gh : Same G' H') (hf : dTru d = some c) (r : RepB K mg G' H' v d) : TruV K v H' c := by
  have emp : ∀ {vs : List V} {xs : List D}, RepL K mg G' vs xs → (!vs.isEmpty) = !xs.isEmpty := fun r => by cases r <;> rfl
  cases d with
  | non => cases hf; cases r with | sh r => cases r; rfl
  | bl b => cases hf; cases r with | sh r => cases r; rfl
  | int i => cases hf; cases r with | sh r => cases r; rfl
  | str y =>
    cases r with
    | sh r =>
      cases r
      simp only [dTru] at hf
      split at hf
      · cases hf
        rename_i z
        exact ⟨Nat.le_trans (Nat.le_of_lt z) line_big, rfl⟩
      · cases hf
  | lst xs =>
    cases hf
    obtain ⟨p, vs, rfl, h, r⟩ := r.lst gh
    exact .inl ⟨vs, SqL.of h, (emp r).symm⟩
  | tup xs =>
    cases hf
    obtain ⟨p, vs, rfl, h, r⟩ := r.tup gh
    exact .inr (.inl ⟨vs, h, (emp r).symm⟩)
  | scr ns => cases hf
  | obj c ds => cases hf
  | fn a c q vs ds => cases hf
  | dic ks xs => cases hf
  | lls xs => cases hf
  | exc a dx n => cases hf
theorem t_tru (h : B X e f) (he : ∀ whole, isTrue e X.env whole = (do let v ← whole; standAt e.pos; holding [v] (truthy v)) := by intro _; rfl) : T X e (gTru f) := by
  obtain ⟨t, h1, h2⟩ := h.ex
  refine ⟨⟨_, pt_truth h1 he, fun G0 H0 Z Γ σ G H Q c R hf k => ?_⟩⟩
  obtain ⟨d, e1, hf⟩ := obind hf
  exact h2 G0 H0 Z Γ σ G H _ _ R e1 fun G' H' v x r => ⟨c, dTru_ok x.gh hf r, k G' H' x⟩
def gNot (f : Te) : Te := fun Γ => (f Γ).bind fun b => some (!b)
def gAnd (f g : Te) : Te := fun Γ => (f Γ).bind fun b => if b then g Γ else some false
def gOr (f g : Te) : Te := fun Γ => (f Γ).bind fun b => if b then some true else g Γ
variable {p q : Te} {rest : List Expr}
theorem t_not (h : T X e p) : T X (.UnaryOp .Not e pos) (gNot p) := by
  obtain ⟨t, h1, h2⟩ := h.ex
  refine ⟨⟨_, pt_not h1, fun G0 H0 Z Γ σ G H Q c R hf k => ?_⟩⟩
  obtain ⟨d, e1, hf⟩ := obind hf
  cases hf
  exact h2 G0 H0 Z Γ σ G H _ _ R e1 k
theorem W.t (h : W X e p) : T X e p := by
  obtain ⟨t, h1, h2⟩ := h.ex
  exact ⟨⟨t, h1.pt, h2⟩⟩
theorem w_and1 (h : T X a p) : W X (.BoolOp .And [a] pos) p := by
  obtain ⟨t, h1, h2⟩ := h.ex
  exact ⟨⟨_, pw_and1 h1, h2⟩⟩
theorem w_or1 (h : T X a p) : W X (.BoolOp .Or [a] pos) p := by
  obtain ⟨t, h1, h2⟩ := h.ex
  exact ⟨⟨_, pw_or1 h1, h2⟩⟩
theorem w_and (h : T X a p) (hr : W X (.BoolOp .And (b :: rest) pos) q) : W X (.BoolOp .And (a :: b :: rest) pos) (gAnd p q) := by
  obtain ⟨t, h1, h2⟩ := h.ex
  obtain ⟨u, q1, q2⟩ := hr.ex
  refine ⟨⟨_, pw_and h1 q1, fun G0 H0 Z Γ σ G H Q c R hf k => ?_⟩⟩
  obtain ⟨d, e1, hf⟩ := obind hf
  refine h2 G0 H0 Z Γ σ G H _ _ R e1 fun G' H' x => ?_
  cases d with
  | true =>
    refine iteT ?_
    exact q2 G0 H0 Z Γ σ G' H' _ _ (R.ext x) hf fun G2 H2 x2 => k G2 H2 (x.trans x2)
  | false =>
    refine iteF ?_
    cases hf
    exact k G' H' x
theorem w_or (h : T X a p) (hr : W X (.BoolOp .Or (b :: rest) pos) q) : W X (.BoolOp .Or (a :: b :: rest) pos) (gOr p q) := by
  obtain ⟨t, h1, h2⟩ := h.ex
  obtain ⟨u, q1, q2⟩ := hr.ex
  refine ⟨⟨_, pw_or h1 q1, fun G0 H0 Z Γ σ G H Q c R hf k => ?_⟩⟩
  obtain ⟨d, e1, hf⟩ := obind hf
  refine h2 G0 H0 Z Γ σ G H _ _ R e1 fun G' H' x => ?_
  cases d with
  | true =>
    refine iteT ?_
    cases hf
    exact k G' H' x
  | false =>
    refine iteF ?_
    exact q2 G0 H0 Z Γ σ G' H' _ _ (R.ext x) hf fun G2 H2 x2 => k G2 H2 (x.trans x2)
/-- tests as values -/
def gBl (p : Te) : Ex := fun Γ => (p Γ).bind fun b => some (.bl b)
/-- and, or of truth values as values -/
structure V1 (X : Cx) (e : Expr) (p : Te) : Prop where
  e : E X e (gBl p)
theorem E.v (h : E X e f) : V1 X e (gT f) := by
  obtain ⟨t, h1, h2⟩ := h.ex
  refine ⟨⟨⟨t, h1, fun G0 H0 Z Γ σ G H Q c R hf k => ?_⟩⟩⟩
  obtain ⟨d, e1, hf⟩ := obind hf
  cases hf
  exact h2 G0 H0 Z Γ σ G H _ _ R (gT_some e1) k
theorem v_one {op} (h : V1 X a p) : V1 X (.BoolOp op [a] pos) p := by
  obtain ⟨t, h1, h2⟩ := h.e.ex
  exact ⟨⟨⟨_, pe_one h1, h2⟩⟩⟩
theorem v_and (h : V1 X a p) (hr : V1 X (.BoolOp .And (b :: rest) pos) q) : V1 X (.BoolOp .And (a :: b :: rest) pos) (gAnd p q) := by
  obtain ⟨t, h1, h2⟩ := h.e.ex
  obtain ⟨u, q1, q2⟩ := hr.e.ex
  refine ⟨⟨⟨_, pe_and h1 q1, fun G0 H0 Z Γ σ G H Q c R hf k => ?_⟩⟩⟩
  obtain ⟨d0, e0, hf⟩ := obind hf
  cases hf
  obtain ⟨d, e1, hf⟩ := obind e0
  refine h2 G0 H0 Z Γ σ G H _ (.bl d) R (by show (p Γ).bind _ = _; rw [e1]; rfl) fun G' H' v x r => ?_
  cases r
  refine ⟨d, rfl, ?_⟩
  cases d with
  | true =>
    refine iteT ?_
    exact q2 G0 H0 Z Γ σ G' H' _ (.bl d0) (R.ext x) (by show (q Γ).bind _ = _; rw [show q Γ = some d0 from hf]; rfl) fun G2 H2 v x2 r => k G2 H2 v (x.trans x2) r
  | false =>
    refine iteF ?_
    cases hf
    exact k G' H' _ x (.bl _)
theorem v_or (h : V1 X a p) (hr : V1 X (.BoolOp .Or (b :: rest) pos) q) : V1 X (.BoolOp .Or (a :: b :: rest) pos) (gOr p q) := by
  obtain ⟨t, h1, h2⟩ := h.e.ex
  obtain ⟨u, q1, q2⟩ := hr.e.ex
  refine ⟨⟨⟨_, pe_or h1 q1, fun G0 H0 Z Γ σ G H Q c R hf k => ?_⟩⟩⟩
  obtain ⟨d0, e0, hf⟩ := obind hf
  cases hf
  obtain ⟨d, e1, hf⟩ := obind e0
  refine h2 G0 H0 Z Γ σ G H _ (.bl d) R (by show (p Γ).bind _ = _; rw [e1]; rfl) fun G' H' v x r => ?_
  cases r
  refine ⟨d, rfl, ?_⟩
  cases d with
  | true =>
    refine iteT ?_
    cases hf
    exact k G' H' _ x (.bl _)
  | false =>
    refine iteF ?_
    exact q2 G0 H0 Z Γ σ G' H' _ (.bl d0) (R.ext x) (by show (q Γ).bind _ = _; rw [show q Γ = some d0 from hf]; rfl) fun G2 H2 v x2 r => k G2 H2 v (x.trans x2) r
/-- not x as a value, x a truth value; or x by its truth (a list, a number) -/
theorem v_not (h : V1 X e p) : V1 X (.UnaryOp .Not e pos) (gNot p) := by
  obtain ⟨t, h1, h2⟩ := h.e.ex
  refine ⟨⟨⟨_, pe_not h1, fun G0 H0 Z Γ σ G H Q c R hf k => ?_⟩⟩⟩
  obtain ⟨d0, e0, hf⟩ := obind hf
  cases hf
  obtain ⟨d, e1, hf⟩ := obind e0
  cases hf
  refine h2 G0 H0 Z Γ σ G H _ (.bl d) R (by show (p Γ).bind _ = _; rw [e1]; rfl) fun G' H' v x r => ?_
  cases r
  exact ⟨d, rfl, k G' H' _ x (.bl _)⟩
/-- a if t else b -/
def gIf (t : Te) (f g : Ex) : Ex := fun Γ => (t Γ).bind fun b => if b then f Γ else g Γ
theorem e_if {c : Expr} (hc : T X c p) (ha : E X a f) (hb : E X b g) : E X (.IfExp c a b pos) (gIf p f g) := by
  obtain ⟨t, h1, h2⟩ := hc.ex
  obtain ⟨u, q1, q2⟩ := ha.ex
  obtain ⟨w, z1, z2⟩ := hb.ex
  refine ⟨⟨_, pe_ifExp h1 q1 z1, fun G0 H0 Z Γ σ G H Q d R hf k => ?_⟩⟩
  obtain ⟨b, e1, hf⟩ := obind hf
  refine h2 G0 H0 Z Γ σ G H _ _ R e1 fun G' H' x => ?_
  cases b with
  | true => exact iteT (q2 G0 H0 Z Γ σ G' H' _ _ (R.ext x) hf fun G2 H2 v x2 r => k G2 H2 v (x.trans x2) r)
  | false => exact iteF (z2 G0 H0 Z Γ σ G' H' _ _ (R.ext x) hf fun G2 H2 v x2 r => k G2 H2 v (x.trans x2) r)
end
end DL

namespace DL
open PySem L2
variable [TC : TabCtx]

/-! ### operators by data -/
theorem opr_or {X : Cx} {fn : Value → Value → Sem Value} {r r' : R2} (h : OpR X fn r) (h' : OpR X fn r') : OpR X fn (fun x y H Q => r x y H Q ∨ r' x y H Q) := by
  intro pins s σ H x y v u Q I rx ry q
  rcases q with q | q
  · exact h pins s σ H x y v u Q I rx ry q
  · exact h' pins s σ H x y v u Q I rx ry q
def dAdd : D → D → Option D
  | .int i, .int j => some (.int (i + j))
  | .str x, .str y => if x.length + y.length < 1000000 then some (.str (x ++ y)) else none
  | .lst xs, .lst ys => if xs.length + ys.length < 1000000 then some (.lst (xs ++ ys)) else none
  | _, _ => none
def dSub : D → D → Option D
  | .int i, .int j => some (.int (i - j))
  | _, _ => none
def mulOk (a b : Int) : Bool := !(decide (Builtin.Int.intBits a > shortFactorBits) && decide (Builtin.Int.intBits b > shortFactorBits) && Builtin.Int.intTooBig (Builtin.Int.intBits a + Builtin.Int.intBits b))
def dMul : D → D → Option D
  | .int i, .int j => if mulOk i j then some (.int (i * j)) else none
  | _, _ => none
def dDiv : D → D → Option D
  | .int i, .int j => if 0 < j ∧ j.natAbs.log2 < 9000 then some (.int (i / j)) else none
  | _, _ => none
def dMod : D → D → Option D
  | .int i, .int j => if 0 < j then some (.int (i % j)) else none
  | _, _ => none
def dPow : D → D → Option D
  | .int i, .int j => if 0 ≤ j ∧ j ≤ 1000000 ∧ i.natAbs < 2 ^ 64 then some (.int (i ^ j.toNat)) else none
  | _, _ => none
def dLt : D → D → Option D
  | .int i, .int j => some (.bl (decide (i < j)))
  | _, _ => none
def dLe : D → D → Option D
  | .int i, .int j => some (.bl (decide (i ≤ j)))
  | _, _ => none
def dGt : D → D → Option D
  | .int i, .int j => some (.bl (decide (j < i)))
  | _, _ => none
def dGe : D → D → Option D
  | .int i, .int j => some (.bl (decide (j ≤ i)))
  | _, _ => none
section
variable {X : Cx}
theorem op_mulOk : OpR X (binaryOp .Mult) (rI (fun i j => mulOk i j = true) fun i j => .int (i * j)) := opI fun _ _ _ _ _ _ _ hc q => PyProof.Rows.mul_int q (by
  unfold IntMulOk
  unfold mulOk at hc
  intro z
  rw [z] at hc
  cases hc)
/-- an operator of two ints whose answer is a scalar -/
theorem opd_i {fn : Value → Value → Sem Value} {C : Int → Int → Prop} {g : Int → Int → V} {o : D → D → Option D} (h : OpR X fn (rI C g)) (ho : ∀ x y d, o x y = some d → ∃ i j, x = .int i ∧ y = .int j ∧ C i j ∧ ∀ K mg G, Rep K mg G (g i j) d) : OpD X fn o := by
  refine ⟨_, h, fun x y d v w G H Q gh e rx ry k => ?_⟩
  obtain ⟨i, j, rfl, rfl, c, q⟩ := ho x y d e
  cases rx
  cases ry
  exact ⟨i, j, rfl, rfl, c, k G H _ (Ext.refl gh) (q _ _ _)⟩
theorem opd_i0 {fn : Value → Value → Sem Value} {g : Int → Int → V} {o : D → D → Option D} (h : OpR X fn (rI0 g)) (ho : ∀ x y d, o x y = some d → ∃ i j, x = .int i ∧ y = .int j ∧ ∀ K mg G, Rep K mg G (g i j) d) : OpD X fn o := by
  refine ⟨_, h, fun x y d v w G H Q gh e rx ry k => ?_⟩
  obtain ⟨i, j, rfl, rfl, q⟩ := ho x y d e
  cases rx
  cases ry
  exact ⟨i, j, rfl, rfl, k G H _ (Ext.refl gh) (q _ _ _)⟩
theorem od_add : OpD X (binaryOp .Add) dAdd := by
  refine ⟨_, opr_or op_add (opr_or op_add_str op_cat), fun x y d v w G H Q gh e rx ry k => ?_⟩
  unfold dAdd at e
  split at e
  · cases e; cases rx; cases ry
    exact .inl ⟨_, _, rfl, rfl, k G H _ (Ext.refl gh) (.int _)⟩
  · split at e
    · cases e; cases rx; cases ry
      rename_i z
      exact .inr (.inl ⟨_, _, rfl, rfl, Nat.le_trans (Nat.le_of_lt z) line_big, k G H _ (Ext.refl gh) (.str _)⟩)
    · cases e
  · split at e
    · cases e
      rename_i z
      cases rx with
      | lst h1 r1 =>
        cases ry with
        | lst h2 r2 =>
          refine .inr (.inr ⟨_, _, _, _, rfl, rfl, gh _ _ h1, gh _ _ h2, ?_, fun p hp => ?_⟩)
          · rw [r1.length, r2.length]; exact Nat.le_trans (Nat.le_of_lt z) line_big
          · exact k _ _ _ (Ext.new1 gh hp) (.lst upd_same ((r1.append r2).mono (same_upd (gh.free hp))))
    · cases e
  · cases e
theorem od_sub : OpD X (binaryOp .Sub) dSub := opd_i0 op_sub fun x y d e => by
  unfold dSub at e
  split at e
  · cases e; exact ⟨_, _, rfl, rfl, fun _ _ _ => .int _⟩
  · cases e
theorem od_mul : OpD X (binaryOp .Mult) dMul := opd_i op_mulOk fun x y d e => by
  unfold dMul at e
  split at e
  · split at e
    · cases e; rename_i z; exact ⟨_, _, rfl, rfl, z, fun _ _ _ => .int _⟩
    · cases e
  · cases e
theorem od_div : OpD X (binaryOp .FloorDiv) dDiv := opd_i op_fdivW fun x y d e => by
  unfold dDiv at e
  split at e
  · split at e
    · cases e; rename_i z; exact ⟨_, _, rfl, rfl, z, fun _ _ _ => .int _⟩
    · cases e
  · cases e
theorem od_mod : OpD X (binaryOp .Mod) dMod := opd_i op_mod fun x y d e => by
  unfold dMod at e
  split at e
  · split at e
    · cases e; rename_i z; exact ⟨_, _, rfl, rfl, z, fun _ _ _ => .int _⟩
    · cases e
  · cases e
theorem od_pow : OpD X (binaryOp .Pow) dPow := opd_i op_pow fun x y d e => by
  unfold dPow at e
  split at e
  · split at e
    · cases e; rename_i z; exact ⟨_, _, rfl, rfl, z, fun _ _ _ => .int _⟩
    · cases e
  · cases e
theorem od_lt : OpD X (compareOp .Lt) dLt := opd_i0 op_lt fun x y d e => by
  unfold dLt at e
  split at e
  · cases e; exact ⟨_, _, rfl, rfl, fun _ _ _ => .bl _⟩
  · cases e
theorem od_le : OpD X (compareOp .LtE) dLe := opd_i0 op_le fun x y d e => by
  unfold dLe at e
  split at e
  · cases e; exact ⟨_, _, rfl, rfl, fun _ _ _ => .bl _⟩
  · cases e
theorem od_gt : OpD X (compareOp .Gt) dGt := opd_i0 op_gt fun x y d e => by
  unfold dGt at e
  split at e
  · cases e; exact ⟨_, _, rfl, rfl, fun _ _ _ => .bl _⟩
  · cases e
theorem od_ge : OpD X (compareOp .GtE) dGe := opd_i0 op_ge fun x y d e => by
  unfold dGe at e
  split at e
  · cases e; exact ⟨_, _, rfl, rfl, fun _ _ _ => .bl _⟩
  · cases e
end

/-! equality -/
mutual
def toPy : D → PyData
  | .non => .none
  | .bl b => .bool b
  | .int i => .int i
  | .str x => .str x
  | .lst xs => .list (toPys xs)
  | .tup xs => .tuple (toPys xs)
  | .scr ns => .list (ns.map PyData.int)
  | .obj _ _ => .none
  | .fn _ _ _ _ _ => .none
  | .dic _ _ => .none
  | .lls _ => .none
  | .exc _ _ _ => .none
def toPys : List D → List PyData
  | [] => []
  | x :: xs => toPy x :: toPys xs
end
mutual
def pyOk : D → Bool
  | .obj _ _ => false
  | .fn _ _ _ _ _ => false
  | .dic _ _ => false
  | .lls _ => false
  | .exc _ _ _ => false
  | .lst xs => pyOks xs
  | .tup xs => pyOks xs
  | _ => true
def pyOks : List D → Bool
  | [] => true
  | x :: xs => pyOk x && pyOks xs
end
section
variable {K : PySem.W.Frag} {mg : Str → Option Value} {G H : Hp}
theorem dpInts : ∀ ns : List Int, DpAll K H (ns.map V.int) (ns.map PyData.int)
  | [] => .nil
  | n :: ns => .cons (.int n) (dpInts ns)
mutual
theorem Rep.dp (gh : Same G H) : ∀ {v : V} {d : D}, Rep K mg G v d → pyOk d = true → Dp K H v (toPy d)
  | _, _, .non, _ => by rw [toPy]; exact .non
  | _, _, .bl b, _ => by rw [toPy]; exact .bl b
  | _, _, .int i, _ => by rw [toPy]; exact .int i
  | _, _, .str x, _ => by rw [toPy]; exact .str x
  | _, _, .lst h r, e => by rw [toPy]; exact .lst (SqL.of (gh _ _ h)) (RepL.dp gh r (by simpa [pyOk] using e))
  | _, _, .tup h r, e => by rw [toPy]; exact .tup (sqt_same gh h) (RepL.dp gh r (by simpa [pyOk] using e))
  | _, _, .scr h, _ => by rw [toPy]; exact .lst (gh.seq h) (dpInts _)
  | _, _, .obj _ _ _, e => by simp [pyOk] at e
  | _, _, .fn _ _, e => by simp [pyOk] at e
  | _, _, .dic _ _ _, e => by simp [pyOk] at e
  | _, _, .lls _ _, e => by simp [pyOk] at e
  | _, _, .exc _, e => by simp [pyOk] at e
theorem RepL.dp (gh : Same G H) : ∀ {v : List V} {d : List D}, RepL K mg G v d → pyOks d = true → DpAll K H v (toPys d)
  | _, _, .nil, _ => by rw [toPys]; exact .nil
  | _, _, .cons h r, e => by
    rw [toPys]
    have e' := e
    simp only [pyOks, Bool.and_eq_true] at e'
    exact .cons (Rep.dp gh h e'.1) (RepL.dp gh r e'.2)
end
theorem RepB.dp (gh : Same G H) {v : V} {d : D} (r : RepB K mg G H v d) (e : pyOk d = true) : Dp K H v (toPy d) := by
  cases r with
  | sh r => exact r.dp gh e
  | li h r => rw [toPy]; exact .lst (SqL.of h) (r.dp gh (by simpa [pyOk] using e))
  | obj hm h r => simp [pyOk] at e
  | dic h l r => simp [pyOk] at e
  | lls h r => simp [pyOk] at e
end
/-- == of data -/
def eqd (x y : D) : Bool := PyData.eqv (toPy x) (toPy y)
def eqOk (x : D) : Bool := pyOk x && SeqAt.shaped (toPy x)
def dEq (x y : D) : Option D := if eqOk x && eqOk y then some (.bl (eqd x y)) else none
def dNe (x y : D) : Option D := if eqOk x && eqOk y then some (.bl (!eqd x y)) else none
/-- is None, is not None -/
def isNon : D → Bool
  | .non => true
  | _ => false
def dIsN : D → D → Option D
  | x, .non => some (.bl (isNon x))
  | .bl a, .bl b => some (.bl (decide (a = b)))
  | _, _ => none
def dNoN : D → D → Option D
  | x, .non => some (.bl (!isNon x))
  | .bl a, .bl b => some (.bl (!decide (a = b)))
  | _, _ => none
section
variable {X : Cx} {e a b : Expr} {es : List Expr} {f g : Ex} {fs : Ag} {pos : Pos} {n : Nat}
/-- of what is looked at -/
def OpB (X : Cx) (fn : Value → Value → Sem Value) (o : D → D → Option D) : Prop :=
  ∃ r, OpR X fn r ∧ ∀ x y d v w G H Q, Same G H → o x y = some d → RepB X.K X.mg G H v x → RepB X.K X.mg G H w y → (∀ G' H' u, Ext G H G' H' → Rep X.K X.mg G' u d → Q u H') → r v w H Q
theorem opb_run {r : R2} {o : D → D → Option D} (hr : ∀ x y d v w G H Q, Same G H → o x y = some d → RepB X.K X.mg G H v x → RepB X.K X.mg G H w y → (∀ G' H' u, Ext G H G' H' → Rep X.K X.mg G' u d → Q u H') → r v w H Q)
    {t u : TE} (h2 : ∀ G0 H0 Z Γ σ G H Q d, Rel X.K X.mg G0 H0 Z Γ σ G H → f Γ = some d → (∀ G' H' v, Ext G H G' H' → RepB X.K X.mg G' H' v d → Q v H') → t σ H Q)
    (q2 : ∀ G0 H0 Z Γ σ G H Q d, Rel X.K X.mg G0 H0 Z Γ σ G H → g Γ = some d → (∀ G' H' v, Ext G H G' H' → RepB X.K X.mg G' H' v d → Q v H') → u σ H Q) :
    ∀ G0 H0 Z Γ σ G H Q d, Rel X.K X.mg G0 H0 Z Γ σ G H → gOp o f g Γ = some d → (∀ G' H' v, Ext G H G' H' → Rep X.K X.mg G' v d → Q v H') → tOp r t u σ H Q := fun G0 H0 Z Γ σ G H Q d R hf k => by
  obtain ⟨x, e1, hf⟩ := obind hf
  obtain ⟨y, e2, hf⟩ := obind hf
  refine h2 G0 H0 Z Γ σ G H _ x R e1 fun G1 H1 v x1 r1 => ?_
  refine q2 G0 H0 Z Γ σ G1 H1 _ y (R.ext x1) e2 fun G2 H2 w x2 r2 => ?_
  exact hr x y d v w G2 H2 Q x2.gh hf (r1.ext x2) r2 fun G3 H3 u x3 r3 => k G3 H3 u ((x1.trans x2).trans x3) r3
theorem e_cmpB {op : CmpOp} {o : D → D → Option D} (ho : OpB X (compareOp op) o) (ha : B X a f) (hb : B X b g) (hm : behindInMarks op b = false := by first | exact nomark _ | rfl) : E X (.Compare a [op] [b] pos) (gOp o f g) := by
  obtain ⟨r, hr, hr2⟩ := ho
  obtain ⟨t, h1, h2⟩ := ha.ex
  obtain ⟨u, q1, q2⟩ := hb.ex
  exact ⟨⟨_, pe_cmpR hr h1 q1 hm, opb_run hr2 h2 q2⟩⟩
theorem t_cmpB {op : CmpOp} {o : D → D → Option D} (ho : OpB X (compareOp op) o) (ha : B X a f) (hb : B X b g) (hm : behindInMarks op b = false := by first | exact nomark _ | rfl) : T X (.Compare a [op] [b] pos) (gT (gOp o f g)) := by
  obtain ⟨r, hr, hr2⟩ := ho
  obtain ⟨t, h1, h2⟩ := ha.ex
  obtain ⟨u, q1, q2⟩ := hb.ex
  refine ⟨⟨_, pt_cmpR hr h1 q1 hm, fun G0 H0 Z Γ σ G H Q c R hf k => ?_⟩⟩
  refine opb_run hr2 h2 q2 G0 H0 Z Γ σ G H _ _ R (gT_some hf) fun G' H' v x r => ?_
  cases r
  exact ⟨_, rfl, k G' H' x⟩
theorem ob_eq (hu : X.A.units + 64 < cLine) : OpB X (compareOp .Eq) dEq := by
  refine ⟨_, op_eqD hu, fun x y d v w G H Q gh e rx ry k => ?_⟩
  unfold dEq at e
  split at e
  · rename_i z
    cases e
    simp only [eqOk, Bool.and_eq_true] at z
    exact ⟨_, _, rx.dp gh z.1.1, ry.dp gh z.2.1, z.1.2, z.2.2, k G H _ (Ext.refl gh) (.bl _)⟩
  · cases e
theorem ob_ne (hu : X.A.units + 64 < cLine) : OpB X (compareOp .NotEq) dNe := by
  refine ⟨_, op_neD hu, fun x y d v w G H Q gh e rx ry k => ?_⟩
  unfold dNe at e
  split at e
  · rename_i z
    cases e
    simp only [eqOk, Bool.and_eq_true] at z
    exact ⟨_, _, rx.dp gh z.1.1, ry.dp gh z.2.1, z.1.2, z.2.2, k G H _ (Ext.refl gh) (.bl _)⟩
  · cases e
theorem ob_isN : OpB X (compareOp .Is) dIsN := by
  refine ⟨_, opr_or op_isN op_isBl, fun x y d v w G H Q gh e rx ry k => ?_⟩
  have nb : ∀ {w : V}, RepB X.K X.mg G H w .non → w = .non := fun r => by
    cases r with | sh r => cases r; rfl
  have bb : ∀ {w : V} {b : Bool}, RepB X.K X.mg G H w (.bl b) → w = .bl b := fun r => by
    cases r with | sh r => cases r; rfl
  unfold dIsN at e
  split at e
  · cases e
    have e2 := nb ry
    subst e2
    refine .inl ⟨rfl, k G H _ (Ext.refl gh) ?_⟩
    have q : decide (v = V.non) = isNon x := by
      cases x with
      | non => rw [nb rx]; rfl
      | lst xs => obtain ⟨_, _, rfl, _⟩ := rx.lst gh; rfl
      | bl b => rw [bb rx]; rfl
      | obj c ds => cases rx with
        | sh rx => cases rx; rfl
        | obj _ _ _ => rfl
      | dic _ _ => cases rx with
        | sh rx => cases rx; rfl
        | dic _ _ _ => rfl
      | lls _ => cases rx with
        | sh rx => cases rx; rfl
        | lls _ _ => rfl
      | _ => cases rx with | sh rx => cases rx; rfl
    rw [q]
    exact .bl _
  · cases e
    rw [bb rx, bb ry]
    exact .inr ⟨_, _, rfl, rfl, k G H _ (Ext.refl gh) (.bl _)⟩
  · cases e
theorem ob_noN : OpB X (compareOp .IsNot) dNoN := by
  refine ⟨_, opr_or op_notN op_notBl, fun x y d v w G H Q gh e rx ry k => ?_⟩
  have nb : ∀ {w : V}, RepB X.K X.mg G H w .non → w = .non := fun r => by
    cases r with | sh r => cases r; rfl
  have bb : ∀ {w : V} {b : Bool}, RepB X.K X.mg G H w (.bl b) → w = .bl b := fun r => by
    cases r with | sh r => cases r; rfl
  unfold dNoN at e
  split at e
  · cases e
    have e2 := nb ry
    subst e2
    refine .inl ⟨rfl, k G H _ (Ext.refl gh) ?_⟩
    have q : (!decide (v = V.non)) = !isNon x := by
      cases x with
      | non => rw [nb rx]; rfl
      | lst xs => obtain ⟨_, _, rfl, _⟩ := rx.lst gh; rfl
      | bl b => rw [bb rx]; rfl
      | obj c ds => cases rx with
        | sh rx => cases rx; rfl
        | obj _ _ _ => rfl
      | dic _ _ => cases rx with
        | sh rx => cases rx; rfl
        | dic _ _ _ => rfl
      | lls _ => cases rx with
        | sh rx => cases rx; rfl
        | lls _ _ => rfl
      | _ => cases rx with | sh rx => cases rx; rfl
    rw [q]
    exact .bl _
  · cases e
    rw [bb rx, bb ry]
    exact .inr ⟨_, _, rfl, rfl, k G H _ (Ext.refl gh) (.bl _)⟩
  · cases e

/-! a comparison in a row: a < b <= c -/
structure PCh (X : Cx) (ops : List CmpOp) (es : List Expr) (t : V → TE) : Prop where
  run : ∀ (pos : Pos) (pins : List (Addr × Obj)) (s : Shared) (σ : L2.St) (H : Hp) (Q : VK) (x : V) (v : Value), Inv X pins σ H s → RelV x v → t x σ H Q →
    wpAny (model X.prog X.w) X.A (compareChain pos v ops (evalEach es X.env)) (EP X pins σ Q) X.xe s
structure PTCh (X : Cx) (ops : List CmpOp) (es : List Expr) (t : V → TT) : Prop where
  run : ∀ (pos : Pos) (pins : List (Addr × Obj)) (s : Shared) (σ : L2.St) (H : Hp) (Q : Bool → Hp → Prop) (x : V) (v : Value), Inv X pins σ H s → RelV x v → t x σ H Q →
    wpAny (model X.prog X.w) X.A (testChain pos v ops (evalEach es X.env)) (TP X pins σ Q) X.xe s
variable {op op' : CmpOp} {ops : List CmpOp} {r r' : R2} {ta tb : TE} {tc : V → TE} {tt : V → TT} {pos' : Pos}
theorem pch_last (ho : OpR X (compareOp op) r) (hb : PE X b tb) : PCh X [op] [b] (fun x σ H Q => tb σ H fun y H1 => r x y H1 Q) := by
  refine ⟨fun pos pins s σ H Q x v I rx h => ?_⟩
  exact PyProof.Rows.chain_last (thn (hb.run pins s σ H _ I h) fun u s2 ⟨y, H2, I2, r2, q2⟩ => ho pins s2 σ H2 x y v u _ I2 rx r2 q2)
theorem pch_cons (ho : OpR X (compareOp op) r) (ha : PE X a ta) (hc : PCh X (op' :: ops) (b :: es) tc) : PCh X (op :: op' :: ops) (a :: b :: es) (fun x σ H Q => ta σ H fun y H1 => r x y H1 fun z H2 => ∃ k, z = .bl k ∧ if k = true then tc y σ H2 Q else Q (.bl false) H2) := by
  refine ⟨fun pos pins s σ H Q x v I rx h => ?_⟩
  refine PyProof.Rows.chain_link (thn (ha.run pins s σ H _ I h) fun u s2 ⟨y, H2, I2, r2, q2⟩ => thn (ho pins s2 σ H2 x y v u _ I2 rx r2 q2) fun d s3 ⟨z, H3, I3, r3, k, e, q3⟩ => ?_)
  subst e
  cases r3
  refine wpAny_truthy_bool ?_
  cases k with
  | false => exact PyProof.Rows.ite_ff ⟨.bl false, H3, I3, rfl, q3⟩
  | true => exact PyProof.Rows.ite_tt (hc.run pos pins s3 σ H3 Q y u I3 r2 q3)
theorem pe_chn (ha : PE X e ta) (hc : PCh X (op :: op' :: ops) (a :: b :: es) tc) (hm : lastMarks (op :: op' :: ops) (a :: b :: es) = false := by with_unfolding_all rfl) : PE X (.Compare e (op :: op' :: ops) (a :: b :: es) pos) (fun σ H Q => ta σ H fun x H1 => tc x σ H1 Q) := by
  refine ⟨fun pins s σ H Q I h => ?_⟩
  exact PyProof.Rows.Compare_chain (thn (ha.run pins s σ H _ I h) fun v s1 ⟨x, H1, I1, r1, q1⟩ => hc.run pos pins s1 σ H1 Q x v I1 r1 q1) hm
theorem ptch_last (ho : OpR X (compareOp op) r) (hb : PE X b tb) : PTCh X [op] [b] (fun x σ H Q => tb σ H fun y H1 => r x y H1 fun z H2 => ∃ k, z = .bl k ∧ Q k H2) := by
  refine ⟨fun pos pins s σ H Q x v I rx h => ?_⟩
  refine PyProof.Rows.test_last (thn (hb.run pins s σ H _ I h) fun u s2 ⟨y, H2, I2, r2, q2⟩ => thn (ho pins s2 σ H2 x y v u _ I2 rx r2 q2) fun d s3 ⟨z, H3, I3, r3, k, e, q3⟩ => ?_)
  subst e
  cases r3
  exact wpAny_truthy_bool ⟨H3, I3, q3⟩
theorem ptch_cons (ho : OpR X (compareOp op) r) (ha : PE X a ta) (hc : PTCh X (op' :: ops) (b :: es) tt) : PTCh X (op :: op' :: ops) (a :: b :: es) (fun x σ H Q => ta σ H fun y H1 => r x y H1 fun z H2 => ∃ k, z = .bl k ∧ if k = true then tt y σ H2 Q else Q false H2) := by
  refine ⟨fun pos pins s σ H Q x v I rx h => ?_⟩
  refine PyProof.Rows.test_link (thn (ha.run pins s σ H _ I h) fun u s2 ⟨y, H2, I2, r2, q2⟩ => thn (ho pins s2 σ H2 x y v u _ I2 rx r2 q2) fun d s3 ⟨z, H3, I3, r3, k, e, q3⟩ => ?_)
  subst e
  cases r3
  refine wpAny_truthy_bool ?_
  cases k with
  | false => exact PyProof.Rows.ite_ff ⟨H3, I3, q3⟩
  | true => exact PyProof.Rows.ite_tt (hc.run pos pins s3 σ H3 Q y u I3 r2 q3)
theorem pt_chn (ha : PE X e ta) (hc : PTCh X (op :: op' :: ops) (a :: b :: es) tt) (hm : lastMarks (op :: op' :: ops) (a :: b :: es) = false := by with_unfolding_all rfl) : PT X (.Compare e (op :: op' :: ops) (a :: b :: es) pos) (fun σ H Q => ta σ H fun x H1 => tt x σ H1 Q) := by
  refine ⟨fun pins s σ H Q I h => ?_⟩
  exact PyProof.Rows.isTrue_chain (thn (ha.run pins s σ H _ I h) fun v s1 ⟨x, H1, I1, r1, q1⟩ => hc.run pos pins s1 σ H1 Q x v I1 r1 q1) hm
/-- by data -/
structure Ch (X : Cx) (ops : List CmpOp) (es : List Expr) (f : D → Te) : Prop where
  ex : ∃ t u, PCh X ops es t ∧ PTCh X ops es u ∧
    (∀ G0 H0 Z Γ σ G H Q d x v, Rel X.K X.mg G0 H0 Z Γ σ G H → Rep X.K X.mg G v x → f x Γ = some d → (∀ G' H', Ext G H G' H' → Q (.bl d) H') → t v σ H Q) ∧
    (∀ G0 H0 Z Γ σ G H Q d x v, Rel X.K X.mg G0 H0 Z Γ σ G H → Rep X.K X.mg G v x → f x Γ = some d → (∀ G' H', Ext G H G' H' → Q d H') → u v σ H Q)
def dB : Option D → Option Bool
  | some (.bl b) => some b
  | _ => none
theorem dB_some {o : Option D} {b : Bool} (h : dB o = some b) : o = some (.bl b) := by
  unfold dB at h
  split at h
  · cases h; rfl
  · cases h
def gCh1 (o : D → D → Option D) (f : Ex) : D → Te := fun x Γ => (f Γ).bind fun y => dB (o x y)
def gChn (o : D → D → Option D) (f : Ex) (r : D → Te) : D → Te := fun x Γ => (f Γ).bind fun y => (dB (o x y)).bind fun b => if b then r y Γ else some false
variable {o : D → D → Option D} {c : D → Te}
theorem c_last (ho : OpD X (compareOp op) o) (hb : E X b f) : Ch X [op] [b] (gCh1 o f) := by
  obtain ⟨r, hr, hr2⟩ := ho
  obtain ⟨t, h1, h2⟩ := hb.ex
  refine ⟨⟨_, _, pch_last hr h1, ptch_last hr h1, fun G0 H0 Z Γ σ G H Q d x v R rx hf k => ?_, fun G0 H0 Z Γ σ G H Q d x v R rx hf k => ?_⟩⟩
  · obtain ⟨y, e1, hf⟩ := obind hf
    refine h2 G0 H0 Z Γ σ G H _ y R e1 fun G1 H1 w x1 r1 => ?_
    refine hr2 x y _ v w G1 H1 _ x1.gh (dB_some hf) (rx.mono x1.gg) r1 fun G2 H2 u x2 r2 => ?_
    cases r2
    exact k G2 H2 (x1.trans x2)
  · obtain ⟨y, e1, hf⟩ := obind hf
    refine h2 G0 H0 Z Γ σ G H _ y R e1 fun G1 H1 w x1 r1 => ?_
    refine hr2 x y _ v w G1 H1 _ x1.gh (dB_some hf) (rx.mono x1.gg) r1 fun G2 H2 u x2 r2 => ?_
    cases r2
    exact ⟨_, rfl, k G2 H2 (x1.trans x2)⟩
theorem c_cons (ho : OpD X (compareOp op) o) (ha : E X a f) (hc : Ch X (op' :: ops) (b :: es) c) : Ch X (op :: op' :: ops) (a :: b :: es) (gChn o f c) := by
  obtain ⟨r, hr, hr2⟩ := ho
  obtain ⟨t, h1, h2⟩ := ha.ex
  obtain ⟨tc, tt, c1, c2, c3, c4⟩ := hc.ex
  refine ⟨⟨_, _, pch_cons hr h1 c1, ptch_cons hr h1 c2, fun G0 H0 Z Γ σ G H Q d x v R rx hf k => ?_, fun G0 H0 Z Γ σ G H Q d x v R rx hf k => ?_⟩⟩
  · obtain ⟨y, e1, hf⟩ := obind hf
    obtain ⟨z, e2, hf⟩ := obind hf
    refine h2 G0 H0 Z Γ σ G H _ y R e1 fun G1 H1 w x1 r1 => ?_
    refine hr2 x y _ v w G1 H1 _ x1.gh (dB_some e2) (rx.mono x1.gg) r1 fun G2 H2 u x2 r2 => ?_
    cases r2
    refine ⟨_, rfl, ?_⟩
    cases z with
    | true => exact iteT (c3 G0 H0 Z Γ σ G2 H2 Q d y w ((R.ext x1).ext x2) (r1.mono x2.gg) hf fun G3 H3 x3 => k G3 H3 ((x1.trans x2).trans x3))
    | false => cases hf; exact iteF (k G2 H2 (x1.trans x2))
  · obtain ⟨y, e1, hf⟩ := obind hf
    obtain ⟨z, e2, hf⟩ := obind hf
    refine h2 G0 H0 Z Γ σ G H _ y R e1 fun G1 H1 w x1 r1 => ?_
    refine hr2 x y _ v w G1 H1 _ x1.gh (dB_some e2) (rx.mono x1.gg) r1 fun G2 H2 u x2 r2 => ?_
    cases r2
    refine ⟨_, rfl, ?_⟩
    cases z with
    | true => exact iteT (c4 G0 H0 Z Γ σ G2 H2 Q d y w ((R.ext x1).ext x2) (r1.mono x2.gg) hf fun G3 H3 x3 => k G3 H3 ((x1.trans x2).trans x3))
    | false => cases hf; exact iteF (k G2 H2 (x1.trans x2))
def gCh (f : Ex) (c : D → Te) : Te := fun Γ => (f Γ).bind fun x => c x Γ
theorem v_chn (ha : E X e f) (hc : Ch X (op :: op' :: ops) (a :: b :: es) c) (hm : lastMarks (op :: op' :: ops) (a :: b :: es) = false := by with_unfolding_all rfl) : V1 X (.Compare e (op :: op' :: ops) (a :: b :: es) pos) (gCh f c) := by
  obtain ⟨t, h1, h2⟩ := ha.ex
  obtain ⟨tc, tt, c1, c2, c3, c4⟩ := hc.ex
  refine ⟨⟨⟨_, pe_chn h1 c1 hm, fun G0 H0 Z Γ σ G H Q d R hf k => ?_⟩⟩⟩
  obtain ⟨y, e1, hf⟩ := obind hf
  cases hf
  obtain ⟨x, e1, hf⟩ := obind e1
  refine h2 G0 H0 Z Γ σ G H _ x R e1 fun G1 H1 w x1 r1 => ?_
  exact c3 G0 H0 Z Γ σ G1 H1 Q _ x w (R.ext x1) r1 hf fun G2 H2 x2 => k G2 H2 _ (x1.trans x2) (.bl _)
theorem t_chn (ha : E X e f) (hc : Ch X (op :: op' :: ops) (a :: b :: es) c) (hm : lastMarks (op :: op' :: ops) (a :: b :: es) = false := by with_unfolding_all rfl) : T X (.Compare e (op :: op' :: ops) (a :: b :: es) pos) (gCh f c) := by
  obtain ⟨t, h1, h2⟩ := ha.ex
  obtain ⟨tc, tt, c1, c2, c3, c4⟩ := hc.ex
  refine ⟨⟨_, pt_chn h1 c2 hm, fun G0 H0 Z Γ σ G H Q d R hf k => ?_⟩⟩
  obtain ⟨x, e1, hf⟩ := obind hf
  refine h2 G0 H0 Z Γ σ G H _ x R e1 fun G1 H1 w x1 r1 => ?_
  exact c4 G0 H0 Z Γ σ G1 H1 Q _ x w (R.ext x1) r1 hf fun G2 H2 x2 => k G2 H2 (x1.trans x2)
end
end DL

namespace DL
open PySem L2
variable [TC : TabCtx]

section
variable {K : PySem.W.Frag} {mg : Str → Option Value} {G H : Hp}
theorem atI_map {α β : Type} {xs : List α} {i : Int} {f : α → β} : atI (xs.map f) i = (atI xs i).map f := by
  unfold atI
  rw [List.length_map]
  cases ixN xs.length i with
  | none => rfl
  | some j => simp [List.getElem?_map]
theorem RepL.at {vs : List V} {ds : List D} {i : Int} {d : D} (r : RepL K mg G vs ds) (h : atI ds i = some d) : ∃ v, atI vs i = some v ∧ Rep K mg G v d := by
  unfold atI at h ⊢
  rw [r.length]
  cases e : ixN ds.length i with
  | none => rw [e] at h; cases h
  | some j =>
    rw [e] at h
    exact r.get j h
/-- what a slice takes -/
def cutD {α : Type} (xs : List α) (lo hi : Option Int) : List α := (xs.drop (HT.sIx xs.length 0 lo)).take (HT.sIx xs.length xs.length hi - HT.sIx xs.length 0 lo)
theorem RepL.cut {vs : List V} {ds : List D} {lo hi : Option Int} (r : RepL K mg G vs ds) : RepL K mg G (cutV vs lo hi) (cutD ds lo hi) := by
  unfold cutV cutD
  rw [r.length]
  exact (r.drop _).take _
theorem cutV_ints (ns : List Int) (lo hi : Option Int) : cutV (ns.map V.int) lo hi = (cutD ns lo hi).map V.int := by
  unfold cutV cutD
  rw [List.length_map, List.map_take, List.map_drop]
end

/-! ### the classes -/
structure CK (K : PySem.W.Frag) (mg : Str → Option Value) (c : Nat) (C : Addr) : Prop where
  hm : mg (cN c) = some (.ref C)
  cl : Cls K C
  na : ∀ f ∈ cF c, NoAttr K C f
theorem zip_lookup : ∀ {ns : List Str} {vs : List V} {j : Nat} {x : Str} {v : V}, ns.Nodup → ns[j]? = some x → vs[j]? = some v → (ns.zip vs).lookup x = some v
  | [], _, _, _, _, _, h, _ => by simp at h
  | _ :: _, [], _, _, _, _, _, h => by simp at h
  | n :: ns, w :: vs, 0, x, v, nd, h1, h2 => by
    simp at h1 h2; subst h1; subst h2
    simp [List.zip, List.lookup]
  | n :: ns, w :: vs, j + 1, x, v, nd, h1, h2 => by
    have hn : x ≠ n := fun e => by
      subst e
      exact (List.nodup_cons.mp nd).1 (List.mem_of_getElem? (by simpa using h1))
    rw [List.zip_cons_cons, List.lookup_cons]
    have e : (x == n) = false := beq_eq_false_iff_ne.mpr hn
    rw [e]
    exact zip_lookup (j := j) (List.nodup_cons.mp nd).2 (by simpa using h1) (by simpa using h2)
theorem zip_lookup_none : ∀ {ns : List Str} {vs : List V} {x : Str}, x ∉ ns → (ns.zip vs).lookup x = none
  | [], _, _, _ => by simp
  | _ :: _, [], _, _ => by simp
  | n :: ns, w :: vs, x, h => by
    rw [List.zip_cons_cons, List.lookup_cons]
    have e : (x == n) = false := beq_eq_false_iff_ne.mpr fun e => h (by simp [e])
    rw [e]
    exact zip_lookup_none fun z => h (List.mem_cons_of_mem _ z)

section
variable {X : Cx} {e a b o : Expr} {es : List Expr} {f g : Ex} {fs : Ag} {pos : Pos} {n : Nat}

/-! subscripts -/
def dIx : D → D → Option D
  | .lst xs, .int i => atI xs i
  | .tup xs, .int i => atI xs i
  | .scr ns, .int i => (atI ns i).map D.int
  | .str z, .int i => if z.length < 1000000 then (atI z.cps.toList i).map fun c => .str ⟨#[c]⟩ else none
  | _, _ => none
abbrev gIx (f g : Ex) : Ex := gOp dIx f g
theorem Rep.intv {K mg G v i} (r : Rep K mg G v (.int i)) : v = .int i := by cases r; rfl
theorem Rep.strv {K mg G v i} (r : Rep K mg G v (.str i)) : v = .str i := by cases r; rfl
theorem Rep.blv {K mg G v i} (r : Rep K mg G v (.bl i)) : v = .bl i := by cases r; rfl
theorem RepB.flat {K mg G H v d} (r : RepB K mg G H v d) (h : ∀ xs, d ≠ .lst xs) (h' : ∀ c xs, d ≠ .obj c xs := by simp) (h'' : ∀ ks xs, d ≠ .dic ks xs := by simp) (h3 : ∀ xs, d ≠ .lls xs := by simp) : Rep K mg G v d := by
  cases r with
  | sh r => exact r
  | li _ _ => exact absurd rfl (h _)
  | obj _ _ _ => exact absurd rfl (h' _ _)
  | dic _ _ _ => exact absurd rfl (h'' _ _)
  | lls _ _ => exact absurd rfl (h3 _)
theorem e_ix (ha : B X a f) (hb : E X b g) (hs : PlainIx b := by exact fun _ _ => rfl) : E X (.Subscript a b pos) (gIx f g) := by
  obtain ⟨t, h1, h2⟩ := ha.ex
  obtain ⟨u, q1, q2⟩ := hb.ex
  refine ⟨⟨_, pe_ix ix_seq h1 q1 hs, fun G0 H0 Z Γ σ G H Q d R hf k => ?_⟩⟩
  obtain ⟨x, e1, hf⟩ := obind hf
  obtain ⟨y, e2, hf⟩ := obind hf
  refine h2 G0 H0 Z Γ σ G H _ x R e1 fun G1 H1 v x1 r1 => ?_
  refine q2 G0 H0 Z Γ σ G1 H1 _ y (R.ext x1) e2 fun G2 H2 w x2 r2 => ?_
  have r1' := r1.ext x2
  have fin : ∀ v, Rep X.K X.mg G2 v d → Q v H2 := fun v r => k G2 H2 v (x1.trans x2) r
  cases x with
  | lst xs =>
    cases y with
    | int i =>
      obtain ⟨p, vs, rfl, h, r⟩ := r1'.lst x2.gh
      obtain ⟨v, h3, h4⟩ := r.at hf
      rw [r2.intv]
      exact .inl ⟨p, vs, _, v, rfl, rfl, SqL.of h, h3, fin v h4⟩
    | _ => cases hf
  | tup xs =>
    cases y with
    | int i =>
      obtain ⟨p, vs, rfl, h, r⟩ := r1'.tup x2.gh
      obtain ⟨v, h3, h4⟩ := r.at hf
      rw [r2.intv]
      exact .inr (.inl ⟨p, vs, _, v, rfl, rfl, h, h3, fin v h4⟩)
    | _ => cases hf
  | scr ns =>
    cases y with
    | int i =>
      obtain ⟨p, rfl, h⟩ := r1'.scr x2.gh
      rw [r2.intv]
      replace hf : (atI ns i).map D.int = some d := hf
      cases e3 : atI ns i with
      | none => rw [e3] at hf; cases hf
      | some m =>
        rw [e3] at hf; cases hf
        exact .inl ⟨p, _, i, .int m, rfl, rfl, h, by rw [atI_map, e3]; rfl, fin _ (.int m)⟩
    | _ => cases hf
  | str z =>
    cases y with
    | int i =>
      replace hf : (if z.length < 1000000 then (atI z.cps.toList i).map fun c => D.str ⟨#[c]⟩ else none) = some d := hf
      split at hf
      · rename_i hz
        rw [r2.intv, (r1'.flat (by simp)).strv]
        cases e3 : atI z.cps.toList i with
        | none => rw [e3] at hf; cases hf
        | some c =>
          rw [e3] at hf; cases hf
          exact .inr (.inr ⟨z, i, c, rfl, rfl, Nat.le_trans (Nat.le_of_lt hz) line_big, e3, fin _ (.str _)⟩)
      · cases hf
    | _ => cases hf
  | _ => cases hf

/-! slices of lists -/
abbrev Op := DEnv → Option (Option Int)
structure O (X : Cx) (e : Option Expr) (f : Op) : Prop where
  ex : ∃ t, PO X e t ∧ ∀ G0 H0 Z Γ σ G H Q d, Rel X.K X.mg G0 H0 Z Γ σ G H → f Γ = some d → (∀ G' H', Ext G H G' H' → Q d H') → t σ H Q
def gNo : Op := fun _ => some none
def gSo (f : Ex) : Op := fun Γ => (f Γ).bind fun d => match d with | .int i => some (some i) | _ => none
theorem o_no : O X none gNo := ⟨⟨_, po_none, fun G0 H0 Z Γ σ G H Q d R hf k => by cases hf; exact k G H (Ext.refl R.gh)⟩⟩
theorem o_so (h : E X e f) : O X (some e) (gSo f) := by
  obtain ⟨t, h1, h2⟩ := h.ex
  refine ⟨⟨_, po_some h1, fun G0 H0 Z Γ σ G H Q d R hf k => ?_⟩⟩
  obtain ⟨x, e1, hf⟩ := obind hf
  cases x with
  | int i =>
    cases hf
    refine h2 G0 H0 Z Γ σ G H _ _ R e1 fun G1 H1 v x1 r1 => ?_
    rw [r1.intv]
    exact ⟨i, rfl, k G1 H1 x1⟩
  | _ => cases hf
def dCut : D → Option Int → Option Int → Option (List D)
  | .lst xs, lo, hi => some (cutD xs lo hi)
  | .scr ns, lo, hi => some ((cutD ns lo hi).map D.int)
  | _, _, _ => none
def gSl (f : Ex) (lo hi : Op) : Ag := fun Γ => (f Γ).bind fun x => (lo Γ).bind fun l => (hi Γ).bind fun h => dCut x l h
theorem el_sl {lo hi : Option Expr} {p2 : Pos} {fl fh : Op} (he : B X e f) (hl : O X lo fl) (hh : O X hi fh) : EL X (.Subscript e (.Slice lo hi none p2) pos) (gSl f fl fh) := by
  obtain ⟨t, h1, h2⟩ := he.ex
  obtain ⟨u, q1, q2⟩ := hl.ex
  obtain ⟨w, z1, z2⟩ := hh.ex
  refine ⟨⟨_, pe_slice sl_list h1 q1 z1, fun G0 H0 Z Γ σ G H Q ds R hf k => ?_⟩⟩
  obtain ⟨x, e1, hf⟩ := obind hf
  obtain ⟨l, e2, hf⟩ := obind hf
  obtain ⟨h, e3, hf⟩ := obind hf
  refine h2 G0 H0 Z Γ σ G H _ x R e1 fun G1 H1 v x1 r1 => ?_
  refine q2 G0 H0 Z Γ σ G1 H1 _ l (R.ext x1) e2 fun G2 H2 x2 => ?_
  refine z2 G0 H0 Z Γ σ G2 H2 _ h ((R.ext x1).ext x2) e3 fun G3 H3 x3 => ?_
  have x23 := x2.trans x3
  have r1' := r1.ext x23
  have xx := x1.trans x23
  cases x with
  | lst xs =>
    cases hf
    obtain ⟨p, vs, rfl, h', r⟩ := r1'.lst x3.gh
    refine ⟨p, vs, rfl, SqL.of h', fun q hq => ?_⟩
    exact k G3 _ q _ (xx.trans (Ext.own1 x3.gh hq)) (xx.hf hq) (x3.gh.free hq) upd_same r.cut
  | scr ns =>
    cases hf
    obtain ⟨p, rfl, h'⟩ := r1'.scr x3.gh
    refine ⟨p, _, rfl, h', fun q hq => ?_⟩
    refine k G3 _ q _ (xx.trans (Ext.own1 x3.gh hq)) (xx.hf hq) (x3.gh.free hq) upd_same ?_
    rw [cutV_ints]
    exact RepL.ofInts
  | _ => cases hf

/-! calls of built-ins -/
/-- an argument that is looked at, alone -/
def CbB (X : Cx) (v : Value) (o : D → Option D) : Prop :=
  ∃ r, CallR X v r ∧ ∀ x d v G H Q, Same G H → o x = some d → RepB X.K X.mg G H v x → (∀ G' H' u, Ext G H G' H' → Rep X.K X.mg G' u d → Q u H') → r [v] H Q
def gU (o : D → Option D) (f : Ex) : Ex := fun Γ => (f Γ).bind o
theorem e_cb {id : String} {x : Str} {p : Pos} {q : D → Option D} (hc : CbB X (.builtin id) q) (hg : Gl X x) (hm : X.mg x = none) (hv : bootBuiltins x = some (.builtin id)) (ha : B X a f) (hn : x ≠ "__name__" := by decide) (hdb : (x == ("__debug__" : Str)) = false := by decide)
    (he : starEach [a] X.env = (false, eval a X.env) :: starEach [] X.env := by rfl) (hpl : (backTo pos (starEach [] X.env)).any (·.1) = false := by rfl) : E X (.Call (.Name x p) [a] [] pos) (gU q f) := by
  obtain ⟨r, c1, c2⟩ := hc
  obtain ⟨t, h1, h2⟩ := ha.ex
  refine ⟨⟨_, pe_callB c1 hg hm hv (pa_cons h1 pa_nil he) hn hdb he hpl, fun G0 H0 Z Γ σ G H Q d R hf k => ?_⟩⟩
  obtain ⟨y, e1, hf⟩ := obind hf
  refine h2 G0 H0 Z Γ σ G H _ y R e1 fun G1 H1 v x1 r1 => ?_
  exact c2 y d v G1 H1 Q x1.gh hf r1 fun G2 H2 u x2 r2 => k G2 H2 u (x1.trans x2) r2
theorem e_cty {id : String} {x : Str} {p : Pos} {q : D → Option D} (hc : CbB X (.type id) q) (hg : Gl X x) (hm : X.mg x = none) (hv : bootBuiltins x = some (.type id)) (ha : B X a f) (hn : x ≠ "__name__" := by decide) (hdb : (x == ("__debug__" : Str)) = false := by decide)
    (he : starEach [a] X.env = (false, eval a X.env) :: starEach [] X.env := by rfl) (hpl : (backTo pos (starEach [] X.env)).any (·.1) = false := by rfl) : E X (.Call (.Name x p) [a] [] pos) (gU q f) := by
  obtain ⟨r, c1, c2⟩ := hc
  obtain ⟨t, h1, h2⟩ := ha.ex
  refine ⟨⟨_, pe_callTy c1 hg hm hv (pa_cons h1 pa_nil he) hn hdb he hpl, fun G0 H0 Z Γ σ G H Q d R hf k => ?_⟩⟩
  obtain ⟨y, e1, hf⟩ := obind hf
  refine h2 G0 H0 Z Γ σ G H _ y R e1 fun G1 H1 v x1 r1 => ?_
  exact c2 y d v G1 H1 Q x1.gh hf r1 fun G2 H2 u x2 r2 => k G2 H2 u (x1.trans x2) r2
def dLen : D → Option D
  | .lst xs => some (.int xs.length)
  | .tup xs => some (.int xs.length)
  | .scr ns => some (.int ns.length)
  | .str z => if z.length < 1000000 then some (.int z.length) else none
  | _ => none
theorem callr_or {v : Value} {r r' : List V → Hp → VK → Prop} (h : CallR X v r) (h' : CallR X v r') : CallR X v (fun xs H Q => r xs H Q ∨ r' xs H Q) := by
  intro pins s σ H xs us Q I rx q
  rcases q with q | q
  · exact h pins s σ H xs us Q I rx q
  · exact h' pins s σ H xs us Q I rx q
theorem cb_len : CbB X (.builtin "len") dLen := by
  refine ⟨_, callr_or call_len_seq call_len_str, fun x d v G H Q gh e r k => ?_⟩
  unfold dLen at e
  split at e
  · cases e
    obtain ⟨p, vs, rfl, h, r⟩ := r.lst gh
    exact .inl ⟨p, vs, rfl, .inl (SqL.of h), by rw [r.length]; exact k G H _ (Ext.refl gh) (.int _)⟩
  · cases e
    obtain ⟨p, vs, rfl, h, r⟩ := r.tup gh
    exact .inl ⟨p, vs, rfl, .inr h, by rw [r.length]; exact k G H _ (Ext.refl gh) (.int _)⟩
  · cases e
    obtain ⟨p, rfl, h⟩ := r.scr gh
    exact .inl ⟨p, _, rfl, .inl h, by rw [List.length_map]; exact k G H _ (Ext.refl gh) (.int _)⟩
  · split at e
    · cases e
      rename_i z hz
      rw [(r.flat (by simp)).strv]
      exact .inr ⟨z, rfl, Nat.le_trans (Nat.le_of_lt hz) line_big, k G H _ (Ext.refl gh) (.int _)⟩
    · cases e
  · cases e
def dAbs : D → Option D
  | .int i => some (.int (if i < 0 then -i else i))
  | _ => none
theorem cb_abs : CbB X (.builtin "abs") dAbs := by
  refine ⟨_, call_abs, fun x d v G H Q gh e r k => ?_⟩
  unfold dAbs at e
  split at e
  · cases e
    rw [(r.flat (by simp)).intv]
    exact ⟨_, rfl, k G H _ (Ext.refl gh) (.int _)⟩
  · cases e
def dInt : D → Option D
  | .int i => some (.int i)
  | .bl b => some (.int (if b then 1 else 0))
  | _ => none
theorem cb_int : CbB X (.type "int") dInt := by
  refine ⟨_, call_int1, fun x d v G H Q gh e r k => ?_⟩
  unfold dInt at e
  split at e
  · cases e
    rw [(r.flat (by simp)).intv]
    exact .inl ⟨_, rfl, k G H _ (Ext.refl gh) (.int _)⟩
  · cases e
    rw [(r.flat (by simp)).blv]
    exact .inr ⟨_, rfl, k G H _ (Ext.refl gh) (.int _)⟩
  · cases e
/-! lists of ints, of truth values -/
def ints? : List D → Option (List Int)
  | [] => some []
  | .int i :: r => (ints? r).map (i :: ·)
  | _ :: _ => none
def bls? : List D → Option (List Bool)
  | [] => some []
  | .bl i :: r => (bls? r).map (i :: ·)
  | _ :: _ => none
theorem ints?_map : ∀ ns : List Int, ints? (ns.map D.int) = some ns
  | [] => rfl
  | n :: ns => by simp [ints?, ints?_map ns]
theorem bls?_map : ∀ ns : List Bool, bls? (ns.map D.bl) = some ns
  | [] => rfl
  | n :: ns => by simp [bls?, bls?_map ns]
theorem ints?_some : ∀ {ds : List D} {ns : List Int}, ints? ds = some ns → ds = ns.map D.int
  | [], _, h => by cases h; rfl
  | .int i :: r, ns, h => by
    simp only [ints?, Option.map_eq_some_iff] at h
    obtain ⟨m, h1, rfl⟩ := h
    rw [ints?_some h1]; rfl
  | .non :: _, _, h => by simp [ints?] at h
  | .bl _ :: _, _, h => by simp [ints?] at h
  | .str _ :: _, _, h => by simp [ints?] at h
  | .lst _ :: _, _, h => by simp [ints?] at h
  | .tup _ :: _, _, h => by simp [ints?] at h
  | .scr _ :: _, _, h => by simp [ints?] at h
  | .obj _ _ :: _, _, h => by simp [ints?] at h
theorem bls?_some : ∀ {ds : List D} {ns : List Bool}, bls? ds = some ns → ds = ns.map D.bl
  | [], _, h => by cases h; rfl
  | .bl i :: r, ns, h => by
    simp only [bls?, Option.map_eq_some_iff] at h
    obtain ⟨m, h1, rfl⟩ := h
    rw [bls?_some h1]; rfl
  | .non :: _, _, h => by simp [bls?] at h
  | .int _ :: _, _, h => by simp [bls?] at h
  | .str _ :: _, _, h => by simp [bls?] at h
  | .lst _ :: _, _, h => by simp [bls?] at h
  | .tup _ :: _, _, h => by simp [bls?] at h
  | .scr _ :: _, _, h => by simp [bls?] at h
  | .obj _ _ :: _, _, h => by simp [bls?] at h
def dInts : D → Option (List Int)
  | .lst xs => ints? xs
  | .scr ns => some ns
  | _ => none
theorem RepB.ints {K mg G H v d ns} (gh : Same G H) (r : RepB K mg G H v d) (e : dInts d = some ns) : ∃ p, v = .ref p ∧ SqL K H p (ns.map V.int) := by
  unfold dInts at e
  split at e
  · obtain ⟨p, vs, rfl, h, r⟩ := r.lst gh
    rw [ints?_some e] at r
    rw [r.ints] at h
    exact ⟨p, rfl, SqL.of h⟩
  · cases e
    exact r.scr gh
  · cases e
def maxI : List Int → Int
  | [] => 0
  | [x] => x
  | x :: r => if maxI r > x then maxI r else x
def minI : List Int → Int
  | [] => 0
  | [x] => x
  | x :: r => if minI r < x then minI r else x
theorem maxI_spec : ∀ ns : List Int, 0 < ns.length → maxI ns ∈ ns ∧ ∀ y ∈ ns, y ≤ maxI ns
  | [], h => by simp at h
  | [x], _ => by simp [maxI]
  | x :: y :: r, _ => by
    obtain ⟨h1, h2⟩ := maxI_spec (y :: r) (by simp)
    simp only [maxI]
    by_cases h : maxI (y :: r) > x
    · rw [if_pos h]
      exact ⟨List.mem_cons_of_mem _ h1, fun z hz => by
        rcases List.mem_cons.mp hz with rfl | hz
        · omega
        · exact h2 z hz⟩
    · rw [if_neg h]
      exact ⟨by simp, fun z hz => by
        rcases List.mem_cons.mp hz with rfl | hz
        · omega
        · have := h2 z hz; omega⟩
theorem minI_spec : ∀ ns : List Int, 0 < ns.length → minI ns ∈ ns ∧ ∀ y ∈ ns, minI ns ≤ y
  | [], h => by simp at h
  | [x], _ => by simp [minI]
  | x :: y :: r, _ => by
    obtain ⟨h1, h2⟩ := minI_spec (y :: r) (by simp)
    simp only [minI]
    by_cases h : minI (y :: r) < x
    · rw [if_pos h]
      exact ⟨List.mem_cons_of_mem _ h1, fun z hz => by
        rcases List.mem_cons.mp hz with rfl | hz
        · omega
        · exact h2 z hz⟩
    · rw [if_neg h]
      exact ⟨by simp, fun z hz => by
        rcases List.mem_cons.mp hz with rfl | hz
        · omega
        · have := h2 z hz; omega⟩
def dMax (d : D) : Option D := (dInts d).bind fun ns => if ns.isEmpty then none else some (.int (maxI ns))
def dMin (d : D) : Option D := (dInts d).bind fun ns => if ns.isEmpty then none else some (.int (minI ns))
def dSum (d : D) : Option D := (dInts d).bind fun ns => some (.int ns.sum)
theorem cb_max (hc : X.calm = true) : CbB X (.builtin "max") dMax := by
  refine ⟨_, cr_max hc, fun x d v G H Q gh e r k => ?_⟩
  obtain ⟨ns, e1, e⟩ := obind e
  split at e
  · cases e
  · rename_i z
    cases e
    obtain ⟨p, rfl, h⟩ := r.ints gh e1
    have hl : 0 < ns.length := by
      cases ns with
      | nil => simp at z
      | cons => simp
    obtain ⟨m1, m2⟩ := maxI_spec ns hl
    refine ⟨p, ns, rfl, h, hl, fun m hm hle => ?_⟩
    have : m = maxI ns := Int.le_antisymm (m2 m hm) (hle _ m1)
    rw [this]
    exact k G H _ (Ext.refl gh) (.int _)
theorem cb_min (hc : X.calm = true) : CbB X (.builtin "min") dMin := by
  refine ⟨_, cr_min hc, fun x d v G H Q gh e r k => ?_⟩
  obtain ⟨ns, e1, e⟩ := obind e
  split at e
  · cases e
  · rename_i z
    cases e
    obtain ⟨p, rfl, h⟩ := r.ints gh e1
    have hl : 0 < ns.length := by
      cases ns with
      | nil => simp at z
      | cons => simp
    obtain ⟨m1, m2⟩ := minI_spec ns hl
    refine ⟨p, ns, rfl, h, hl, fun m hm hle => ?_⟩
    have : m = minI ns := Int.le_antisymm (hle _ m1) (m2 m hm)
    rw [this]
    exact k G H _ (Ext.refl gh) (.int _)
theorem cb_sum (hc : X.calm = true) : CbB X (.builtin "sum") dSum := by
  refine ⟨_, cr_sum hc, fun x d v G H Q gh e r k => ?_⟩
  obtain ⟨ns, e1, e⟩ := obind e
  cases e
  obtain ⟨p, rfl, h⟩ := r.ints gh e1
  exact ⟨p, ns, rfl, h, k G H _ (Ext.refl gh) (.int _)⟩
def dBls : D → Option (List Bool)
  | .lst xs => bls? xs
  | _ => none
theorem RepB.bls {K mg G H v d ns} (gh : Same G H) (r : RepB K mg G H v d) (e : dBls d = some ns) : ∃ p, v = .ref p ∧ SqL K H p (ns.map V.bl) := by
  unfold dBls at e
  split at e
  · obtain ⟨p, vs, rfl, h, r⟩ := r.lst gh
    rw [bls?_some e] at r
    rw [r.bls] at h
    exact ⟨p, rfl, SqL.of h⟩
  · cases e
def dAll (d : D) : Option D := (dBls d).bind fun ns => some (.bl (ns.all id))
def dAny (d : D) : Option D := (dBls d).bind fun ns => some (.bl (ns.any id))
theorem cb_all (hc : X.calm = true) : CbB X (.builtin "all") dAll := by
  refine ⟨_, cr_all hc, fun x d v G H Q gh e r k => ?_⟩
  obtain ⟨ns, e1, e⟩ := obind e
  cases e
  obtain ⟨p, rfl, h⟩ := r.bls gh e1
  exact ⟨p, ns, rfl, h, k G H _ (Ext.refl gh) (.bl _)⟩
theorem cb_any (hc : X.calm = true) : CbB X (.builtin "any") dAny := by
  refine ⟨_, cr_any hc, fun x d v G H Q gh e r k => ?_⟩
  obtain ⟨ns, e1, e⟩ := obind e
  cases e
  obtain ⟨p, rfl, h⟩ := r.bls gh e1
  exact ⟨p, ns, rfl, h, k G H _ (Ext.refl gh) (.bl _)⟩
/-! a new list of a call: list(x), sorted(x) -/
def CbL (X : Cx) (v : Value) (o : D → Option (List D)) : Prop :=
  ∃ r, CallR X v r ∧ ∀ x ds v G H Q, Same G H → o x = some ds → RepB X.K X.mg G H v x → (∀ p vs, H p = none → RepL X.K X.mg G vs ds → Q (.ref p) (upd H p (.lst vs))) → r [v] H Q
def gUL (o : D → Option (List D)) (f : Ex) : Ag := fun Γ => (f Γ).bind o
theorem el_cb {id : String} {x : Str} {p : Pos} {q : D → Option (List D)} (hc : CbL X (.builtin id) q) (hg : Gl X x) (hm : X.mg x = none) (hv : bootBuiltins x = some (.builtin id)) (ha : B X a f) (hn : x ≠ "__name__" := by decide) (hdb : (x == ("__debug__" : Str)) = false := by decide)
    (he : starEach [a] X.env = (false, eval a X.env) :: starEach [] X.env := by rfl) (hpl : (backTo pos (starEach [] X.env)).any (·.1) = false := by rfl) : EL X (.Call (.Name x p) [a] [] pos) (gUL q f) := by
  obtain ⟨r, c1, c2⟩ := hc
  obtain ⟨t, h1, h2⟩ := ha.ex
  refine ⟨⟨_, pe_callB c1 hg hm hv (pa_cons h1 pa_nil he) hn hdb he hpl, fun G0 H0 Z Γ σ G H Q d R hf k => ?_⟩⟩
  obtain ⟨y, e1, hf⟩ := obind hf
  refine h2 G0 H0 Z Γ σ G H _ y R e1 fun G1 H1 v x1 r1 => ?_
  exact c2 y d v G1 H1 Q x1.gh hf r1 fun p vs hp r2 => k G1 _ p vs (x1.trans (Ext.own1 x1.gh hp)) (x1.hf hp) (x1.gh.free hp) upd_same r2
theorem el_cty {id : String} {x : Str} {p : Pos} {q : D → Option (List D)} (hc : CbL X (.type id) q) (hg : Gl X x) (hm : X.mg x = none) (hv : bootBuiltins x = some (.type id)) (ha : B X a f) (hn : x ≠ "__name__" := by decide) (hdb : (x == ("__debug__" : Str)) = false := by decide)
    (he : starEach [a] X.env = (false, eval a X.env) :: starEach [] X.env := by rfl) (hpl : (backTo pos (starEach [] X.env)).any (·.1) = false := by rfl) : EL X (.Call (.Name x p) [a] [] pos) (gUL q f) := by
  obtain ⟨r, c1, c2⟩ := hc
  obtain ⟨t, h1, h2⟩ := ha.ex
  refine ⟨⟨_, pe_callTy c1 hg hm hv (pa_cons h1 pa_nil he) hn hdb he hpl, fun G0 H0 Z Γ σ G H Q d R hf k => ?_⟩⟩
  obtain ⟨y, e1, hf⟩ := obind hf
  refine h2 G0 H0 Z Γ σ G H _ y R e1 fun G1 H1 v x1 r1 => ?_
  exact c2 y d v G1 H1 Q x1.gh hf r1 fun p vs hp r2 => k G1 _ p vs (x1.trans (Ext.own1 x1.gh hp)) (x1.hf hp) (x1.gh.free hp) upd_same r2
def dList : D → Option (List D)
  | .lst xs => some xs
  | .tup xs => some xs
  | .scr ns => some (ns.map D.int)
  | _ => none
theorem cb_list : CbL X (.type "list") dList := by
  refine ⟨_, call_list_of, fun x d v G H Q gh e r k => ?_⟩
  unfold dList at e
  split at e
  · cases e
    obtain ⟨p, vs, rfl, h, r⟩ := r.lst gh
    exact ⟨p, vs, rfl, .inl (SqL.of h), fun l hl => k l vs hl r⟩
  · cases e
    obtain ⟨p, vs, rfl, h, r⟩ := r.tup gh
    exact ⟨p, vs, rfl, .inr h, fun l hl => k l vs hl r⟩
  · cases e
    obtain ⟨p, rfl, h⟩ := r.scr gh
    exact ⟨p, _, rfl, .inl h, fun l hl => k l _ hl .ofInts⟩
  · cases e
/-- the one ascending arrangement -/
def srt (ns : List Int) : List Int := ns.mergeSort (fun a b => decide (a ≤ b))
theorem srt_perm (ns : List Int) : (srt ns).Perm ns := List.mergeSort_perm ns _
theorem srt_le (ns : List Int) : (srt ns).Pairwise (· ≤ ·) := by
  have h := List.pairwise_mergeSort (le := fun a b : Int => decide (a ≤ b)) (fun a b c h1 h2 => by simp at *; omega) (fun a b => by simp; omega) ns
  exact h.imp fun h => by simpa using h
theorem srt_unique {xs ys : List Int} (h : xs.Perm ys) (hx : xs.Pairwise (· ≤ ·)) (hy : ys.Pairwise (· ≤ ·)) : xs = ys :=
  List.Perm.eq_of_pairwise (fun a b _ _ h1 h2 => Int.le_antisymm h1 h2) hx hy h
def dSorted (d : D) : Option (List D) := (dInts d).bind fun ns => some ((srt ns).map D.int)
theorem cb_sorted : CbL X (.builtin "sorted") dSorted := by
  refine ⟨_, cr_sortedI, fun x d v G H Q gh e r k => ?_⟩
  obtain ⟨ns, e1, e⟩ := obind e
  cases e
  obtain ⟨p, rfl, h⟩ := r.ints gh e1
  refine ⟨p, ns, rfl, h, fun ns' q hp ho hq => ?_⟩
  have e2 : ns' = srt ns := srt_unique (hp.trans (srt_perm ns).symm) ho (srt_le ns)
  subst e2
  exact k q _ hq .ofInts
/-! two arguments -/
def CbA (X : Cx) (v : Value) (o : List D → Option D) : Prop :=
  ∃ r, CallR X v r ∧ ∀ xs d vs G H Q, Same G H → o xs = some d → RepL X.K X.mg G vs xs → (∀ G' H' u, Ext G H G' H' → Rep X.K X.mg G' u d → Q u H') → r vs H Q
def gA (o : List D → Option D) (fs : Ag) : Ex := fun Γ => (fs Γ).bind o
theorem e_cba {id : String} {x : Str} {p : Pos} {q : List D → Option D} (hc : CbA X (.builtin id) q) (hg : Gl X x) (hm : X.mg x = none) (hv : bootBuiltins x = some (.builtin id)) (ha : A X (a :: es) fs) (hn : x ≠ "__name__" := by decide) (hdb : (x == ("__debug__" : Str)) = false := by decide)
    (he : starEach (a :: es) X.env = (false, eval a X.env) :: starEach es X.env := by rfl) (hpl : (backTo pos (starEach es X.env)).any (·.1) = false := by rfl) : E X (.Call (.Name x p) (a :: es) [] pos) (gA q fs) := by
  obtain ⟨r, c1, c2⟩ := hc
  obtain ⟨t, h1, h2⟩ := ha.ex
  refine ⟨⟨_, pe_callB c1 hg hm hv h1 hn hdb he hpl, fun G0 H0 Z Γ σ G H Q d R hf k => ?_⟩⟩
  obtain ⟨y, e1, hf⟩ := obind hf
  refine h2 G0 H0 Z Γ σ G H _ y R e1 fun G1 H1 v x1 r1 => ?_
  exact c2 y d v G1 H1 Q x1.gh hf r1 fun G2 H2 u x2 r2 => k G2 H2 u (x1.trans x2) r2
/-- a module's name for a built-in -/
theorem e_cbf {id : String} {x : Str} {p : Pos} {q : List D → Option D} (hc : CbA X (.builtin id) q) (hg : Gl X x) (hm : X.mg x = some (.builtin id)) (ha : A X (a :: es) fs) (hdb : (x == ("__debug__" : Str)) = false := by decide)
    (he : starEach (a :: es) X.env = (false, eval a X.env) :: starEach es X.env := by rfl) (hpl : (backTo pos (starEach es X.env)).any (·.1) = false := by rfl) : E X (.Call (.Name x p) (a :: es) [] pos) (gA q fs) := by
  obtain ⟨r, c1, c2⟩ := hc
  obtain ⟨t, h1, h2⟩ := ha.ex
  refine ⟨⟨_, pe_callBfun c1 hg hm h1 hdb he hpl, fun G0 H0 Z Γ σ G H Q d R hf k => ?_⟩⟩
  obtain ⟨y, e1, hf⟩ := obind hf
  refine h2 G0 H0 Z Γ σ G H _ y R e1 fun G1 H1 v x1 r1 => ?_
  exact c2 y d v G1 H1 Q x1.gh hf r1 fun G2 H2 u x2 r2 => k G2 H2 u (x1.trans x2) r2
def dGcd : List D → Option D
  | [.int a, .int b] => some (.int ((Nat.gcd a.natAbs b.natAbs : Nat) : Int))
  | _ => none
theorem cb_gcd : CbA X (.builtin "math.gcd") dGcd := by
  refine ⟨_, cr_gcd, fun x d v G H Q gh e r k => ?_⟩
  unfold dGcd at e
  split at e
  · cases e
    cases r with
    | cons h1 r => cases h1; cases r with
      | cons h2 r => cases h2; cases r; exact ⟨_, _, rfl, k G H _ (Ext.refl gh) (.int _)⟩
  · cases e
def dMax2 : List D → Option D
  | [.int a, .int b] => some (.int (if b > a then b else a))
  | _ => none
theorem cb_max2 (hc : X.calm = true) : CbA X (.builtin "max") dMax2 := by
  refine ⟨_, call_max2 hc, fun x d v G H Q gh e r k => ?_⟩
  unfold dMax2 at e
  split at e
  · cases e
    cases r with
    | cons h1 r => cases h1; cases r with
      | cons h2 r => cases h2; cases r; exact ⟨_, _, rfl, k G H _ (Ext.refl gh) (.int _)⟩
  · cases e
def dMin2 : List D → Option D
  | [.int a, .int b] => some (.int (if b < a then b else a))
  | _ => none
theorem cb_min2 (hc : X.calm = true) : CbA X (.builtin "min") dMin2 := by
  refine ⟨_, call_min2 hc, fun x d v G H Q gh e r k => ?_⟩
  unfold dMin2 at e
  split at e
  · cases e
    cases r with
    | cons h1 r => cases h1; cases r with
      | cons h2 r => cases h2; cases r; exact ⟨_, _, rfl, k G H _ (Ext.refl gh) (.int _)⟩
  · cases e
/-! isinstance(x, T) -/
def dTy : D → String
  | .non => "NoneType" | .bl _ => "bool" | .int _ => "int" | .str _ => "str" | .lst _ => "list" | .tup _ => "?" | .scr _ => "list" | .obj _ _ => "?" | .fn _ _ _ _ _ => "?" | .dic _ _ => "?" | .lls _ => "?" | .exc _ _ _ => "?"
def dIsi (T : String) (d : D) : Option D := match d with
  | .obj _ _ => none
  | .scr _ => none
  | .tup _ => none
  | .fn _ _ _ _ _ => none
  | .dic _ _ => none
  | .lls _ => none
  | .exc _ _ _ => none
  | d => (kitB (dTy d) T).map D.bl
theorem e_isi {T : String} {x y : Str} {p p2 : Pos} (hg : Gl X x) (hm : X.mg x = none) (hv : bootBuiltins x = some (.builtin "isinstance")) (hgy : Gl X y) (hmy : X.mg y = none) (hvy : bootBuiltins y = some (.type T)) (ha : B X a f)
    (hn : x ≠ "__name__" := by decide) (hdb : (x == ("__debug__" : Str)) = false := by decide) (hny : y ≠ "__name__" := by decide) (hdby : (y == ("__debug__" : Str)) = false := by decide)
    (he : starEach [a, .Name y p2] X.env = (false, eval a X.env) :: starEach [.Name y p2] X.env := by rfl) (hpl : (backTo pos (starEach [.Name y p2] X.env)).any (·.1) = false := by rfl) (he2 : starEach [.Name y p2] X.env = (false, eval (.Name y p2) X.env) :: starEach [] X.env := by rfl) :
    E X (.Call (.Name x p) [a, .Name y p2] [] pos) (gU (dIsi T) f) := by
  obtain ⟨t, h1, h2⟩ := ha.ex
  refine ⟨⟨_, pe_callB call_isi hg hm hv (pa_cons h1 (pa_cons (pe_bltn (v := .ty T) hgy hmy hvy rfl hny hdby) pa_nil he2) he) hn hdb he hpl, fun G0 H0 Z Γ σ G H Q d R hf k => ?_⟩⟩
  obtain ⟨y, e1, hf⟩ := obind hf
  refine h2 G0 H0 Z Γ σ G H _ y R e1 fun G1 H1 v x1 r1 => ?_
  have fin : ∀ {b : Bool}, d = .bl b → Q (.bl b) H1 := fun e => by subst e; exact k G1 H1 _ x1 (.bl _)
  have go : ∀ (tn : String), TyOf X.K H1 v (.type tn) → (kitB tn T).map D.bl = some d → rIsi X.K [v, .ty T] H1 Q := fun tn ty e => by
    cases q : kitB tn T with
    | none => rw [q] at e; cases e
    | some b =>
      rw [q] at e
      exact ⟨v, .ty T, .type tn, .type T, b, rfl, .ty T, .base ty, kit_ty q, fin (Option.some.inj e).symm⟩
  cases y with
  | non => have := r1.flat (by simp); cases this; exact go _ .non hf
  | bl b => have z := (r1.flat (by simp)).blv; subst z; exact go _ (.bl _) hf
  | int b => have z := (r1.flat (by simp)).intv; subst z; exact go _ (.int _) hf
  | str b => have z := (r1.flat (by simp)).strv; subst z; exact go _ (.str _) hf
  | lst xs => obtain ⟨p, vs, rfl, h, r⟩ := r1.lst x1.gh; exact go _ (.lst h) hf
  | tup xs => cases hf
  | scr ns => cases hf
  | obj c ds => cases hf
  | fn a c q vs ds => cases hf
  | dic ks xs => cases hf
  | lls xs => cases hf
  | exc a dx n => cases hf
/-! -x -/
def dNeg : D → Option D
  | .int i => some (.int (-i))
  | _ => none
theorem e_neg (ha : E X a f) : E X (.UnaryOp .USub a pos) (gU dNeg f) := by
  obtain ⟨t, h1, h2⟩ := ha.ex
  refine ⟨⟨_, pe_un un_neg h1, fun G0 H0 Z Γ σ G H Q d R hf k => ?_⟩⟩
  obtain ⟨y, e1, hf⟩ := obind hf
  unfold dNeg at hf
  split at hf
  · cases hf
    refine h2 G0 H0 Z Γ σ G H _ _ R e1 fun G1 H1 v x1 r1 => ?_
    rw [r1.intv]
    exact ⟨_, rfl, k G1 H1 _ x1 (.int _)⟩
  · cases hf
/-! fields -/
def dFld (c j : Nat) : D → Option D
  | .obj c' vs => if c' = c then vs[j]? else none
  | _ => none
theorem e_fld {c j : Nat} {C : Addr} {x : Str} (ck : CK X.K X.mg c C) (he : E X o f) (hj : (cF c)[j]? = some x := by rfl) (nd : (cF c).Nodup := by decide +kernel) (hb : attributeBase o x X.env (eval o X.env) = eval o X.env := by rfl) : E X (.Attribute o x pos) (gU (dFld c j) f) := by
  obtain ⟨t, h1, h2⟩ := he.ex
  refine ⟨⟨_, pe_fld h1 hb, fun G0 H0 Z Γ σ G H Q d R hf k => ?_⟩⟩
  obtain ⟨y, e1, hv⟩ := obind hf
  cases y with
  | obj c' vs =>
    replace hv : (if c' = c then vs[j]? else none) = some d := hv
    split at hv
    · rename_i cz
      subst cz
      refine h2 G0 H0 Z Γ σ G H _ _ R e1 fun G1 H1 v x1 r1 => ?_
      cases r1 with
      | obj hm h r =>
        rw [ck.hm] at hm
        cases hm
        obtain ⟨w, g1, g2⟩ := r.getT j hv
        exact ⟨_, _, _, _, w, rfl, x1.gh _ _ h, ck.cl, ck.na x (List.mem_of_getElem? hj), zip_lookup nd hj g1, k G1 H1 w x1 g2⟩
    · cases hv
  | _ => cases hv

/-! ### defs -/
/-- the promise of a def that changes nothing: its value by data -/
def spD (K : PySem.W.Frag) (mg : Str → Option Value) (n : Nat) (F : List D → Option D) : Sp := fun vs H Q _ =>
  ∃ G ds d, vs.length = n ∧ Same G H ∧ TC.ti.t G H ∧ RepL K mg G vs ds ∧ F ds = some d ∧ ∀ G' H' v, Ext G H G' H' → Rep K mg G' v d → Q v H'
def gCall (F : List D → Option D) (fs : Ag) : Ex := fun Γ => (fs Γ).bind F
theorem e_call {k : Nat} {fa : Addr} {fd : FuncData} {ps : List Str} {F : List D → Option D} {x : Str} {p : Pos} (FO : FnOk X.prog X.w X.K X.mg X.base CX0 k fa fd ps (spD X.K X.mg n F)) (hr : Room k X.A) (hm : X.mg x = some (.ref fa)) (hk : PySem.W.keepIn X.K (.ref fa) = true) (hb : Binds X.K fd ps [])
    (ha : AN X (a :: es) n fs) (hg : Gl X x := by rfl) (hdb : (x == ("__debug__" : Str)) = false := by decide) (he : starEach (a :: es) X.env = (false, eval a X.env) :: starEach es X.env := by rfl) (hpl : (backTo pos (starEach es X.env)).any (·.1) = false := by rfl) :
    E X (.Call (.Name x p) (a :: es) [] pos) (gCall F fs) := by
  obtain ⟨t, h1, h2⟩ := ha.a.ex
  refine ⟨⟨_, pe_call FO hr hg hm hk hb .nil pass0 h1 hdb he hpl, fun G0 H0 Z Γ σ G H Q d R hf k => ?_⟩⟩
  obtain ⟨ds, e1, hf⟩ := obind hf
  refine h2 G0 H0 Z Γ σ G H _ _ R e1 fun G1 H1 vs x1 r1 => ?_
  refine ⟨G1, ds, d, ?_, x1.gh, (R.ext x1).tbc, ?_, hf, fun G' H' v x2 r2 => k G' H' v (x1.trans x2) r2⟩
  · rw [List.append_nil, r1.length, ha.n Γ ds e1]
  · rw [List.append_nil]; exact r1
theorem e_call0 {k : Nat} {fa : Addr} {fd : FuncData} {ps : List Str} {F : List D → Option D} {x : Str} {p : Pos} (FO : FnOk X.prog X.w X.K X.mg X.base CX0 k fa fd ps (spD X.K X.mg 0 F)) (hr : Room k X.A) (hm : X.mg x = some (.ref fa)) (hk : PySem.W.keepIn X.K (.ref fa) = true) (hb : Binds X.K fd ps [])
    (hg : Gl X x := by rfl) (hdb : (x == ("__debug__" : Str)) = false := by decide) : E X (.Call (.Name x p) [] [] pos) (gCall F aN) := by
  refine ⟨⟨_, pe_call0 FO hr hg hm hk hb .nil pass0 hdb, fun G0 H0 Z Γ σ G H Q d R hf k => ?_⟩⟩
  obtain ⟨ds, e1, hf⟩ := obind hf
  cases e1
  exact ⟨G, [], d, rfl, R.gh, R.tbc, .nil, hf, fun G' H' v x2 r2 => k G' H' v x2 r2⟩
/-- o.m(..) of an object that does not change -/
def gMeth (c : Nat) (F : List D → Option D) (f : Ex) (fs : Ag) : Ex := fun Γ => (f Γ).bind fun d => match d with
  | .obj c' vs => if c' = c then (fs Γ).bind fun ds => F (.obj c' vs :: ds) else none
  | _ => none
theorem e_meth {pl : Sem Bool} {c k : Nat} {C fa : Addr} {fd : FuncData} {ps : List Str} {F : List D → Option D} {m : Str} {apos : Pos} (ck : CK X.K X.mg c C) (hme : Meth X.K C m fa) (FO : FnOk X.prog X.w X.K X.mg X.base CX0 k fa fd ps (spD X.K X.mg (n + 1) F)) (hr : Room k X.A) (hb : Binds X.K fd ps [])
    (ho : E X o f) (ha : AN X (a :: es) n fs) (hno : m ∉ cF c := by decide +kernel)
    (hst : starEach (a :: es) X.env = (false, eval a X.env) :: starEach es X.env := by rfl) (hpl : (backTo pos (starEach es X.env)).any (·.1) = false := by rfl)
    (ht : eval (.Call (.Attribute o m apos) (a :: es) [] pos) X.env = (do
      let ov ← eval o X.env
      standAt apos.atName
      let (f, first) ← holding [ov] (getMethod ov m pl)
      callWith pos f first (backTo pos (starEach (a :: es) X.env)) (backToKw pos (keywordEach [] X.env))) := by rfl) : E X (.Call (.Attribute o m apos) (a :: es) [] pos) (gMeth c F f fs) := by
  obtain ⟨t, h1, h2⟩ := ha.a.ex
  obtain ⟨u, q1, q2⟩ := ho.ex
  refine ⟨⟨_, pe_meth q1 ck.cl hme FO hr hb .nil pass0 h1 hst hpl ht, fun G0 H0 Z Γ σ G H Q d R hf k => ?_⟩⟩
  obtain ⟨y, e1, hv⟩ := obind hf
  cases y with
  | obj c' vs' =>
    replace hv : (if c' = c then (fs Γ).bind fun ds => F (.obj c' vs' :: ds) else none) = some d := hv
    split at hv
    · rename_i cz
      subst cz
      obtain ⟨ds, e2, hv⟩ := obind hv
      refine q2 G0 H0 Z Γ σ G H _ _ R e1 fun G1 H1 v x1 r1 => ?_
      cases r1 with
      | obj hm h r =>
        have hm' := hm
        rw [ck.hm] at hm'
        cases hm'
        refine ⟨_, _, _, rfl, x1.gh _ _ h, zip_lookup_none hno, ?_⟩
        refine h2 G0 H0 Z Γ σ G1 H1 _ _ (R.ext x1) e2 fun G2 H2 vs x2 r2 => ?_
        refine ⟨G2, _, d, ?_, x2.gh, ((R.ext x1).ext x2).tbc, .cons (.obj hm (x2.gg _ _ h) (r.mono x2.gg)) (by rw [List.append_nil]; exact r2), hv, fun G' H' v x3 r3 => k G' H' v ((x1.trans x2).trans x3) r3⟩
        rw [List.append_nil, List.length_cons, r2.length, ha.n Γ ds e2]
    · cases hv
  | _ => cases hv
theorem e_meth0 {pl : Sem Bool} {c k : Nat} {C fa : Addr} {fd : FuncData} {ps : List Str} {F : List D → Option D} {m : Str} {apos : Pos} (ck : CK X.K X.mg c C) (hme : Meth X.K C m fa) (FO : FnOk X.prog X.w X.K X.mg X.base CX0 k fa fd ps (spD X.K X.mg 1 F)) (hr : Room k X.A) (hb : Binds X.K fd ps [])
    (ho : E X o f) (hno : m ∉ cF c := by decide +kernel)
    (ht : eval (.Call (.Attribute o m apos) [] [] pos) X.env = (do
      let ov ← eval o X.env
      standAt apos.atName
      let (f, first) ← holding [ov] (getMethod ov m pl)
      callWith pos f first (backTo pos (starEach [] X.env)) (backToKw pos (keywordEach [] X.env))) := by rfl) : E X (.Call (.Attribute o m apos) [] [] pos) (gMeth c F f aN) := by
  obtain ⟨u, q1, q2⟩ := ho.ex
  refine ⟨⟨_, pe_meth0 q1 ck.cl hme FO hr hb .nil pass0 ht, fun G0 H0 Z Γ σ G H Q d R hf k => ?_⟩⟩
  obtain ⟨y, e1, hv⟩ := obind hf
  cases y with
  | obj c' vs' =>
    replace hv : (if c' = c then (aN Γ).bind fun ds => F (.obj c' vs' :: ds) else none) = some d := hv
    split at hv
    · rename_i cz
      subst cz
      obtain ⟨ds, e2, hv⟩ := obind hv
      cases e2
      refine q2 G0 H0 Z Γ σ G H _ _ R e1 fun G1 H1 v x1 r1 => ?_
      cases r1 with
      | obj hm h r =>
        have hm' := hm
        rw [ck.hm] at hm'
        cases hm'
        refine ⟨_, _, _, rfl, x1.gh _ _ h, zip_lookup_none hno, ?_⟩
        exact ⟨G1, _, d, rfl, x1.gh, (R.ext x1).tbc, .cons (.obj hm h r) .nil, hv, fun G' H' v x3 r3 => k G' H' v (x1.trans x3) r3⟩
    · cases hv
  | _ => cases hv
end
end DL

namespace DL
open PySem L2
variable [TC : TabCtx]

/-! ### targets -/
theorem wipe_set {σ : L2.St} {i : Nat} {x : Option V} : ∀ (vs : List Nat), L2.wipe (σ.set i x) vs = if i ∈ vs then L2.wipe σ vs else (L2.wipe σ vs).set i x
  | [] => by simp [L2.wipe]
  | v :: vs => by
    simp only [L2.wipe]
    rw [wipe_set vs]
    by_cases h1 : i ∈ vs
    · rw [if_pos h1, if_pos (List.mem_cons_of_mem _ h1)]
    · rw [if_neg h1]
      by_cases h2 : i = v
      · subst h2
        rw [if_pos List.mem_cons_self, List.set_set]
      · rw [if_neg (by simp [h1, h2]), List.set_comm _ _ h2]
theorem wipe_in {σ : L2.St} {i : Nat} {x : Option V} {vs : List Nat} (h : i ∈ vs) : L2.wipe (σ.set i x) vs = L2.wipe σ vs := by rw [wipe_set, if_pos h]
theorem wipe_sub {σ : L2.St} {vs : List Nat} : ∀ us : List Nat, (∀ i ∈ us, i ∈ vs) → L2.wipe (L2.wipe σ us) vs = L2.wipe σ vs
  | [], _ => rfl
  | u :: us, h => by
    show L2.wipe ((L2.wipe σ us).set u none) vs = _
    rw [wipe_in (h u List.mem_cons_self)]
    exact wipe_sub us fun i hi => h i (List.mem_cons_of_mem _ hi)
abbrev Gs := D → DEnv → Option DEnv
abbrev Gss := List D → DEnv → Option DEnv
structure G (X : Cx) (tg : Expr) (ix : List Nat) (g : Gs) : Prop where
  ex : ∃ t, PG X tg t ∧ ∀ G0 H0 Z Γ σ G H Q d v Γ', Rel X.K X.mg G0 H0 Z Γ σ G H → Rep X.K X.mg G v d → g d Γ = some Γ' → (∀ σ', Rel X.K X.mg G0 H0 Z Γ' σ' G H → (∀ vs, (∀ i ∈ ix, i ∈ vs) → L2.wipe σ' vs = L2.wipe σ vs) → Q σ' H) → t v σ H Q
structure GL (X : Cx) (tgs : List Expr) (ix : List Nat) (g : Gss) : Prop where
  ex : ∃ t, PGs X tgs t ∧ ∀ G0 H0 Z Γ σ G H Q ds vs Γ', Rel X.K X.mg G0 H0 Z Γ σ G H → RepL X.K X.mg G vs ds → g ds Γ = some Γ' → (∀ σ', Rel X.K X.mg G0 H0 Z Γ' σ' G H → (∀ us, (∀ i ∈ ix, i ∈ us) → L2.wipe σ' us = L2.wipe σ us) → Q σ' H) → t vs σ H Q
def gN (i : Nat) : Gs := fun d Γ => some (Γ.set i (.sh d))
def gEnd : Gss := fun ds Γ => match ds with | [] => some Γ | _ => none
def gTo (g : Gs) (r : Gss) : Gss := fun ds Γ => match ds with | [] => none | d :: ds => (g d Γ).bind fun Γ1 => r ds Γ1
def gTg (n : Nat) (r : Gss) : Gs := fun d Γ => match d with | .tup ds => if ds.length = n then r ds Γ else none | _ => none
section
variable {X : Cx} {e a b o tg : Expr} {es : List Expr} {f : Ex} {fs : Ag} {pos pos' : Pos} {n : Nat} {ix jx : List Nat} {g : Gs} {gs : Gss}
theorem g_name (i : Nat) {x : Str} (hN : X.N.Nodup) (hi : X.N[i]? = some x := by rfl) (hx : Loc X.env.scope x := by first | exact Or.inl rfl | exact Or.inr rfl) (hf : X.fn x = true ∨ X.env.scope.names.lookup x = some .local := by first | exact .inl rfl | exact .inr rfl | assumption) : G X (.Name x pos) [i] (gN i) := by
  refine ⟨⟨_, pg_name hN hi hx hf, fun G0 H0 Z Γ σ G H Q d v Γ' R r hf k => ?_⟩⟩
  cases hf
  exact k _ (R.set i r) fun vs h => wipe_in (h i List.mem_cons_self)
theorem gl_nil : GL X [] [] gEnd := by
  refine ⟨⟨_, pgs_nil, fun G0 H0 Z Γ σ G H Q ds vs Γ' R r hf k => ?_⟩⟩
  cases r with
  | nil => cases hf; exact ⟨rfl, k σ R fun _ _ => rfl⟩
  | cons _ _ => cases hf
theorem gl_cons (h : G X e ix g) (hr : GL X es jx gs) (hs : (assignEach (e :: es) X.env).map (·.2) = assign e X.env :: (assignEach es X.env).map (·.2) := by rfl) : GL X (e :: es) (ix ++ jx) (gTo g gs) := by
  obtain ⟨t, h1, h2⟩ := h.ex
  obtain ⟨u, q1, q2⟩ := hr.ex
  refine ⟨⟨_, pgs_cons h1 q1 hs, fun G0 H0 Z Γ σ G H Q ds vs Γ' R r hf k => ?_⟩⟩
  cases r with
  | nil => cases hf
  | cons r1 r2 =>
    obtain ⟨Γ1, e1, hf⟩ := obind hf
    refine ⟨_, _, rfl, ?_⟩
    refine h2 G0 H0 Z Γ σ G H _ _ _ Γ1 R r1 e1 fun σ1 R1 w1 => ?_
    exact q2 G0 H0 Z Γ1 σ1 G H _ _ _ Γ' R1 r2 hf fun σ2 R2 w2 => k σ2 R2 fun us hu => (w2 us fun i hi => hu i (List.mem_append_right _ hi)).trans (w1 us fun i hi => hu i (List.mem_append_left _ hi))
theorem g_tup {k : Nat} (hc : X.calm = true) (h : GL X es ix gs) (hn : (assignEach es X.env).length = n := by rfl) (hst : (assignEach es X.env).findIdx? (·.1) = none := by rfl) : G X (.Tuple es k pos) ix (gTg n gs) := by
  obtain ⟨t, h1, h2⟩ := h.ex
  refine ⟨⟨_, pg_tup hc h1 hn hst, fun G0 H0 Z Γ σ G H Q d v Γ' R r hf k => ?_⟩⟩
  cases d with
  | tup ds =>
    replace hf : (if ds.length = n then gs ds Γ else none) = some Γ' := hf
    split at hf
    · rename_i hl
      cases r with
      | tup h r => exact ⟨_, _, rfl, sqt_same R.gh h, by rw [r.length, hl], h2 G0 H0 Z Γ σ G H Q ds _ Γ' R r hf k⟩
    · cases hf
  | _ => cases hf
end

/-! ### what is walked -/
def Itm (K : PySem.W.Frag) (mg : Str → Option Value) (J : It) (G : Hp) (items : List D) : Prop :=
  ∀ i G1 H1, Same G G1 → Same G1 H1 → (items.length ≤ i → J.stop i H1) ∧ ∀ d, items[i]? = some d → J.go i H1 ∧ ∀ x H2, J.yld i H1 x H2 → ∃ G2, Ext G1 H1 G2 H2 ∧ Rep K mg G2 x d
structure I (X : Cx) (tg iter : Expr) (f : Ag) : Prop where
  ex : ∃ t, PI X tg iter t ∧ ∀ G0 H0 Z Γ σ G H R ds, Rel X.K X.mg G0 H0 Z Γ σ G H → f Γ = some ds → (∀ G' H' J, Ext G H G' H' → Itm X.K X.mg J G' ds → R J H') → t σ H R
def dItems : D → Option (List D)
  | .lst xs => some xs
  | .scr ns => some (ns.map D.int)
  | _ => none
section
variable {X : Cx} {e a b o tg iter : Expr} {es : List Expr} {f f' : Ex} {fs : Ag} {pos pos' : Pos} {n : Nat} {ix jx : List Nat} {g : Gs} {gs : Gss}
theorem itm_list {K mg} {G : Hp} {p : Addr} {vs : List V} {ds : List D} (h : SqL K G p vs) (r : RepL K mg G vs ds) (inj : ∀ {H1 : Hp} {xs : List V}, Same G H1 → SqL K H1 p xs → True) : Itm K mg (Itl K p) G ds := by
  intro i G1 H1 s1 s2
  have h1 : SqL K H1 p vs := (s1.trans s2).seq h
  refine ⟨fun hi => ⟨vs, h1, by rw [r.length]; exact hi⟩, fun d hd => ?_⟩
  obtain ⟨v, e1, e2⟩ := r.get i hd
  refine ⟨⟨vs, v, h1, e1⟩, fun x H2 y => ?_⟩
  obtain ⟨rfl, y⟩ := y
  have e3 := y vs h1
  rw [e1] at e3
  cases e3
  exact ⟨G1, Ext.refl s2, e2.mono s1⟩
theorem pi_or {w w' : TI} (h : PI X tg iter w) (h' : PI X tg iter w') : PI X tg iter (fun σ H R => w σ H R ∨ w' σ H R) := by
  refine ⟨fun pins s σ H R I q => ?_⟩
  rcases q with q | q
  · exact h.run pins s σ H R I q
  · exact h'.run pins s σ H R I q
theorem itm_tup {K mg} {G : Hp} {p : Addr} {vs : List V} {ds : List D} (h : SqT K G p vs) (r : RepL K mg G vs ds) : Itm K mg (Itt K p) G ds := by
  intro i G2 H2 s1 s2
  have h1 := sqt_same s2 (sqt_same s1 h)
  refine ⟨fun hi => ⟨_, h1, by rw [r.length]; exact hi⟩, fun d hd => ?_⟩
  obtain ⟨v, e1, e2⟩ := r.get i hd
  refine ⟨⟨_, v, h1, e1⟩, fun x H2 y => ?_⟩
  obtain ⟨rfl, y⟩ := y
  have e3 := y _ h1
  rw [e1] at e3
  cases e3
  exact ⟨G2, Ext.refl s2, e2.mono s1⟩
def dWalk : D → Option (List D)
  | .lst xs => some xs
  | .tup xs => some xs
  | .scr ns => some (ns.map D.int)
  | _ => none
def gIt (f : Ex) : Ag := fun Γ => (f Γ).bind dWalk
theorem i_list (h : E X iter f) : I X tg iter (gIt f) := by
  obtain ⟨t, h1, h2⟩ := h.ex
  refine ⟨⟨_, pi_or (pi_list h1) (pi_tup h1), fun G0 H0 Z Γ σ G H R ds Rl hf k => ?_⟩⟩
  obtain ⟨d, e1, hf⟩ := obind hf
  cases d with
  | lst xs =>
    cases hf
    refine .inl (h2 G0 H0 Z Γ σ G H _ _ Rl e1 fun G1 H1 v x1 r1 => ?_)
    cases r1 with
    | lst h r => exact ⟨_, rfl, ⟨_, SqL.of (x1.gh _ _ h)⟩, k G1 H1 _ x1 (itm_list (SqL.of h) r fun _ _ => True.intro)⟩
  | scr ns =>
    cases hf
    refine .inl (h2 G0 H0 Z Γ σ G H _ _ Rl e1 fun G1 H1 v x1 r1 => ?_)
    cases r1 with
    | scr h => exact ⟨_, rfl, ⟨_, x1.gh.seq h⟩, k G1 H1 _ x1 (itm_list h .ofInts fun _ _ => True.intro)⟩
  | tup xs =>
    cases hf
    refine .inr (h2 G0 H0 Z Γ σ G H _ _ Rl e1 fun G1 H1 v x1 r1 => ?_)
    cases r1 with
    | tup h r => exact ⟨_, rfl, ⟨_, sqt_same x1.gh h⟩, k G1 H1 _ x1 (itm_tup h r)⟩
  | _ => cases hf
/-! ranges -/
def rngD (lo : Int) (n : Nat) : List D := (List.range n).map fun i => .int (lo + (i : Nat))
theorem itm_range {K mg} {G : Hp} {lo : Int} {n : Nat} : Itm K mg (Itr lo n) G (rngD lo n) := by
  intro i G1 H1 s1 s2
  refine ⟨fun hi => by show n ≤ i; simpa [rngD] using hi, fun d hd => ?_⟩
  have hi : i < n := by
    have := (List.getElem?_eq_some_iff.mp hd).1
    simpa [rngD] using this
  refine ⟨hi, fun x H2 y => ?_⟩
  obtain ⟨rfl, rfl⟩ := y
  have e : d = .int (lo + (i : Nat)) := by
    simp [rngD, hi] at hd
    exact hd.symm
  subst e
  exact ⟨G1, Ext.refl s2, .int _⟩
def dRng : List D → Option (List D)
  | [.int j] => if -(2 ^ 62) ≤ j ∧ j < 2 ^ 62 then some (rngD 0 j.toNat) else none
  | [.int i, .int j] => if -(2 ^ 62) ≤ i ∧ i < 2 ^ 62 ∧ -(2 ^ 62) ≤ j ∧ j < 2 ^ 62 then some (rngD i (j - i).toNat) else none
  | _ => none
def gRng (fs : Ag) : Ag := fun Γ => (fs Γ).bind dRng
theorem i_rng1 {p : Pos} (hg : Gl X "range") (hm : X.mg "range" = none) (ha : AN X [a] 1 fs) (hs : starEach [a] X.env = [(false, eval a X.env)] := by rfl) : I X tg (.Call (.Name "range" p) [a] [] pos) (gRng fs) := by
  obtain ⟨t, h1, h2⟩ := ha.a.ex
  refine ⟨⟨_, pi_range1 hg hm h1 hs, fun G0 H0 Z Γ σ G H R ds Rl hf k => ?_⟩⟩
  obtain ⟨xs, e1, hf⟩ := obind hf
  have hl := ha.n Γ xs e1
  refine h2 G0 H0 Z Γ σ G H _ _ Rl e1 fun G1 H1 vs x1 r1 => ?_
  match xs, hl, hf, r1 with
  | [.int j], _, hf, .cons r .nil =>
    replace hf : (if -(2 ^ 62) ≤ j ∧ j < 2 ^ 62 then some (rngD 0 j.toNat) else none) = some ds := hf
    split at hf
    · rename_i z
      cases hf
      rw [r.intv]
      exact ⟨j, rfl, z.1, z.2, k G1 H1 _ x1 itm_range⟩
    · cases hf
theorem i_rng2 {p : Pos} (hg : Gl X "range") (hm : X.mg "range" = none) (ha : AN X [a, b] 2 fs) (hs : starEach [a, b] X.env = [(false, eval a X.env), (false, eval b X.env)] := by rfl) (hs2 : starEach [b] X.env = [(false, eval b X.env)] := by rfl) : I X tg (.Call (.Name "range" p) [a, b] [] pos) (gRng fs) := by
  obtain ⟨t, h1, h2⟩ := ha.a.ex
  refine ⟨⟨_, pi_range2 hg hm h1 hs hs2, fun G0 H0 Z Γ σ G H R ds Rl hf k => ?_⟩⟩
  obtain ⟨xs, e1, hf⟩ := obind hf
  have hl := ha.n Γ xs e1
  refine h2 G0 H0 Z Γ σ G H _ _ Rl e1 fun G1 H1 vs x1 r1 => ?_
  match xs, hl, hf, r1 with
  | [.int i, .int j], _, hf, .cons r (.cons q .nil) =>
    replace hf : (if -(2 ^ 62) ≤ i ∧ i < 2 ^ 62 ∧ -(2 ^ 62) ≤ j ∧ j < 2 ^ 62 then some (rngD i (j - i).toNat) else none) = some ds := hf
    split at hf
    · rename_i z
      cases hf
      rw [r.intv, q.intv]
      exact ⟨i, j, rfl, z, k G1 H1 _ x1 itm_range⟩
    · cases hf
/-! reversed(range(..)) -/
def rngR (lo : Int) (n : Nat) : List D := (List.range n).map fun i => .int (lo + (n : Int) - 1 + (i : Nat) * (-1))
def dRngR : List D → Option (List D)
  | [.int j] => if -(2 ^ 62) ≤ j ∧ j < 2 ^ 62 then some (rngR 0 j.toNat) else none
  | [.int i, .int j] => if -(2 ^ 62) ≤ i ∧ i < 2 ^ 62 ∧ -(2 ^ 62) ≤ j ∧ j < 2 ^ 62 then some (rngR i (j - i).toNat) else none
  | _ => none
theorem itm_rangeR {K mg} {G : Hp} {lo : Int} {n : Nat} : Itm K mg (Itc (lo + (n : Int) - 1) (-1) n) G (rngR lo n) := by
  intro i G1 H1 s1 s2
  refine ⟨fun hi => by show n ≤ i; simpa [rngR] using hi, fun d hd => ?_⟩
  have hi : i < n := by
    have := (List.getElem?_eq_some_iff.mp hd).1
    simpa [rngR] using this
  refine ⟨hi, fun x H2 y => ?_⟩
  obtain ⟨rfl, rfl⟩ := y
  have e : d = .int (lo + (n : Int) - 1 + (i : Nat) * (-1)) := by
    simp [rngR, hi] at hd
    rw [← hd]
    congr 1
    omega
  subst e
  exact ⟨G1, Ext.refl s2, .int _⟩
/-! zip, enumerate -/
def zipD : List D → List D → List D
  | x :: xs, y :: ys => .tup [x, y] :: zipD xs ys
  | _, _ => []
theorem zipD_get : ∀ {xs ys : List D} {i : Nat} {d : D}, (zipD xs ys)[i]? = some d → ∃ x y, xs[i]? = some x ∧ ys[i]? = some y ∧ d = .tup [x, y]
  | [], _, _, _, h => by simp [zipD] at h
  | _ :: _, [], _, _, h => by simp [zipD] at h
  | x :: xs, y :: ys, 0, d, h => by simp [zipD] at h; exact ⟨x, y, rfl, rfl, h.symm⟩
  | x :: xs, y :: ys, i + 1, d, h => by
    obtain ⟨x', y', h1, h2, h3⟩ := zipD_get (xs := xs) (ys := ys) (i := i) (d := d) (by simpa [zipD] using h)
    exact ⟨x', y', by simpa using h1, by simpa using h2, h3⟩
theorem zipD_len : ∀ {xs ys : List D}, (zipD xs ys).length = min xs.length ys.length
  | [], _ => by simp [zipD]
  | _ :: _, [] => by simp [zipD]
  | x :: xs, y :: ys => by simp [zipD, zipD_len (xs := xs) (ys := ys)]
def dZip : List D → Option (List D)
  | [x, y] => (dItems x).bind fun xs => (dItems y).bind fun ys => some (zipD xs ys)
  | _ => none
def gZip (fs : Ag) : Ag := fun Γ => (fs Γ).bind dZip
theorem Rep.items {K mg} {G : Hp} {v : V} {d : D} {xs : List D} (r : Rep K mg G v d) (h : dItems d = some xs) : ∃ p vs, v = .ref p ∧ SqL K G p vs ∧ RepL K mg G vs xs := by
  cases d with
  | lst ys => cases h; cases r with | lst h r => exact ⟨_, _, rfl, SqL.of h, r⟩
  | scr ns => cases h; cases r with | scr h => exact ⟨_, _, rfl, h, .ofInts⟩
  | _ => cases h
theorem i_zip {p tpos : Pos} {elts : List Expr} {kk : Nat} (hg : Gl X "zip") (hm : X.mg "zip" = none) (ha : AN X [a, b] 2 fs) (hs : starEach [a, b] X.env = (false, eval a X.env) :: starEach [b] X.env := by rfl) (hpl : (backTo pos (starEach [b] X.env)).any (·.1) = false := by rfl) :
    I X (.Tuple elts kk tpos) (.Call (.Name "zip" p) [a, b] [] pos) (gZip fs) := by
  obtain ⟨t, h1, h2⟩ := ha.a.ex
  refine ⟨⟨_, pi_zip hg hm h1 hs hpl, fun G0 H0 Z Γ σ G H R ds Rl hf k => ?_⟩⟩
  obtain ⟨xs, e1, hf⟩ := obind hf
  have hl := ha.n Γ xs e1
  refine h2 G0 H0 Z Γ σ G H _ _ Rl e1 fun G1 H1 vs x1 r1 => ?_
  match xs, hl, hf, r1 with
  | [x, y], _, hf, .cons r (.cons q .nil) =>
    replace hf : ((dItems x).bind fun xs => (dItems y).bind fun ys => some (zipD xs ys)) = some ds := hf
    obtain ⟨as, a1, hf⟩ := obind hf
    obtain ⟨bs, a2, hf⟩ := obind hf
    cases hf
    obtain ⟨p1, v1, rfl, s1, r1⟩ := r.items a1
    obtain ⟨p2, v2, rfl, s2, r2⟩ := q.items a2
    refine ⟨p1, p2, v1, v2, rfl, x1.gh.seq s1, x1.gh.seq s2, k G1 H1 _ x1 fun i G2 H2 t1 t2 => ?_⟩
    have q1 : SqL X.K H2 p1 v1 := (t1.trans t2).seq s1
    have q2 : SqL X.K H2 p2 v2 := (t1.trans t2).seq s2
    refine ⟨fun hi => ⟨v1, v2, q1, q2, ?_⟩, fun d hd => ?_⟩
    · rw [zipD_len] at hi
      rw [r1.length, r2.length]
      omega
    · obtain ⟨x, y, g1, g2, rfl⟩ := zipD_get hd
      obtain ⟨w1, b1, c1⟩ := r1.get i g1
      obtain ⟨w2, b2, c2⟩ := r2.get i g2
      refine ⟨⟨v1, v2, w1, w2, q1, q2, b1, b2⟩, fun u H3 yl => ?_⟩
      obtain ⟨T, z1, z2, rfl, hT, rfl, f1, f2⟩ := yl
      have z3 := f1 v1 q1
      have z4 := f2 v2 q2
      rw [b1] at z3
      rw [b2] at z4
      cases z3
      cases z4
      have x2 := Ext.new1 (o := .tup [w1, w2]) t2 hT
      exact ⟨_, x2, .tup (SqT.of upd_same) (.cons ((c1.mono t1).mono x2.gg) (.cons ((c2.mono t1).mono x2.gg) .nil))⟩
def enumD : Nat → List D → List D
  | _, [] => []
  | i, x :: xs => .tup [.int (i : Nat), x] :: enumD (i + 1) xs
theorem enumD_get : ∀ {xs : List D} {k i : Nat} {d : D}, (enumD k xs)[i]? = some d → ∃ x, xs[i]? = some x ∧ d = .tup [.int ((k + i : Nat) : Int), x]
  | [], _, _, _, h => by simp [enumD] at h
  | x :: xs, k, 0, d, h => by simp [enumD] at h; exact ⟨x, rfl, by rw [← h]; simp⟩
  | x :: xs, k, i + 1, d, h => by
    obtain ⟨x', h1, h2⟩ := enumD_get (xs := xs) (k := k + 1) (i := i) (d := d) (by simpa [enumD] using h)
    exact ⟨x', by simpa using h1, by rw [h2]; congr 3; omega⟩
theorem enumD_len : ∀ {xs : List D} {k : Nat}, (enumD k xs).length = xs.length
  | [], _ => rfl
  | x :: xs, k => by simp [enumD, enumD_len (xs := xs) (k := k + 1)]
def dEnum : List D → Option (List D)
  | [x] => (dItems x).bind fun xs => some (enumD 0 xs)
  | _ => none
def gEnum (fs : Ag) : Ag := fun Γ => (fs Γ).bind dEnum
theorem i_enum {p tpos : Pos} {elts : List Expr} {kk : Nat} (hg : Gl X "enumerate") (hm : X.mg "enumerate" = none) (ha : AN X [a] 1 fs) (hs : starEach [a] X.env = [(false, eval a X.env)] := by rfl) :
    I X (.Tuple elts kk tpos) (.Call (.Name "enumerate" p) [a] [] pos) (gEnum fs) := by
  obtain ⟨t, h1, h2⟩ := ha.a.ex
  refine ⟨⟨_, pi_enum hg hm h1 hs, fun G0 H0 Z Γ σ G H R ds Rl hf k => ?_⟩⟩
  obtain ⟨xs, e1, hf⟩ := obind hf
  have hl := ha.n Γ xs e1
  refine h2 G0 H0 Z Γ σ G H _ _ Rl e1 fun G1 H1 vs x1 r1 => ?_
  match xs, hl, hf, r1 with
  | [x], _, hf, .cons r .nil =>
    replace hf : ((dItems x).bind fun xs => some (enumD 0 xs)) = some ds := hf
    obtain ⟨as, a1, hf⟩ := obind hf
    cases hf
    obtain ⟨p1, v1, rfl, s1, r1⟩ := r.items a1
    refine ⟨p1, v1, rfl, x1.gh.seq s1, k G1 H1 _ x1 fun i G2 H2 t1 t2 => ?_⟩
    have q1 : SqL X.K H2 p1 v1 := (t1.trans t2).seq s1
    refine ⟨fun hi => ⟨v1, q1, ?_⟩, fun d hd => ?_⟩
    · rw [enumD_len] at hi
      rw [r1.length]
      omega
    · obtain ⟨x, g1, rfl⟩ := enumD_get hd
      obtain ⟨w1, b1, c1⟩ := r1.get i g1
      refine ⟨⟨v1, w1, q1, b1⟩, fun u H3 yl => ?_⟩
      obtain ⟨T, z1, rfl, hT, rfl, f1⟩ := yl
      have z3 := f1 v1 q1
      rw [b1] at z3
      cases z3
      have x2 := Ext.new1 (o := .tup [.int (i : Nat), w1]) t2 hT
      refine ⟨_, x2, .tup (SqT.of upd_same) (.cons ?_ (.cons ((c1.mono t1).mono x2.gg) .nil))⟩
      rw [Nat.zero_add]
      exact .int _
theorem i_rev1 {p p2 pos2 : Pos} (hg : Gl X "reversed") (hm : X.mg "reversed" = none) (hg2 : Gl X "range") (hm2 : X.mg "range" = none) (ha : E X a f) (na : starEach [a] X.env = (false, eval a X.env) :: starEach [] X.env := by rfl)
    (hs : starEach [.Call (.Name "range" p2) [a] [] pos2] X.env = (false, eval (.Call (.Name "range" p2) [a] [] pos2) X.env) :: starEach [] X.env := by rfl) : I X tg (.Call (.Name "reversed" p) [.Call (.Name "range" p2) [a] [] pos2] [] pos) (fun Γ => (aC f aN Γ).bind dRngR) := by
  obtain ⟨t, h1, h2⟩ := ha.ex
  refine ⟨⟨_, pi_revR hg hm (prg_1 hg2 hm2 h1 na) hs, fun G0 H0 Z Γ σ G H R ds Rl hf k => ?_⟩⟩
  obtain ⟨xs, e1, hf⟩ := obind hf
  obtain ⟨d, e2, e1⟩ := obind e1
  cases e1
  refine h2 G0 H0 Z Γ σ G H _ _ Rl e2 fun G1 H1 v x1 r1 => ?_
  cases d with
  | int j =>
    replace hf : (if -(2 ^ 62) ≤ j ∧ j < 2 ^ 62 then some (rngR 0 j.toNat) else none) = some ds := hf
    split at hf
    · rename_i z
      cases hf
      rw [r1.intv]
      refine ⟨j, rfl, by decide, by decide, z.1, z.2, ?_⟩
      have e : (j - 0).toNat = j.toNat := by congr 1; omega
      rw [e]
      exact k G1 H1 _ x1 itm_rangeR
    · cases hf
  | _ => cases hf

/-! ### comprehensions -/
def tEx (K : PySem.W.Frag) (mg : Str → Option Value) (f : Ex) : TE := fun σ H Q => ∃ G0 H0 Z Γ G d, Rel K mg G0 H0 Z Γ σ G H ∧ f Γ = some d ∧ ∀ G' H' v, Ext G H G' H' → Rep K mg G' v d → Q v H'
def tGx (K : PySem.W.Frag) (mg : Str → Option Value) (ix : List Nat) (g : Gs) : TG := fun v σ H Q => ∃ G0 H0 Z Γ G d Γ', Rel K mg G0 H0 Z Γ σ G H ∧ Rep K mg G v d ∧ g d Γ = some Γ' ∧ ∀ σ', Rel K mg G0 H0 Z Γ' σ' G H → (∀ vs, (∀ i ∈ ix, i ∈ vs) → L2.wipe σ' vs = L2.wipe σ vs) → Q σ' H
def tTx (K : PySem.W.Frag) (mg : Str → Option Value) (f : Te) : TT := fun σ H Q => ∃ G0 H0 Z Γ G d, Rel K mg G0 H0 Z Γ σ G H ∧ f Γ = some d ∧ ∀ G' H', Ext G H G' H' → Q d H'
theorem E.pe (h : E X e f) : PE X e (tEx X.K X.mg f) := by
  obtain ⟨t, h1, h2⟩ := h.ex
  exact ⟨fun pins s σ H Q I ⟨G0, H0, Z, Γ, G, d, R, hf, k⟩ => h1.run pins s σ H Q I (h2 G0 H0 Z Γ σ G H Q d R hf k)⟩
theorem G.pg (h : G X tg ix g) : PG X tg (tGx X.K X.mg ix g) := by
  obtain ⟨t, h1, h2⟩ := h.ex
  exact ⟨fun pins s σ H v u Q I ru ⟨G0, H0, Z, Γ, G, d, Γ', R, r, hf, k⟩ => h1.run pins s σ H v u Q I ru (h2 G0 H0 Z Γ σ G H Q d v Γ' R r hf k)⟩
/-- a comprehension's tests: none or one -/
structure Ts (X : Cx) (ifs : List Expr) (f : Te) : Prop where
  pt : PTs X ifs (tTx X.K X.mg f)
def gYes : Te := fun _ => some true
theorem ts_nil : Ts X [] gYes := ⟨⟨fun pins s σ H Q I ⟨G0, H0, Z, Γ, G, d, R, hf, k⟩ => by
  cases hf
  exact pts_nil.run pins s σ H Q I (k G H (Ext.refl R.gh))⟩⟩
theorem ts_one {p : Te} (h : T X e p) : Ts X [e] p := by
  obtain ⟨t, h1, h2⟩ := h.ex
  exact ⟨⟨fun pins s σ H Q I ⟨G0, H0, Z, Γ, G, d, R, hf, k⟩ => (pts_one h1).run pins s σ H Q I (h2 G0 H0 Z Γ σ G H Q d R hf k)⟩⟩
def compL (g : Gs) (t : Te) (e : Ex) : List D → DEnv → Option (List D)
  | [], _ => some []
  | d :: ds, Γ => (g d Γ).bind fun Γ1 => (t Γ1).bind fun b => if b then (e Γ1).bind fun y => (compL g t e ds Γ).bind fun r => some (y :: r) else compL g t e ds Γ
/-! walks: I over what is known; IB, IC over what is looked at (IB: that stands since the entry) -/
def ItmB (K : PySem.W.Frag) (mg : Str → Option Value) (J : It) (G Hb : Hp) (items : List D) : Prop :=
  ∀ i G1 H1, Same G G1 → Same G1 H1 → SameN Hb H1 → (items.length ≤ i → J.stop i H1) ∧ ∀ d, items[i]? = some d → J.go i H1 ∧ ∀ x H2, J.yld i H1 x H2 → ∃ G2, Ext G1 H1 G2 H2 ∧ Rep K mg G2 x d
structure IB (X : Cx) (tg iter : Expr) (f : Ag) : Prop where
  ex : ∃ t, PI X tg iter t ∧ ∀ G0 H0 Z Γ σ G H R ds, Rel X.K X.mg G0 H0 Z Γ σ G H → f Γ = some ds → (∀ G' H' J, Ext G H G' H' → ItmB X.K X.mg J G' H0 ds → R J H') → t σ H R
structure IC (X : Cx) (tg iter : Expr) (f : Ag) : Prop where
  ex : ∃ t, PI X tg iter t ∧ ∀ G0 H0 Z Γ σ G H R ds, Rel X.K X.mg G0 H0 Z Γ σ G H → f Γ = some ds → (∀ G' H' J, Ext G H G' H' → ItmB X.K X.mg J G' H' ds → R J H') → t σ H R
theorem I.fb {it : Ag} (h : I X tg iter it) : IB X tg iter it := by
  obtain ⟨t, h1, h2⟩ := h.ex
  exact ⟨⟨t, h1, fun G0 H0 Z Γ σ G H R ds Rl hf k => h2 G0 H0 Z Γ σ G H R ds Rl hf fun G' H' J x hJ => k G' H' J x fun i G1 H1 s1 s2 _ => hJ i G1 H1 s1 s2⟩⟩
theorem IB.c {it : Ag} (h : IB X tg iter it) : IC X tg iter it := by
  obtain ⟨t, h1, h2⟩ := h.ex
  exact ⟨⟨t, h1, fun G0 H0 Z Γ σ G H R ds Rl hf k => h2 G0 H0 Z Γ σ G H R ds Rl hf fun G' H' J x hJ => k G' H' J x fun i G1 H1 s1 s2 s3 => hJ i G1 H1 s1 s2 ((Rl.hh.trans x.hh).trans s3)⟩⟩
theorem I.c {it : Ag} (h : I X tg iter it) : IC X tg iter it := h.fb.c
theorem itmB_lst {K mg} {G H Hb : Hp} {v : V} {xs : List D} (gh : Same G H) (bh : SameN Hb H) (r : RepB K mg G Hb v (.lst xs)) : ∃ p vs, v = .ref p ∧ SqL K H p vs ∧ ItmB K mg (Itl K p) G Hb xs := by
  cases r with
  | sh r => cases r with
    | lst h r => exact ⟨_, _, rfl, SqL.of (gh _ _ h), fun i G1 H1 s1 s2 _ => itm_list (SqL.of h) r (fun _ _ => True.intro) i G1 H1 s1 s2⟩
  | li h r =>
    refine ⟨_, _, rfl, SqL.of (bh _ _ h nofun), fun i G1 H1 s1 s2 s3 => ?_⟩
    have h1 : SqL K H1 _ _ := SqL.of (s3 _ _ h nofun)
    refine ⟨fun hi => ⟨_, h1, by rw [r.length]; exact hi⟩, fun d hd => ?_⟩
    obtain ⟨v, e1, e2⟩ := r.get i hd
    refine ⟨⟨_, v, h1, e1⟩, fun x H2 y => ?_⟩
    obtain ⟨rfl, y⟩ := y
    have e3 := y _ h1
    rw [e1] at e3
    cases e3
    exact ⟨G1, Ext.refl s2, e2.mono s1⟩
theorem itmB_scr {K mg} {G H Hb : Hp} {v : V} {ns : List Int} (gh : Same G H) (r : RepB K mg G Hb v (.scr ns)) : ∃ p vs, v = .ref p ∧ SqL K H p vs ∧ ItmB K mg (Itl K p) G Hb (ns.map D.int) := by
  cases r with
  | sh r => cases r with
    | scr h => exact ⟨_, _, rfl, gh.seq h, fun i G1 H1 s1 s2 _ => itm_list h .ofInts (fun _ _ => True.intro) i G1 H1 s1 s2⟩
theorem itmB_tup {K mg} {G H Hb : Hp} {v : V} {xs : List D} (gh : Same G H) (r : RepB K mg G Hb v (.tup xs)) : ∃ p vs, v = .ref p ∧ SqT K H p vs ∧ ItmB K mg (Itt K p) G Hb xs := by
  cases r with
  | sh r => cases r with
    | tup h r => exact ⟨_, _, rfl, sqt_same gh h, fun i G1 H1 s1 s2 _ => itm_tup h r i G1 H1 s1 s2⟩
/-- a walk of a comprehension over what is looked at -/
theorem ic_b (h : B X iter f) : IC X tg iter (gIt f) := by
  obtain ⟨t, h1, h2⟩ := h.ex
  refine ⟨⟨_, pi_or (pi_list h1) (pi_tup h1), fun G0 H0 Z Γ σ G H R ds Rl hf k => ?_⟩⟩
  obtain ⟨d, e1, hf⟩ := obind hf
  cases d with
  | lst xs =>
    cases hf
    refine .inl (h2 G0 H0 Z Γ σ G H _ _ Rl e1 fun G1 H1 v x1 r1 => ?_)
    obtain ⟨p, vs, rfl, hs, it⟩ := itmB_lst x1.gh (same_n (Same.refl _)) r1
    exact ⟨_, rfl, ⟨_, hs⟩, k G1 H1 _ x1 it⟩
  | scr ns =>
    cases hf
    refine .inl (h2 G0 H0 Z Γ σ G H _ _ Rl e1 fun G1 H1 v x1 r1 => ?_)
    obtain ⟨p, vs, rfl, hs, it⟩ := itmB_scr x1.gh r1
    exact ⟨_, rfl, ⟨_, hs⟩, k G1 H1 _ x1 it⟩
  | tup xs =>
    cases hf
    refine .inr (h2 G0 H0 Z Γ σ G H _ _ Rl e1 fun G1 H1 v x1 r1 => ?_)
    obtain ⟨p, vs, rfl, hs, it⟩ := itmB_tup x1.gh r1
    exact ⟨_, rfl, ⟨_, hs⟩, k G1 H1 _ x1 it⟩
  | _ => cases hf
/-- what has been there since the entry -/
structure B0 (X : Cx) (e : Expr) (f : Ex) : Prop where
  ex : ∃ t, PE X e t ∧ ∀ G0 H0 Z Γ σ G H Q d, Rel X.K X.mg G0 H0 Z Γ σ G H → f Γ = some d → (∀ G' H' v, Ext G H G' H' → RepB X.K X.mg G' H0 v d → Q v H') → t σ H Q
def gB0 (i : Nat) : Ex := fun Γ => match Γ[i]? with | some (.bo d) => some d | some (.sh d) => some d | _ => none
theorem b0_var (i : Nat) {x : Str} (hN : X.N[i]? = some x := by rfl) (hv : Vis X.env.scope x := by first | exact Or.inl rfl | exact Or.inr (Or.inl rfl) | exact Or.inr (Or.inr rfl)) (hd : (x == ("__debug__" : Str)) = false := by decide)
    (hcd : (x == ("__classdict__" : Str)) = false := by decide) : B0 X (.Name x pos) (gB0 i) := by
  refine ⟨⟨_, pe_var hN hv hd hcd, fun G0 H0 Z Γ σ G H Q d R hf k => ?_⟩⟩
  unfold gB0 at hf
  cases q : Γ[i]? with
  | none => rw [q] at hf; cases hf
  | some s =>
    rw [q] at hf
    cases s with
    | sh d' =>
      cases hf
      obtain ⟨v, h1, h2⟩ := R.sh q
      exact ⟨v, h1, k G H v (Ext.refl R.gh) (.sh h2)⟩
    | bo d' =>
      cases hf
      obtain ⟨own, o1, o2, o3⟩ := R.own
      rcases o3 i _ q with z | ⟨v, h1, h2⟩ | ⟨v, d1, z, h1, h2⟩
      · cases z
      · cases h2
      · cases z; exact ⟨v, h1, k G H v (Ext.refl R.gh) h2⟩
    | _ => cases hf
theorem ib_b (h : B0 X iter f) : IB X tg iter (gIt f) := by
  obtain ⟨t, h1, h2⟩ := h.ex
  refine ⟨⟨_, pi_or (pi_list h1) (pi_tup h1), fun G0 H0 Z Γ σ G H R ds Rl hf k => ?_⟩⟩
  obtain ⟨d, e1, hf⟩ := obind hf
  cases d with
  | lst xs =>
    cases hf
    refine .inl (h2 G0 H0 Z Γ σ G H _ _ Rl e1 fun G1 H1 v x1 r1 => ?_)
    obtain ⟨p, vs, rfl, hs, it⟩ := itmB_lst x1.gh (Rl.hh.trans x1.hh) r1
    exact ⟨_, rfl, ⟨_, hs⟩, k G1 H1 _ x1 it⟩
  | scr ns =>
    cases hf
    refine .inl (h2 G0 H0 Z Γ σ G H _ _ Rl e1 fun G1 H1 v x1 r1 => ?_)
    obtain ⟨p, vs, rfl, hs, it⟩ := itmB_scr x1.gh r1
    exact ⟨_, rfl, ⟨_, hs⟩, k G1 H1 _ x1 it⟩
  | tup xs =>
    cases hf
    refine .inr (h2 G0 H0 Z Γ σ G H _ _ Rl e1 fun G1 H1 v x1 r1 => ?_)
    obtain ⟨p, vs, rfl, hs, it⟩ := itmB_tup x1.gh r1
    exact ⟨_, rfl, ⟨_, hs⟩, k G1 H1 _ x1 it⟩
  | _ => cases hf
def gLc (own : List Nat) (it : Ag) (g : Gs) (t : Te) (e : Ex) : Ag := fun Γ => (it Γ).bind fun ds => if ds.length < 1000000 then compL g t e ds (wipeE Γ own) else none
theorem lc_run {K : PySem.W.Frag} {mg : Str → Option Value} {own : List (Str × Nat)} {it : Ag} {p : Te} {wi : TI} (hix : ∀ i ∈ ix, i ∈ own.map (·.2))
    (hw : ∀ G0 H0 Z Γ σ G H R ds, Rel K mg G0 H0 Z Γ σ G H → it Γ = some ds → (∀ G' H' J, Ext G H G' H' → ItmB K mg J G' H' ds → R J H') → wi σ H R)
    {G0 H0 : Hp} {Z : Zs} {Γ : DEnv} {σ : L2.St} {G H : Hp} {Q : VK} {ds : List D} (R : Rel K mg G0 H0 Z Γ σ G H) (hf : gLc (own.map (·.2)) it g p f Γ = some ds)
    (k : ∀ G' H' D vs, Ext G H G' H' → H D = none → G' D = none → H' D = some (.lst vs) → RepL K mg G' vs ds → Q (.ref D) H') :
    tLc wi (tGx K mg ix g) (tTx K mg p) (tEx K mg f) (own.map (·.2)) σ H Q := by
  obtain ⟨items, e1, hf⟩ := obind hf
  split at hf
  · rename_i hlen
    refine hw G0 H0 Z Γ σ G H _ items R e1 fun G1 H1 J x1 hJ D hD => ?_
    have R1 := R.ext x1
    -- the state within: the list so far at D
    have ntD : ¬ Z.t.tz D := fun h => R1.zz _ (R1.tz _ h) hD
    refine ⟨fun i m Hc => m = items.length - i ∧ i ≤ items.length ∧ ∃ Gc acc dacc rest, Ext G1 H1 Gc Hc ∧ Gc D = none ∧ Hc D = some (.lst acc) ∧ acc.length ≤ i ∧ RepL K mg Gc acc dacc ∧ Rel K mg G0 H0 ⟨fun a => Z.z a ∨ a = D, Z.a, Z.t⟩ (wipeE Γ (own.map (·.2))) (L2.wipe σ (own.map (·.2))) Gc Hc ∧
      compL g p f (items.drop i) (wipeE Γ (own.map (·.2))) = some rest ∧ dacc ++ rest = ds, ⟨items.length, ?_⟩, ?_⟩
    · exact ⟨by simp, Nat.zero_le _, G1, [], [], ds, Ext.own1 x1.gh hD, x1.gh.free hD, upd_same, Nat.le_refl _, .nil, (R1.wipe (own.map (·.2))).zput hD, by simpa using hf, rfl⟩
    · rintro i m Hc ⟨rfl, hi, Gc, acc, dacc, rest, xc, gD, hcD, la, ra, Rc, hr, hds⟩
      obtain ⟨st, go⟩ := hJ i Gc Hc xc.gg xc.gh xc.hh
      have nn : ∀ {H : Hp}, H D = some (.lst acc) → H D ≠ none := fun e => by rw [e]; simp
      by_cases hlt : i < items.length
      · have hd : items.drop i = items[i] :: items.drop (i + 1) := List.drop_eq_getElem_cons hlt
        obtain ⟨g1, g2⟩ := go items[i] (List.getElem?_eq_getElem hlt)
        rw [hd] at hr
        obtain ⟨Γ1, c1, hr⟩ := obind hr
        obtain ⟨b, c2, hr⟩ := obind hr
        refine .inr ⟨g1, fun H' => ∃ m', (m' = items.length - (i + 1) ∧ i + 1 ≤ items.length ∧ ∃ Gc acc dacc rest, Ext G1 H1 Gc H' ∧ Gc D = none ∧ H' D = some (.lst acc) ∧ acc.length ≤ i + 1 ∧ RepL K mg Gc acc dacc ∧ Rel K mg G0 H0 ⟨fun a => Z.z a ∨ a = D, Z.a, Z.t⟩ (wipeE Γ (own.map (·.2))) (L2.wipe σ (own.map (·.2))) Gc H' ∧
          compL g p f (items.drop (i + 1)) (wipeE Γ (own.map (·.2))) = some rest ∧ dacc ++ rest = ds), fun H' ⟨m', h⟩ => ⟨m', by have := h.1; omega, h⟩, fun x H2 y => ?_⟩
        obtain ⟨G2, x2, r2⟩ := g2 x H2 y
        have xc2 := xc.trans x2
        have R2 := Rc.ext x2
        have gD2 : G2 D = none := x2.none gD (nn hcD)
        have hD2 := x2.hh _ _ hcD nofun
        refine ⟨G0, H0, _, _, G2, items[i], Γ1, R2, r2, c1, fun σ3 R3 w3 => ⟨(w3 _ hix).trans (wipe_sub _ fun _ h => h), ?_⟩⟩
        refine ⟨G0, H0, _, Γ1, G2, b, R3, c2, fun G4 H4 x4 => ?_⟩
        have gD4 : G4 D = none := x4.none gD2 (nn hD2)
        have hD4 := x4.hh _ _ hD2 nofun
        cases b with
        | false =>
          refine iteF ⟨_, rfl, hlt, G4, acc, dacc, rest, xc2.trans x4, gD4, hD4, by omega, (ra.mono x2.gg).mono x4.gg, R2.ext x4, hr, hds⟩
        | true =>
          refine iteT ⟨G0, H0, ⟨fun a => Z.z a ∨ a = D, Z.a, Z.t⟩, Γ1, G4, ?_⟩
          replace hr : ((f Γ1).bind fun y => (compL g p f (items.drop (i + 1)) (wipeE Γ (own.map (·.2)))).bind fun r => some (y :: r)) = some rest := hr
          obtain ⟨yv, c3, hr⟩ := obind hr
          obtain ⟨rr, c4, hr⟩ := obind hr
          cases hr
          refine ⟨yv, R3.ext x4, c3, fun G5 H5 v x5 r5 => ?_⟩
          have gD5 : G5 D = none := x5.none gD4 (nn hD4)
          have hD5 : H5 D = some (.lst acc) := x5.hh _ _ hD4 nofun
          refine ⟨acc, hD5, Nat.lt_of_lt_of_le (Nat.lt_of_le_of_lt la (Nat.lt_trans hlt hlen)) line_big, _, rfl, hlt, G5, acc ++ [v], dacc ++ [yv], rr, ?_, gD5, upd_same, by simp; omega, ((((ra.mono x2.gg).mono x4.gg).mono x5.gg).append (.cons r5 .nil)), ((R2.ext x4).ext x5).aside (.inr rfl) ntD gD5 (R1.hf hD), c4, by rw [← hds]; simp⟩
          have xx := (xc2.trans x4).trans x5
          refine ⟨xx.gg, fun a o q n => ?_, fun a o q => ?_, xx.new, fun a h => ?_, fun t => TC.ti.keep (xx.tb t) (Same.refl _) (fun a h => upd_ne (fun z => (TC.ti.live t a h).1 (by rw [z]; exact hD))) (fun _ _ g => g)⟩
          · rw [upd_ne (ne_of_none q hD)]; exact xx.hh _ _ q n
          · rw [upd_ne (ne_of_none q gD5)]; exact xx.gh _ _ q
          · by_cases z : a = D
            · subst z; rw [upd_same]; simp
            · rw [upd_ne z]; exact xx.hn a h
      · have e : i = items.length := by omega
        subst e
        refine .inl ⟨st (Nat.le_refl _), ?_⟩
        rw [List.drop_length] at hr
        cases hr
        rw [List.append_nil] at hds
        subst hds
        exact k Gc Hc D acc (x1.trans xc) (x1.hf hD) gD hcD ra
  · cases hf
theorem el_lc {elt : Expr} {ifs : List Expr} {scope : Scope} {own : List (Str × Nat)} {it : Ag} {p : Te} (hc : X.calm = true) (hN : X.N.Nodup) (hi : IC X tg iter it) (ok : BlkOk X.N X.env.scope scope own) (hix : ∀ i ∈ ix, i ∈ own.map (·.2))
    (hg : ∀ (s : Shared) (H : Hp) (C : Addr) (cl : List (Str × Addr)) (fp : List Addr), G (X.blk s H scope (compEnvC scope cl C X.env) fp) tg ix g)
    (ht : ∀ (s : Shared) (H : Hp) (C : Addr) (cl : List (Str × Addr)) (fp : List Addr), Ts (X.blk s H scope (compEnvC scope cl C X.env) fp) ifs p)
    (he : ∀ (s : Shared) (H : Hp) (C : Addr) (cl : List (Str × Addr)) (fp : List Addr), E (X.blk s H scope (compEnvC scope cl C X.env) fp) elt f) (hs : ∀ x, foldedSetIterable iter X.env x = pure x := by intro _; rfl) :
    EL X (.ListComp elt [⟨tg, iter, ifs, 0⟩] scope pos) (gLc (own.map (·.2)) it g p f) := by
  obtain ⟨wi, w1, w2⟩ := hi.ex
  exact ⟨⟨_, pe_lc hc hN w1 ok (fun s H C cl fp => (hg s H C cl fp).pg) (fun s H C cl fp => (ht s H C cl fp).pt) (fun s H C cl fp => (he s H C cl fp).pe) hs, fun G0 H0 Z Γ σ G H Q ds R hf k => lc_run hix w2 R hf k⟩⟩
end
end DL

namespace DL
open PySem L2
variable [TC : TabCtx]

/-! ### statements -/
def sNil : Sm := fun Γ => some (.nx Γ)
def sSeq (f g : Sm) : Sm := fun Γ => (f Γ).bind fun r => match r with | .nx Γ' => g Γ' | r => some r
def sBrk : Sm := fun Γ => some (.bk Γ)
def sCnt : Sm := fun Γ => some (.ct Γ)
def sSet (i : Nat) (f : Ex) : Sm := fun Γ => (f Γ).bind fun d => some (.nx (Γ.set i (.sh d)))
def sSetO (i : Nat) (f : Ag) : Sm := fun Γ => (f Γ).bind fun d => some (.nx (Γ.set i (.ow d)))
def sExp (f : Ex) : Sm := fun Γ => (f Γ).bind fun _ => some (.nx Γ)
def sRet (f : Ex) : Sm := fun Γ => (f Γ).bind fun d => some (.rt d)
def sRetN : Sm := fun _ => some (.rt .non)
def sIf (c : Te) (f g : Sm) : Sm := fun Γ => (c Γ).bind fun b => if b then f Γ else g Γ
def frzE (i : Nat) (Γ : DEnv) : DEnv := match Γ[i]? with | some (.ow xs) => Γ.set i (.sh (.lst xs)) | some (.dk ks xs) => Γ.set i (.sh (.dic ks xs)) | _ => Γ
def sFrz (i : Nat) (f : Sm) : Sm := fun Γ => f (frzE i Γ)
/-- a place of a slot, read and changed -/
def gP (i : Nat) (rp : Pth) (Γ : DEnv) : Option Sl := (Γ[i]?).bind (getR rp)
def upP (i : Nat) (rp : Pth) (s' : Sl) (Γ : DEnv) : Option Res := (Γ[i]?).bind fun s => (setR rp s' s).bind fun s2 => some (.nx (Γ.set i s2))
def sApp (i : Nat) (rp : Pth) (f : Ex) : Sm := fun Γ => (f Γ).bind fun d => match gP i rp Γ with
  | some (.ow xs) => if xs.length < 1000000 then upP i rp (.ow (xs ++ [d])) Γ else none
  | _ => none
def sAug (o : D → D → Option D) (i : Nat) (f : Ex) : Sm := fun Γ => (gV i Γ).bind fun x => (f Γ).bind fun y => (o x y).bind fun d => some (.nx (Γ.set i (.sh d)))
def sUnp (g : Gs) (f : Ex) : Sm := fun Γ => (f Γ).bind fun d => (g d Γ).bind fun Γ' => some (.nx Γ')
def sPar (is : List Nat) (fs : Ag) : Sm := fun Γ => (fs Γ).bind fun ds => some (.nx ((is.zip ds).foldl (fun Γ p => Γ.set p.1 (.sh p.2)) Γ))
def sIxS (i : Nat) (rp : Pth) (k : Ex) (f : Ex) : Sm := fun Γ => (f Γ).bind fun d => (k Γ).bind fun j => match gP i rp Γ, j with
  | some (.ow xs), .int n => (ixN xs.length n).bind fun m => upP i rp (.ow (xs.set m d)) Γ
  | _, _ => none

section
variable {X : Cx} {e a b o tg : Expr} {es : List Expr} {f k : Ex} {fs : Ag} {st : Stmt} {sts : List Stmt} {F F' : Sm} {p : Te} {pos pos' : Pos} {n : Nat} {ix : List Nat} {g : Gs}
theorem ss_nil : Ss X [] sNil := ⟨⟨_, pss_nil, fun G0 H0 Z Γ σ G H D r R hf k => by cases hf; exact k σ G H R⟩⟩
theorem ss_cons (h : S X st F) (hr : Ss X sts F') : Ss X (st :: sts) (sSeq F F') := by
  obtain ⟨t, h1, h2⟩ := h.ex
  obtain ⟨u, q1, q2⟩ := hr.ex
  refine ⟨⟨_, pss_cons h1 q1, fun G0 H0 Z Γ σ G H D r R hf k => ?_⟩⟩
  obtain ⟨r1, e1, hf⟩ := obind hf
  refine h2 G0 H0 Z Γ σ G H _ r1 R e1 ?_
  cases r1 with
  | nx Γ1 => exact fun σ1 G1 H1 R1 => q2 G0 H0 Z Γ1 σ1 G1 H1 D r R1 hf k
  | rt d => cases hf; exact k
  | rm d s => cases hf; exact k
  | ro s => cases hf; exact k
  | bk Γ1 => cases hf; exact k
  | ct Γ1 => cases hf; exact k
  | ra n => cases hf; exact k
theorem ss_one (h : S X st F) : Ss X [st] F := by
  obtain ⟨t, h1, h2⟩ := h.ex
  exact ⟨⟨_, pss_one h1, h2⟩⟩
theorem s_pass : S X (.Pass pos) sNil := ⟨⟨_, ps_pass, fun G0 H0 Z Γ σ G H D r R hf k => by cases hf; exact k σ G H R⟩⟩
theorem s_break : S X (.Break pos) sBrk := ⟨⟨_, ps_break, fun G0 H0 Z Γ σ G H D r R hf k => by cases hf; exact k σ G H R⟩⟩
theorem s_cont : S X (.Continue pos) sCnt := ⟨⟨_, ps_continue, fun G0 H0 Z Γ σ G H D r R hf k => by cases hf; exact k σ G H R⟩⟩
theorem s_set (i : Nat) {x : Str} (hN : X.N.Nodup) (he : E X e f) (hi : X.N[i]? = some x := by rfl) (hx : Loc X.env.scope x := by first | exact Or.inl rfl | exact Or.inr rfl) (hs : swapsWith e (some (.Name x pos')) pos.line X.env = pure false := by rfl)
    (hf : X.fn x = true ∨ X.env.scope.names.lookup x = some .local := by first | exact .inl rfl | exact .inr rfl | assumption) : S X (.Assign [.Name x pos'] e pos) (sSet i f) := by
  obtain ⟨t, h1, h2⟩ := he.ex
  refine ⟨⟨_, ps_set hN hi hx h1 hs hf, fun G0 H0 Z Γ σ G H D r R hf k => ?_⟩⟩
  obtain ⟨d, e1, hf⟩ := obind hf
  cases hf
  exact h2 G0 H0 Z Γ σ G H _ d R e1 fun G1 H1 v x1 r1 => k _ G1 H1 ((R.ext x1).set i r1)
theorem set_own {K : PySem.W.Frag} {mg : Str → Option Value} {G0 H0 : Hp} {Z : Zs} {Γ : DEnv} {σ : L2.St} {G H G1 H1 : Hp} {q : Addr} {vs : List V} {xs : List D} (R : Rel K mg G0 H0 Z Γ σ G H) (x1 : Ext G H G1 H1) (hq : H q = none) (gq : G1 q = none) (h : H1 q = some (.lst vs)) (r : RepL K mg G1 vs xs) (i : Nat) (h0 : i ≠ 0) :
    Rel K mg G0 H0 Z (Γ.set i (.ow xs)) (σ.set i (some (.ref q))) G1 H1 :=
  R.setNew x1 i (F := fun a => a = q) (.ow rfl h r) (fun a e => by subst e; exact ⟨gq, hq, by rw [h]; simp⟩) (.inl h0)
theorem s_setO (i : Nat) {x : Str} (hN : X.N.Nodup) (he : EL X e fs) (h0 : i ≠ 0 := by decide) (hi : X.N[i]? = some x := by rfl) (hx : Loc X.env.scope x := by first | exact Or.inl rfl | exact Or.inr rfl) (hs : swapsWith e (some (.Name x pos')) pos.line X.env = pure false := by rfl)
    (hf : X.fn x = true ∨ X.env.scope.names.lookup x = some .local := by first | exact .inl rfl | exact .inr rfl | assumption) : S X (.Assign [.Name x pos'] e pos) (sSetO i fs) := by
  obtain ⟨t, h1, h2⟩ := he.ex
  refine ⟨⟨_, ps_set hN hi hx h1 hs hf, fun G0 H0 Z Γ σ G H D r R hf k => ?_⟩⟩
  obtain ⟨d, e1, hf⟩ := obind hf
  cases hf
  exact h2 G0 H0 Z Γ σ G H _ d R e1 fun G1 H1 q vs x1 hq gq h r1 => k _ G1 H1 (set_own R x1 hq gq h r1 i h0)
theorem s_expr (he : E X e f) (hs : swapsWith e none pos.line X.env = pure false := by rfl) : S X (.Expr e pos) (sExp f) := by
  obtain ⟨t, h1, h2⟩ := he.ex
  refine ⟨⟨_, ps_expr h1 hs, fun G0 H0 Z Γ σ G H D r R hf k => ?_⟩⟩
  obtain ⟨d, e1, hf⟩ := obind hf
  cases hf
  exact h2 G0 H0 Z Γ σ G H _ d R e1 fun G1 H1 v x1 r1 => k σ G1 H1 (R.ext x1)
theorem Rel.end {K : PySem.W.Frag} {mg : Str → Option Value} {G0 H0 : Hp} {Z : Zs} {Γ : DEnv} {σ : L2.St} {G H : Hp} (R : Rel K mg G0 H0 Z Γ σ G H) : Ext G0 H0 G H := ⟨R.gg, R.hh, R.gh, R.new, R.hn, fun _ => by rw [← R.tc]; exact R.tb⟩
theorem s_ret (he : E X e f) : S X (.Return (some e) pos) (sRet f) := by
  obtain ⟨t, h1, h2⟩ := he.ex
  refine ⟨⟨_, ps_ret h1, fun G0 H0 Z Γ σ G H D r R hf k => ?_⟩⟩
  obtain ⟨d, e1, hf⟩ := obind hf
  cases hf
  exact h2 G0 H0 Z Γ σ G H _ d R e1 fun G1 H1 v x1 r1 => k G1 H1 v (R.ext x1).end r1
theorem s_retN : S X (.Return none pos) sRetN := ⟨⟨_, ps_retN, fun G0 H0 Z Γ σ G H D r R hf k => by cases hf; exact k G H _ R.end .non⟩⟩
theorem s_if {c : Expr} {sa sb : List Stmt} (hc : T X c p) (ha : Ss X sa F) (hb : Ss X sb F') : S X (.If c sa sb pos) (sIf p F F') := by
  obtain ⟨t, h1, h2⟩ := hc.ex
  obtain ⟨u, q1, q2⟩ := ha.ex
  obtain ⟨w, z1, z2⟩ := hb.ex
  refine ⟨⟨_, ps_if h1 q1 z1, fun G0 H0 Z Γ σ G H D r R hf k => ?_⟩⟩
  obtain ⟨b, e1, hf⟩ := obind hf
  refine h2 G0 H0 Z Γ σ G H _ b R e1 fun G1 H1 x1 => ?_
  cases b with
  | true => exact iteT (q2 G0 H0 Z Γ σ G1 H1 D r (R.ext x1) hf k)
  | false => exact iteF (z2 G0 H0 Z Γ σ G1 H1 D r (R.ext x1) hf k)
theorem Rel.frzE {K : PySem.W.Frag} {mg : Str → Option Value} {G0 H0 : Hp} {Z : Zs} {Γ : DEnv} {σ : L2.St} {G H : Hp} (R : Rel K mg G0 H0 Z Γ σ G H) (i : Nat) : ∃ G', Rel K mg G0 H0 Z (frzE i Γ) σ G' H := by
  unfold DL.frzE
  cases q : Γ[i]? with
  | none => exact ⟨G, R⟩
  | some s =>
    cases s with
    | ow xs => obtain ⟨G', R', _⟩ := R.frzP (rp := []) (d := .lst xs) q rfl (by simp) (by simp [SlP]) rfl rfl; exact ⟨G', R'⟩
    | dk ks xs => obtain ⟨G', R', _⟩ := R.frzP (rp := []) (d := .dic ks xs) q rfl (by simp) (by simp [SlP]) (by simp only [toD]) rfl; exact ⟨G', R'⟩
    | _ => exact ⟨G, R⟩
theorem s_frz (i : Nat) (h : S X st F) : S X st (sFrz i F) := by
  obtain ⟨t, h1, h2⟩ := h.ex
  refine ⟨⟨t, h1, fun G0 H0 Z Γ σ G H D r R hf k => ?_⟩⟩
  obtain ⟨G', R'⟩ := R.frzE i
  exact h2 G0 H0 _ _ σ G' H D r R' hf k
/-! places -/
structure PL (X : Cx) (e : Expr) (i : Nat) (rp : Pth) : Prop where
  ex : ∃ t, PE X e t ∧ ∀ G0 H0 Z Γ σ Gb Hb G H Q s s1, Rel X.K X.mg G0 H0 Z Γ σ Gb Hb → Ext Gb Hb G H → Γ[i]? = some s → getR rp s = some s1 → SlP s → s1 ≠ .no → (∀ v, (∀ G1 H1, Ext Gb Hb G1 H1 → ∃ F1, Pack X.K X.mg G0 H0 Z Γ σ i rp s s1 v F1 Hb G1 H1) → Q v H) → t σ H Q
theorem pl_var (i : Nat) {x : Str} (hN : X.N[i]? = some x := by rfl) (hv : Vis X.env.scope x := by first | exact Or.inl rfl | exact Or.inr (Or.inl rfl) | exact Or.inr (Or.inr rfl)) (hd : (x == ("__debug__" : Str)) = false := by decide)
    (hcd : (x == ("__classdict__" : Str)) = false := by decide) : PL X (.Name x pos) i [] := by
  refine ⟨⟨_, pe_var hN hv hd hcd, fun G0 H0 Z Γ σ Gb Hb G H Q s s1 R xb hi hg hn h1 k => ?_⟩⟩
  obtain ⟨v, F1, e, pk⟩ := R.pack hi hg h1 hn
  exact ⟨v, e rfl, k v fun G1 H1 x => ⟨F1, pk G1 H1 x⟩⟩
theorem Pack.obAt {K : PySem.W.Frag} {mg : Str → Option Value} {G0 H0 : Hp} {Z : Zs} {Γ : DEnv} {σ : L2.St} {G H Hb : Hp} {i c : Nat} {rp : Pth} {s : Sl} {fs : List Sl} {v : V} {F1 : Addr → Prop} (P : Pack K mg G0 H0 Z Γ σ i rp s (.ob c fs) v F1 Hb G H) : ∃ p C dx zs, v = .ref p ∧ H p = some (.ins C dx zs) := by
  have hd := P.hd
  cases hd with
  | ob f hm h n s r => exact ⟨_, _, _, _, rfl, h⟩
theorem pl_fld {i : Nat} {rp : Pth} {c j : Nat} {C : Addr} {x : Str} (ck : CK X.K X.mg c C) (h : PL X o i rp) (hj : (cF c)[j]? = some x := by rfl) (nd : (cF c).Nodup := by decide +kernel) (hb : attributeBase o x X.env (eval o X.env) = eval o X.env := by rfl) : PL X (.Attribute o x pos) i ((c, j) :: rp) := by
  obtain ⟨t, h1, h2⟩ := h.ex
  refine ⟨⟨_, pe_fld h1 hb, fun G0 H0 Z Γ σ Gb Hb G H Q s s1 R xb hi hg hn hs k => ?_⟩⟩
  unfold getR at hg
  cases q : getR rp s with
  | none => rw [q] at hg; cases hg
  | some par =>
    rw [q] at hg
    cases par with
    | ob c' fs =>
      replace hg : (if c' = c then fs[j]? else none) = some s1 := hg
      split at hg
      · rename_i hc
        subst hc
        refine h2 G0 H0 Z Γ σ Gb Hb G H _ s _ R xb hi q hn (by simp) fun v pk => ?_
        obtain ⟨F0, p0⟩ := pk G H xb
        obtain ⟨p, C', dx, vs, v1, F1, rfl, hm, ho, e1, _⟩ := p0.fld q hg
        rw [ck.hm] at hm
        cases hm
        have look := zip_lookup nd hj e1
        refine ⟨p, C, dx, _, v1, rfl, ho, ck.cl, ck.na x (List.mem_of_getElem? hj), look, k v1 fun G1 H1 x1 => ?_⟩
        obtain ⟨F2, p2⟩ := pk G1 H1 x1
        obtain ⟨p', C2, dx2, vs2, v2, F3, ep, _, ho2, e2, p3⟩ := p2.fld q hg
        cases ep
        obtain ⟨Fb, pb⟩ := pk Gb Hb (Ext.refl R.gh)
        obtain ⟨p', _, _, _, ep, hb1⟩ := pb.obAt
        cases ep
        have h3 := x1.hh _ _ hb1 nofun
        have h4 := xb.hh _ _ hb1 nofun
        rw [ho2] at h3
        rw [ho] at h4
        cases h4
        have ez : (cF c').zip vs2 = (cF c').zip vs := by injection h3 with h3; injection h3
        have look2 := zip_lookup nd hj e2
        rw [ez, look] at look2
        cases look2
        exact ⟨F3, p3⟩
      · cases hg
    | ol fs =>
      replace hg : (if c = 1000 then fs[j]? else none) = some s1 := hg
      split at hg
      · rename_i hc
        subst hc
        cases hj
      · cases hg
    | _ => cases hg
/-- .. read: a datum -/
def gPE (i : Nat) (rp : Pth) : Ex := fun Γ => match gP i rp Γ with | some (.sh d) => some d | _ => none
def gPB (i : Nat) (rp : Pth) : Ex := fun Γ => match gP i rp Γ with | some (.sh d) => some d | some (.ow xs) => some (.lst xs) | some (.ob c fs) => toD (.ob c fs) | some (.dk ks xs) => some (.dic ks xs) | some (.ol ss) => (toDs ss).map .lls | _ => none
theorem gP_some {i : Nat} {rp : Pth} {Γ : DEnv} {s1 : Sl} (h : gP i rp Γ = some s1) (hn : SlP s1) : ∃ s, Γ[i]? = some s ∧ getR rp s = some s1 ∧ SlP s := by
  obtain ⟨s, e1, e2⟩ := obind h
  have key : ∀ z : Sl, (∀ c fs, z ≠ .ob c fs) → (∀ fs, z ≠ .ol fs) → ∀ rp : Pth, getR rp z = none ∨ getR rp z = some z   := fun z hz hzl rp => by
    induction rp with
    | nil => exact .inr rfl
    | cons p rp ih =>
      left
      unfold getR
      rcases ih with q | q
      · rw [q]
      · rw [q]
        cases z with
        | ob c fs => exact absurd rfl (hz c fs)
        | ol fs => exact absurd rfl (hzl fs)
        | _ => rfl
  refine ⟨s, e1, e2, fun z => ?_, fun d z => ?_⟩
  · subst z
    rcases key .no (by simp) (by simp) rp with q | q
    · rw [q] at e2; cases e2
    · rw [q] at e2; cases e2; exact hn.1 rfl
  · subst z
    rcases key (.bo d) (by simp) (by simp) rp with q | q
    · rw [q] at e2; cases e2
    · rw [q] at e2; cases e2; exact hn.2 d rfl
theorem PL.er {i : Nat} {rp : Pth} (h : PL X e i rp) : E X e (gPE i rp) := by
  obtain ⟨t, h1, h2⟩ := h.ex
  refine ⟨⟨t, h1, fun G0 H0 Z Γ σ G H Q d R hf k => ?_⟩⟩
  unfold gPE at hf
  cases q : gP i rp Γ with
  | none => rw [q] at hf; cases hf
  | some s1 =>
    rw [q] at hf
    cases s1 with
    | sh d' =>
      cases hf
      obtain ⟨s, e1, e2, e3⟩ := gP_some q (by simp [SlP])
      refine h2 G0 H0 Z Γ σ G H G H Q s _ R (Ext.refl R.gh) e1 e2 e3 (by simp) fun v pk => ?_
      obtain ⟨F1, p⟩ := pk G H (Ext.refl R.gh)
      have hd := p.hd
      cases hd with
      | sh r => exact k G H v (Ext.refl R.gh) r
    | _ => cases hf
theorem PL.br {i : Nat} {rp : Pth} (h : PL X e i rp) : B X e (gPB i rp) := by
  obtain ⟨t, h1, h2⟩ := h.ex
  refine ⟨⟨t, h1, fun G0 H0 Z Γ σ G H Q d R hf k => ?_⟩⟩
  unfold gPB at hf
  cases q : gP i rp Γ with
  | none => rw [q] at hf; cases hf
  | some s1 =>
    rw [q] at hf
    cases s1 with
    | sh d' =>
      cases hf
      obtain ⟨s, e1, e2, e3⟩ := gP_some q (by simp [SlP])
      refine h2 G0 H0 Z Γ σ G H G H Q s _ R (Ext.refl R.gh) e1 e2 e3 (by simp) fun v pk => ?_
      obtain ⟨F1, p⟩ := pk G H (Ext.refl R.gh)
      have hd := p.hd
      cases hd with
      | sh r => exact k G H v (Ext.refl R.gh) (.sh r)
    | ow xs =>
      cases hf
      obtain ⟨s, e1, e2, e3⟩ := gP_some q (by simp [SlP])
      refine h2 G0 H0 Z Γ σ G H G H Q s _ R (Ext.refl R.gh) e1 e2 e3 (by simp) fun v pk => ?_
      obtain ⟨F1, p⟩ := pk G H (Ext.refl R.gh)
      have hd := p.hd
      cases hd with
      | ow f h r => exact k G H _ (Ext.refl R.gh) (.li h r)
    | ob c fs =>
      obtain ⟨s, e1, e2, e3⟩ := gP_some q (by simp [SlP])
      refine h2 G0 H0 Z Γ σ G H G H Q s _ R (Ext.refl R.gh) e1 e2 e3 (by simp) fun v pk => ?_
      obtain ⟨F1, p⟩ := pk G H (Ext.refl R.gh)
      exact k G H _ (Ext.refl R.gh) (p.hd.bo hf)
    | dk ks xs =>
      obtain ⟨s, e1, e2, e3⟩ := gP_some q (by simp [SlP])
      refine h2 G0 H0 Z Γ σ G H G H Q s _ R (Ext.refl R.gh) e1 e2 e3 (by simp) fun v pk => ?_
      obtain ⟨F1, p⟩ := pk G H (Ext.refl R.gh)
      exact k G H _ (Ext.refl R.gh) (p.hd.bo (by cases hf; simp only [toD]))
    | ol ss =>
      obtain ⟨s, e1, e2, e3⟩ := gP_some q (by simp [SlP])
      refine h2 G0 H0 Z Γ σ G H G H Q s _ R (Ext.refl R.gh) e1 e2 e3 (by simp) fun v pk => ?_
      obtain ⟨F1, p⟩ := pk G H (Ext.refl R.gh)
      replace hf : (toDs ss).map .lls = some d := hf
      obtain ⟨ds, q1, rfl⟩ := Option.map_eq_some_iff.mp hf
      have hd := p.hd
      cases hd with
      | ol f h n s r => exact k G H _ (Ext.refl R.gh) (.lls h (r.bo q1))
    | _ => cases hf
/-- one's own list at a place is changed in place -/
theorem Pack.list {K : PySem.W.Frag} {mg : Str → Option Value} {G0 H0 : Hp} {Z : Zs} {Γ : DEnv} {σ : L2.St} {G H : Hp} {i : Nat} {rp : Pth} {s : Sl} {xs : List D} {v : V} {F1 : Addr → Prop} (gh : Same G H) {Hb : Hp} (P : Pack K mg G0 H0 Z Γ σ i rp s (.ow xs) v F1 Hb G H) :
    ∃ l vs, v = .ref l ∧ H l = some (.lst vs) ∧ RepL K mg G vs xs ∧ ∀ vs' ys s', RepL K mg G vs' ys → setR rp (.ow ys) s = some s' → Rel K mg G0 H0 Z (Γ.set i s') σ G (upd H l (.lst vs')) := by
  have hd := P.hd
  cases hd with
  | ow f h r =>
    rename_i l vs
    refine ⟨l, vs, rfl, h, r, fun vs' ys s' r' es => ?_⟩
    have gl := (P.fr l f).1
    refine P.up G _ (fun a => a = l) (.ow ys) s' (Same.refl _) (fun a o q => ?_) (fun a q => .inl q) (fun a o nf q => ?_) (.ow rfl upd_same r') (fun a e => ?_) (fun _ => rfl) es
    · rw [upd_ne (ne_of_none q gl)]; exact gh _ _ q
    · rw [upd_ne]
      · exact q
      · intro e; subst e; exact nf f
    · subst e
      exact ⟨gl, by rw [upd_same]; simp, .inl f⟩
theorem upP_some {i : Nat} {rp : Pth} {s' : Sl} {Γ : DEnv} {r : Res} (h : upP i rp s' Γ = some r) : ∃ s s2, Γ[i]? = some s ∧ setR rp s' s = some s2 ∧ r = .nx (Γ.set i s2) := by
  obtain ⟨s, e1, h⟩ := obind h
  obtain ⟨s2, e2, h⟩ := obind h
  cases h
  exact ⟨s, s2, e1, e2, rfl⟩
theorem s_app {i : Nat} {rp : Pth} {ap : Pos} (hp : PL X o i rp) (he : E X e f) (hst : starEach [e] X.env = (false, eval e X.env) :: starEach [] X.env := by rfl)
    (hpe : ∀ {r : V → List V → Hp → VK → Prop} {to te : TE}, MtR X "list.append" r → PE X o to → PE X e te → PE X (.Call (.Attribute o "append" ap) [e] [] pos) (tBM X.K "list" r to (tCons te tNil)) := by intro r to te hm ho hp; exact pe_bm PySem.F.plainAttrs_list PySem.F.slot_list_append PySem.F.type_list_append hm ho (pa_cons hp pa_nil))
    (hs : swapsWith (.Call (.Attribute o "append" ap) [e] [] pos) none pos'.line X.env = pure false := by rfl) : S X (.Expr (.Call (.Attribute o "append" ap) [e] [] pos) pos') (sApp i rp f) := by
  obtain ⟨t, h1, h2⟩ := he.ex
  obtain ⟨u, u1, u2⟩ := hp.ex
  refine ⟨⟨_, ps_expr (hpe mt_append u1 h1) hs, fun G0 H0 Z Γ σ G H D r R hf k => ?_⟩⟩
  obtain ⟨d, e1, hf⟩ := obind hf
  cases q : gP i rp Γ with
  | none => rw [q] at hf; cases hf
  | some s1 =>
    rw [q] at hf
    cases s1 with
    | ow xs =>
      replace hf : (if xs.length < 1000000 then upP i rp (.ow (xs ++ [d])) Γ else none) = some r := hf
      split at hf
      · rename_i hl
        obtain ⟨s, s2, a1, a2, rfl⟩ := upP_some hf
        obtain ⟨s', b1, b2, b3⟩ := gP_some q (by simp [SlP])
        rw [a1] at b1
        cases b1
        refine u2 G0 H0 Z Γ σ G H G H _ s _ R (Ext.refl R.gh) a1 b2 b3 (by simp) fun v pk => ?_
        obtain ⟨F0, p0⟩ := pk G H (Ext.refl R.gh)
        obtain ⟨l, vs, rfl, c1, c2, _⟩ := p0.list R.gh
        refine ⟨.inl ⟨rfl, _, SqL.of c1⟩, ?_⟩
        refine h2 G0 H0 Z Γ σ G H _ d R e1 fun G1 H1 v x1 r1 => ?_
        obtain ⟨F1, p1⟩ := pk G1 H1 x1
        obtain ⟨l', vs', e', d1, d2, d3⟩ := p1.list x1.gh
        cases e'
        refine ⟨l, vs', v, rfl, rfl, d1, ?_, ?_⟩
        · rw [d2.length]; exact Nat.lt_of_lt_of_le hl line_big
        · exact k σ G1 _ (d3 _ _ _ (d2.append (.cons r1 .nil)) a2)
      · cases hf
    | _ => cases hf
theorem s_aug (i : Nat) {x : Str} {op : Operator} {C : Int → Int → Int} {o : D → D → Option D} (hN : X.N.Nodup) (he : E X e f) (ho : PIp X op (ipI C)) (hoo : ∀ x y d, o x y = some d → ∃ i j, x = .int i ∧ y = .int j ∧ d = .int (C i j)) (hi : X.N[i]? = some x := by rfl) (hx : Loc X.env.scope x := by first | exact Or.inl rfl | exact Or.inr rfl)
    (hf : X.fn x = true ∨ X.env.scope.names.lookup x = some .local := by first | exact .inl rfl | exact .inr rfl | assumption) : S X (.AugAssign (.Name x pos') op e pos) (sAug o i f) := by
  obtain ⟨t, h1, h2⟩ := he.ex
  refine ⟨⟨_, ps_aug hN hi hx h1 ho hf, fun G0 H0 Z Γ σ G H D r R hf k => ?_⟩⟩
  obtain ⟨a, e0, hf⟩ := obind hf
  obtain ⟨b, e1, hf⟩ := obind hf
  obtain ⟨c, e2, hf⟩ := obind hf
  cases hf
  obtain ⟨m, n, rfl, rfl, rfl⟩ := hoo _ _ _ e2
  unfold gV at e0
  cases q : Γ[i]? with
  | none => rw [q] at e0; cases e0
  | some s =>
    rw [q] at e0
    cases s with
    | sh d =>
      cases e0
      obtain ⟨v, a1, a2⟩ := R.sh q
      rw [a2.intv] at a1
      refine ⟨_, a1, h2 G0 H0 Z Γ σ G H _ _ R e1 fun G1 H1 v x1 r1 => ?_⟩
      rw [r1.intv]
      exact ⟨m, n, rfl, rfl, k _ G1 H1 ((R.ext x1).set i (.int _))⟩
    | _ => cases e0
theorem aug_add : ∀ x y d, dAdd x y = some d → (∃ i j, x = .int i ∧ y = .int j ∧ d = .int (i + j)) ∨ ¬ ∃ i, x = .int i := fun x y d h => by
  cases x with
  | int i => cases y with
    | int j => cases h; exact .inl ⟨i, j, rfl, rfl, rfl⟩
    | _ => cases h
  | _ => exact .inr (by simp)
/-- +=, -= of whole numbers -/
def dAddI : D → D → Option D
  | .int i, .int j => some (.int (i + j))
  | _, _ => none
theorem s_augA (i : Nat) {x : Str} (hN : X.N.Nodup) (he : E X e f) (hi : X.N[i]? = some x := by rfl) (hx : Loc X.env.scope x := by first | exact Or.inl rfl | exact Or.inr rfl)
    (hf : X.fn x = true ∨ X.env.scope.names.lookup x = some .local := by first | exact .inl rfl | exact .inr rfl | assumption) : S X (.AugAssign (.Name x pos') .Add e pos) (sAug dAddI i f) :=
  s_aug i hN he ip_add (fun x y d h => by
    cases x with
    | int i => cases y with
      | int j => cases h; exact ⟨i, j, rfl, rfl, rfl⟩
      | _ => cases h
    | _ => cases h) hi hx hf
theorem s_augS (i : Nat) {x : Str} (hN : X.N.Nodup) (he : E X e f) (hi : X.N[i]? = some x := by rfl) (hx : Loc X.env.scope x := by first | exact Or.inl rfl | exact Or.inr rfl)
    (hf : X.fn x = true ∨ X.env.scope.names.lookup x = some .local := by first | exact .inl rfl | exact .inr rfl | assumption) : S X (.AugAssign (.Name x pos') .Sub e pos) (sAug dSub i f) :=
  s_aug i hN he ip_sub (fun x y d h => by
    cases x with
    | int i => cases y with
      | int j => cases h; exact ⟨i, j, rfl, rfl, rfl⟩
      | _ => cases h
    | _ => cases h) hi hx hf
/-- a, b = e -/
theorem s_unp (he : E X e f) (hg : G X tg ix g) (hs : swapsWithSole [tg] e pos.line X.env = pure false := by rfl) (hw : swappedStores [tg] e X.env = pure none := by rfl)
    (h1 : (assignEach [tg] X.env).map (·.2) = [assign tg X.env] := by rfl) : S X (.Assign [tg] e pos) (sUnp g f) := by
  obtain ⟨t, h1', h2⟩ := he.ex
  obtain ⟨u, q1, q2⟩ := hg.ex
  refine ⟨⟨_, ps_asg h1' q1 hs hw h1, fun G0 H0 Z Γ σ G H D r R hf k => ?_⟩⟩
  obtain ⟨d, e1, hf⟩ := obind hf
  obtain ⟨Γ', e2, hf⟩ := obind hf
  cases hf
  refine h2 G0 H0 Z Γ σ G H _ d R e1 fun G1 H1 v x1 r1 => ?_
  exact q2 G0 H0 Z Γ σ G1 H1 _ d v Γ' (R.ext x1) r1 e2 fun σ' R' _ => k σ' G1 H1 R'
/-- a, b = x, y -/
theorem s_par {i j : Nat} {x y : Str} {px py pt : Pos} {kt k2 pt2} (hc : X.calm = true) (hN : X.N.Nodup) (ha : AN X [a, b] 2 fs) (hi : X.N[i]? = some x := by rfl) (hj : X.N[j]? = some y := by rfl) (hij : i ≠ j := by decide)
    (hx : X.env.scope.names.lookup x = some .local := by rfl) (hy : X.env.scope.names.lookup y = some .local := by rfl)
    (hw : swappedStores [.Tuple [.Name x px, .Name y py] kt pt] (.Tuple [a, b] k2 pt2) X.env = pure (some [x, y]) := by rfl)
    (hs : swapsWithSole [.Tuple [.Name x px, .Name y py] kt pt] (.Tuple [a, b] k2 pt2) pos.line X.env = pure false := by rfl) :
    S X (.Assign [.Tuple [.Name x px, .Name y py] kt pt] (.Tuple [a, b] k2 pt2) pos) (sPar [i, j] fs) := by
  obtain ⟨t, h1, h2⟩ := ha.a.ex
  refine ⟨⟨_, ps_par hc hN hi hj hij hx hy h1 hw hs, fun G0 H0 Z Γ σ G H D r R hf k => ?_⟩⟩
  obtain ⟨ds, e1, hf⟩ := obind hf
  cases hf
  have hl := ha.n Γ ds e1
  refine h2 G0 H0 Z Γ σ G H _ ds R e1 fun G1 H1 vs x1 r1 => ?_
  match ds, hl, r1, k with
  | [d1, d2], _, .cons r (.cons q .nil), k => exact ⟨_, _, rfl, k _ G1 H1 (((R.ext x1).set i r).set j q)⟩
theorem s_par3 {i j l : Nat} {x y z : Str} {c : Expr} {px py pz pt : Pos} {kt k2 pt2} (hc : X.calm = true) (hN : X.N.Nodup) (ha : AN X [a, b, c] 3 fs) (hi : X.N[i]? = some x := by rfl) (hj : X.N[j]? = some y := by rfl) (hl : X.N[l]? = some z := by rfl) (hij : i ≠ j := by decide) (hil : i ≠ l := by decide) (hjl : j ≠ l := by decide)
    (hx : X.env.scope.names.lookup x = some .local := by rfl) (hy : X.env.scope.names.lookup y = some .local := by rfl) (hz : X.env.scope.names.lookup z = some .local := by rfl)
    (hw : swappedStores [.Tuple [.Name x px, .Name y py, .Name z pz] kt pt] (.Tuple [a, b, c] k2 pt2) X.env = pure (some [x, y, z]) := by rfl)
    (hs : swapsWithSole [.Tuple [.Name x px, .Name y py, .Name z pz] kt pt] (.Tuple [a, b, c] k2 pt2) pos.line X.env = pure false := by rfl) :
    S X (.Assign [.Tuple [.Name x px, .Name y py, .Name z pz] kt pt] (.Tuple [a, b, c] k2 pt2) pos) (sPar [i, j, l] fs) := by
  obtain ⟨t, h1, h2⟩ := ha.a.ex
  refine ⟨⟨_, ps_par3 hc hN hi hj hl hij hil hjl hx hy hz h1 hw hs, fun G0 H0 Z Γ σ G H D r R hf k => ?_⟩⟩
  obtain ⟨ds, e1, hf⟩ := obind hf
  cases hf
  have hl := ha.n Γ ds e1
  refine h2 G0 H0 Z Γ σ G H _ ds R e1 fun G1 H1 vs x1 r1 => ?_
  match ds, hl, r1, k with
  | [d1, d2, d3], _, .cons r (.cons q (.cons w .nil)), k => exact ⟨_, _, _, rfl, k _ G1 H1 ((((R.ext x1).set i r).set j q).set l w)⟩

/-! loops -/
def forL (g : Gs) (body : Sm) : List D → Sm
  | [], Γ => some (.nx Γ)
  | d :: ds, Γ => (g d Γ).bind fun Γ1 => (body Γ1).bind fun r => match r with
    | .nx Γ2 => forL g body ds Γ2
    | .ct Γ2 => forL g body ds Γ2
    | .bk Γ2 => some (.nx Γ2)
    | .rt d => some (.rt d)
    | .rm d s => some (.rm d s)
    | .ra n => some (.ra n)
    | .ro s => some (.ro s)
def sFor (it : Ag) (g : Gs) (body : Sm) : Sm := fun Γ => (it Γ).bind fun ds => forL g body ds Γ
def whileN : Nat → Te → Sm → Sm
  | 0, _, _, _ => none
  | n + 1, c, body, Γ => (c Γ).bind fun b => if b then (body Γ).bind fun r => match r with
      | .nx Γ2 => whileN n c body Γ2
      | .ct Γ2 => whileN n c body Γ2
      | .bk Γ2 => some (.nx Γ2)
      | .rt d => some (.rt d)
      | .rm d s => some (.rm d s)
      | .ra n => some (.ra n)
      | .ro s => some (.ro s)
    else some (.nx Γ)
open Classical in
noncomputable def sWhile (c : Te) (body : Sm) : Sm := fun Γ => if h : ∃ r n, whileN n c body Γ = some r then some h.choose else none
theorem whileN_mono {c : Te} {body : Sm} : ∀ {n m : Nat} {Γ : DEnv} {r : Res}, n ≤ m → whileN n c body Γ = some r → whileN m c body Γ = some r
  | 0, _, _, _, _, h => by cases h
  | n + 1, 0, _, _, h, _ => by omega
  | n + 1, m + 1, Γ, r, hm, h => by
    unfold whileN at h ⊢
    obtain ⟨b, e1, h⟩ := obind h
    rw [e1]
    cases b with
    | false => exact h
    | true =>
      replace h : ((body Γ).bind fun r => match r with
        | .nx Γ2 => whileN n c body Γ2
        | .ct Γ2 => whileN n c body Γ2
        | .bk Γ2 => some (.nx Γ2)
        | .rt d => some (.rt d)
        | .rm d s => some (.rm d s)
        | .ra n => some (.ra n)
        | .ro s => some (.ro s)) = some r := h
      obtain ⟨r1, e2, h⟩ := obind h
      show ((body Γ).bind fun r => match r with
        | .nx Γ2 => whileN m c body Γ2
        | .ct Γ2 => whileN m c body Γ2
        | .bk Γ2 => some (.nx Γ2)
        | .rt d => some (.rt d)
        | .rm d s => some (.rm d s)
        | .ra n => some (.ra n)
        | .ro s => some (.ro s)) = some r
      rw [e2]
      cases r1 with
      | nx Γ2 => exact whileN_mono (by omega) h
      | ct Γ2 => exact whileN_mono (by omega) h
      | bk Γ2 => exact h
      | rt d => exact h
      | rm d s => exact h
      | ro s => exact h
      | ra n => exact h
theorem sWhile_of {c : Te} {body : Sm} {Γ : DEnv} {r : Res} {n : Nat} (h : whileN n c body Γ = some r) : sWhile c body Γ = some r := by
  unfold sWhile
  have ex : ∃ r n, whileN n c body Γ = some r := ⟨r, n, h⟩
  rw [dif_pos ex]
  obtain ⟨m, hm⟩ := ex.choose_spec
  have h1 := whileN_mono (Nat.le_max_left n m) h
  have h2 := whileN_mono (Nat.le_max_right n m) hm
  rw [h1] at h2
  exact h2.symm
theorem sWhile_some {c : Te} {body : Sm} {Γ : DEnv} {r : Res} (h : sWhile c body Γ = some r) : ∃ n, whileN n c body Γ = some r := by
  unfold sWhile at h
  split at h
  · rename_i ex
    cases h
    exact ex.choose_spec
  · cases h
/-- what is known grows: the base moves on -/
theorem Rel.rebase {K : PySem.W.Frag} {mg : Str → Option Value} {G0 H0 : Hp} {Z : Zs} {Γ : DEnv} {σ : L2.St} {G H : Hp} (R : Rel K mg G0 H0 Z Γ σ G H) : Rel K mg G H0 Z Γ σ G H :=
  ⟨R.len, R.gh, R.hh, Same.refl _, fun a h => .inl h, R.zz, R.an, R.tb, R.tz, R.tc, R.hn, R.own⟩
theorem Rel.unbase {K : PySem.W.Frag} {mg : Str → Option Value} {G0 H0 : Hp} {Z : Zs} {Γ Γ' : DEnv} {σ σ' : L2.St} {G H G' H' : Hp} (R : Rel K mg G0 H0 Z Γ σ G H) (R' : Rel K mg G H0 Z Γ' σ' G' H') : Rel K mg G0 H0 Z Γ' σ' G' H' :=
  ⟨R'.len, R'.gh, R'.hh, R.gg.trans R'.gg, fun a h => by
    rcases R'.new a h with z | z
    · exact R.new a z
    · exact .inr z, R'.zz, R'.an, R'.tb, R'.tz, R'.tc, R'.hn, R'.own⟩
theorem Rel.unext {K : PySem.W.Frag} {mg : Str → Option Value} {G0 H0 : Hp} {Z : Zs} {Γ : DEnv} {σ : L2.St} {G H G' H' : Hp} (R : Rel K mg G0 H0 Z Γ σ G H) (x : Ext G H0 G' H') : Ext G0 H0 G' H' :=
  ⟨R.gg.trans x.gg, x.hh, x.gh, fun a h => by
    rcases x.new a h with z | z
    · exact R.new a z
    · exact .inr z, x.hn, fun t0 => x.tb (TC.ti.keep t0 R.gg (fun _ _ => rfl) (fun a h _ => (TC.ti.live R.tbc a h).2))⟩
theorem s_for {iter : Expr} {body : List Stmt} {it : Ag} (hp : PassesOwn (model X.prog X.w) X.A X.env X.xe) (hc : X.calm = true) (hi : IB X tg iter it) (hg : G X tg ix g) (hb : Ss X body F) (hs : ∀ x, foldedSetIterable iter X.env x = pure x := by intro _; rfl) :
    S X (.For tg iter body [] pos) (sFor it g F) := by
  obtain ⟨wi, w1, w2⟩ := hi.ex
  obtain ⟨t, t1, t2⟩ := hg.ex
  obtain ⟨u, u1, u2⟩ := hb.ex
  refine ⟨⟨_, ps_for hp hc w1 t1 u1 hs, fun G0 H0 Z Γ σ G H D r R hf k => ?_⟩⟩
  obtain ⟨ds, e1, hf⟩ := obind hf
  refine w2 G0 H0 Z Γ σ G H _ ds R e1 fun G1 H1 J x1 hJ => ?_
  have R1 := R.ext x1
  refine ⟨fun i m σ' H' => m = ds.length - i ∧ i ≤ ds.length ∧ ∃ Γ' G', Rel X.K X.mg G1 H0 Z Γ' σ' G' H' ∧ forL g F (ds.drop i) Γ' = some r, ⟨ds.length, by simp, Nat.zero_le _, Γ, G1, R1.rebase, by simpa using hf⟩, ?_⟩
  rintro i m σ' H' ⟨rfl, hi, Γ', G', R', hr⟩
  obtain ⟨st, go⟩ := hJ i G' H' R'.gg R'.gh R'.hh
  by_cases hlt : i < ds.length
  · have hd : ds.drop i = ds[i] :: ds.drop (i + 1) := List.drop_eq_getElem_cons hlt
    obtain ⟨g1, g2⟩ := go ds[i] (List.getElem?_eq_getElem hlt)
    rw [hd] at hr
    obtain ⟨Γ1, c1, hr⟩ := obind hr
    obtain ⟨r1, c2, hr⟩ := obind hr
    refine .inr ⟨g1, fun σ2 H2 => ∃ Γ2 G2, Rel X.K X.mg G1 H0 Z Γ2 σ2 G2 H2 ∧ forL g F (ds.drop (i + 1)) Γ2 = some r, fun σ2 H2 ⟨Γ2, G2, R2, h2⟩ => ⟨ds.length - (i + 1), by omega, rfl, hlt, Γ2, G2, R2, h2⟩, fun x H2 y => ?_⟩
    obtain ⟨G2, x2, r2⟩ := g2 x H2 y
    refine t2 G1 H0 Z Γ' σ' G2 H2 _ _ x Γ1 (R'.ext x2) r2 c1 fun σ3 R3 _ => ?_
    refine u2 G1 H0 Z Γ1 σ3 G2 H2 _ r1 R3 c2 ?_
    cases r1 with
    | nx Γ2 => exact fun σ4 G4 H4 R4 => ⟨Γ2, G4, R4, hr⟩
    | ct Γ2 => exact fun σ4 G4 H4 R4 => ⟨Γ2, G4, R4, hr⟩
    | bk Γ2 => cases hr; exact fun σ4 G4 H4 R4 => k σ4 G4 H4 (R1.unbase R4)
    | rt d => cases hr; exact fun G4 H4 v x4 r4 => k G4 H4 v (R1.unext x4) r4
    | rm d s => cases hr; exact fun Γ4 σ4 G4 H4 v R4 e4 r4 => k Γ4 σ4 G4 H4 v (R1.unbase R4) e4 r4
    | ra n => cases hr; exact fun cls d σ4 G4 H4 R4 e4 => k cls d σ4 G4 H4 (R1.unbase R4) e4
    | ro s => cases hr; exact fun G4 H4 v F4 x4 r4 f4 => k G4 H4 v F4 (R1.unext x4) r4 f4
  · have e : i = ds.length := by omega
    subst e
    refine .inl ⟨st (Nat.le_refl _), ?_⟩
    rw [List.drop_length] at hr
    cases hr
    exact k σ' G' H' (R1.unbase R')
theorem s_while {c : Expr} {body : List Stmt} (hp : PassesOwn (model X.prog X.w) X.A X.env X.xe) (hc : T X c p) (hb : Ss X body F) : S X (.While c body [] pos) (sWhile p F) := by
  obtain ⟨t, t1, t2⟩ := hc.ex
  obtain ⟨u, u1, u2⟩ := hb.ex
  refine ⟨⟨_, ps_while hp t1 u1, fun G0 H0 Z Γ σ G H D r R hf k => ?_⟩⟩
  obtain ⟨n, hn⟩ := sWhile_some hf
  refine ⟨fun m σ' H' => ∃ Γ' G', Rel X.K X.mg G0 H0 Z Γ' σ' G' H' ∧ whileN m p F Γ' = some r, ⟨n, Γ, G, R, hn⟩, fun m σ' H' ⟨Γ', G', R', h⟩ => ?_⟩
  cases m with
  | zero => cases h
  | succ m =>
    unfold whileN at h
    obtain ⟨b, e1, h⟩ := obind h
    refine t2 G0 H0 Z Γ' σ' G' H' _ b R' e1 fun G1 H1 x1 => ?_
    cases b with
    | false =>
      cases h
      exact iteF (k σ' G1 H1 (R'.ext x1))
    | true =>
      replace h : ((F Γ').bind fun r => match r with
        | .nx Γ2 => whileN m p F Γ2
        | .ct Γ2 => whileN m p F Γ2
        | .bk Γ2 => some (.nx Γ2)
        | .rt d => some (.rt d)
        | .rm d s => some (.rm d s)
        | .ra n => some (.ra n)
        | .ro s => some (.ro s)) = some r := h
      obtain ⟨r1, e2, h⟩ := obind h
      refine iteT ⟨fun σ2 H2 => ∃ Γ2 G2, Rel X.K X.mg G0 H0 Z Γ2 σ2 G2 H2 ∧ whileN m p F Γ2 = some r, fun σ2 H2 h => ⟨m, Nat.lt_succ_self _, h⟩, ?_⟩
      refine u2 G0 H0 Z Γ' σ' G1 H1 _ r1 (R'.ext x1) e2 ?_
      cases r1 with
      | nx Γ2 => exact fun σ4 G4 H4 R4 => ⟨Γ2, G4, R4, h⟩
      | ct Γ2 => exact fun σ4 G4 H4 R4 => ⟨Γ2, G4, R4, h⟩
      | bk Γ2 => cases h; exact fun σ4 G4 H4 R4 => k σ4 G4 H4 R4
      | rt d => cases h; exact fun G4 H4 v x4 r4 => k G4 H4 v x4 r4
      | rm d s => cases h; exact fun Γ4 σ4 G4 H4 v R4 e4 r4 => k Γ4 σ4 G4 H4 v R4 e4 r4
      | ra n => cases h; exact k
      | ro s => cases h; exact fun G4 H4 v F4 x4 r4 f4 => k G4 H4 v F4 x4 r4 f4
/-- y = [.. for .. in ..] -/
theorem s_setLc (i : Nat) {y : Str} {py : Pos} {elt iter : Expr} {ifs : List Expr} {scope : Scope} {own : List (Str × Nat)} {it : Ag} {spos : Pos} (hc : X.calm = true) (hN : X.N.Nodup) (hi : IC X tg iter it) (ok : BlkOk X.N X.env.scope scope own) (hix : ∀ i ∈ ix, i ∈ own.map (·.2))
    (hg : ∀ (s : Shared) (H : Hp) (C : Addr) (cl : List (Str × Addr)) (fp : List Addr), G (X.blk s H scope (compEnvC scope cl C X.env) fp) tg ix g)
    (ht : ∀ (s : Shared) (H : Hp) (C : Addr) (cl : List (Str × Addr)) (fp : List Addr), Ts (X.blk s H scope (compEnvC scope cl C X.env) fp) ifs p)
    (he : ∀ (s : Shared) (H : Hp) (C : Addr) (cl : List (Str × Addr)) (fp : List Addr), E (X.blk s H scope (compEnvC scope cl C X.env) fp) elt f)
    (hy : X.N[i]? = some y := by rfl) (hyl : X.env.scope.names.lookup y = some .local := by rfl) (hsw : swapsWith (.ListComp elt [⟨tg, iter, ifs, 0⟩] scope pos) (some (.Name y py)) spos.line X.env = pure true := by exact sw_true rfl rfl rfl (by decide +kernel)) (hs : ∀ x, foldedSetIterable iter X.env x = pure x := by intro _; rfl) (h0 : i ≠ 0 := by decide) :
    S X (.Assign [.Name y py] (.ListComp elt [⟨tg, iter, ifs, 0⟩] scope pos) spos) (sSetO i (gLc (own.map (·.2)) it g p f)) := by
  obtain ⟨wi, w1, w2⟩ := hi.ex
  refine ⟨⟨_, ps_setLc (te := fun σ H Q => ∃ G0 H0 Z Γ G d, Rel X.K X.mg G0 H0 Z Γ σ G H ∧ f Γ = some d ∧ ∀ G' H' v, Ext G H G' H' → Rep X.K X.mg G' v d → Q v H') (tt := fun σ H Q => ∃ G0 H0 Z Γ G d, Rel X.K X.mg G0 H0 Z Γ σ G H ∧ p Γ = some d ∧ ∀ G' H', Ext G H G' H' → Q d H') (g := fun v σ H Q => ∃ G0 H0 Z Γ G d Γ', Rel X.K X.mg G0 H0 Z Γ σ G H ∧ Rep X.K X.mg G v d ∧ g d Γ = some Γ' ∧ ∀ σ', Rel X.K X.mg G0 H0 Z Γ' σ' G H → (∀ vs, (∀ i ∈ ix, i ∈ vs) → L2.wipe σ' vs = L2.wipe σ vs) → Q σ' H) hc hN hy hyl hsw w1 ok (fun s H C cl fp => (hg s H C cl fp).pg) (fun s H C cl fp => (ht s H C cl fp).pt) (fun s H C cl fp => (he s H C cl fp).pe) hs, fun G0 H0 Z Γ σ G H D r R hf k => ?_⟩⟩
  obtain ⟨d, e1, hf⟩ := obind hf
  cases hf
  exact lc_run hix w2 R e1 fun G1 H1 q vs x1 hq gq h r1 => k _ G1 H1 (set_own R x1 hq gq h r1 i h0)
/-- x[k] = e of a list of one's own -/
theorem s_ixS {i : Nat} {rp : Pth} {sp : Pos} (hp : PL X o i rp) (he : E X e f) (hk : E X a k)
    (hpg : ∀ {to ti : TE}, PE X o to → PE X a ti → PG X (.Subscript o a sp) (gSub to ti rSetL) := by intro to ti ho h; exact pg_sub ho h set_list)
    (hs : swapsWithSole [.Subscript o a sp] e pos.line X.env = pure false := by rfl) (hw : swappedStores [.Subscript o a sp] e X.env = pure none := by rfl)
    (h1 : (assignEach [.Subscript o a sp] X.env).map (·.2) = [assign (.Subscript o a sp) X.env] := by rfl) : S X (.Assign [.Subscript o a sp] e pos) (sIxS i rp k f) := by
  obtain ⟨t, t1, t2⟩ := he.ex
  obtain ⟨u, u1, u2⟩ := hk.ex
  obtain ⟨w, w1, w2⟩ := hp.ex
  refine ⟨⟨_, ps_asg t1 (hpg w1 u1) hs hw h1, fun G0 H0 Z Γ σ G H D r R hf kk => ?_⟩⟩
  obtain ⟨d, e1, hf⟩ := obind hf
  obtain ⟨j, e2, hf⟩ := obind hf
  refine t2 G0 H0 Z Γ σ G H _ d R e1 fun G1 H1 v x1 r1 => ?_
  have R1 := R.ext x1
  cases q : gP i rp Γ with
  | none => rw [q] at hf; cases hf
  | some s1 =>
    rw [q] at hf
    cases s1 with
    | ow xs =>
      cases j with
      | int m =>
        replace hf : ((ixN xs.length m).bind fun m => upP i rp (.ow (xs.set m d)) Γ) = some r := hf
        obtain ⟨j, e3, hf⟩ := obind hf
        obtain ⟨s, s2, a1, a2, rfl⟩ := upP_some hf
        obtain ⟨s', b1, b2, b3⟩ := gP_some q (by simp [SlP])
        rw [a1] at b1
        cases b1
        refine w2 G0 H0 Z Γ σ G1 H1 G1 H1 _ s _ R1 (Ext.refl x1.gh) a1 b2 b3 (by simp) fun v0 pk => ?_
        refine u2 G0 H0 Z Γ σ G1 H1 _ _ R1 e2 fun G2 H2 w x2 r2 => ?_
        obtain ⟨F1, p1⟩ := pk G2 H2 x2
        obtain ⟨l, vs, rfl, d1, d2, d3⟩ := p1.list x2.gh
        rw [r2.intv]
        refine ⟨l, vs, m, j, rfl, rfl, d1, by rw [d2.length]; exact e3, ?_⟩
        exact kk σ G2 _ (d3 _ _ _ (d2.set j (r1.mono x2.gg)) a2)
      | _ => cases hf
    | _ => cases hf
end

/-! ### a def by its body -/
def runB (n : Nat) (F : Sm) : List D → Option D := fun ds => (F (ds.map Sl.sh ++ List.replicate (n - ds.length) .no)).bind fun r => match r with
  | .rt d => some d
  | .nx _ => some .non
  | _ => none
theorem start_get {N : Nat} {ds : List D} {i : Nat} {s : Sl} (h : (ds.map Sl.sh ++ List.replicate (N - ds.length) .no)[i]? = some s) : s = .no ∨ ∃ d, ds[i]? = some d ∧ s = .sh d := by
  by_cases hi : i < ds.length
  · rw [List.getElem?_append_left (by simpa using hi), List.getElem?_map, List.getElem?_eq_getElem hi] at h
    cases h
    exact .inr ⟨_, List.getElem?_eq_getElem hi, rfl⟩
  · rw [List.getElem?_append_right (by simpa using hi), List.getElem?_replicate] at h
    split at h
    · cases h; exact .inl rfl
    · cases h
theorem start_rel {K : PySem.W.Frag} {mg : Str → Option Value} {G H : Hp} {N : List Str} {vs : List V} {ds : List D} (gh : Same G H) (tb : TC.ti.t G H) (r : RepL K mg G vs ds) : Rel K mg G H ⟨TC.ti.tz, none, TC.ti⟩ (ds.map Sl.sh ++ List.replicate (N.length - ds.length) .no) (L2.start N vs) G H := by
  have hl := r.length
  unfold L2.start
  refine ⟨by simp [hl], gh, same_n (Same.refl _), Same.refl _, fun a h => .inl h, fun a z => (TC.ti.live tb a z).1, fun _ _ z => (by cases z), tb, fun _ h => h, rfl, fun _ h => h, fun _ _ => False, fun _ _ z => z.elim, fun _ _ _ z => z.elim, fun i s h => ?_⟩
  rcases start_get h with z | ⟨d, e1, rfl⟩
  · exact .inl z
  · obtain ⟨v, e2, e3⟩ := r.get i e1
    refine .inr (.inl ⟨v, ?_, .sh e3⟩)
    have hi : i < vs.length := (List.getElem?_eq_some_iff.mp e2).1
    rw [List.getElem?_append_left (by simpa using hi), List.getElem?_map, e2]
    rfl
section
variable {P : Program} {w : World} {K : PySem.W.Frag} {mg : Str → Option Value} {base : Heap}
theorem def_ok {x qual : Str} {st : Stmt} {f : Addr} {fd : FuncData} {N ps : List Str} {k : Nat} {B : Sm} (F : Fun K x qual st f fd) (S : FnScope N ps (defScope st))
    (hbody : ∀ (cdv : Value) (A : Around) (outer : List PySem.Env) (s : Shared) (H : Hp) (E : XK), Room k (A.deeper (PyProof.Rows.envOfC qual (defScope st) s.heap.objs.size f cdv)) →
      Ss (cxOf CX0 P w K mg base N qual (defScope st) f cdv A outer s H E).nox (defBody st) B) : FnOk P w K mg base CX0 (k + 1) f fd ps (spD K mg ps.length (runB N.length B)) := by
  refine F.ok S (fun vs H Q E h => ?_) (fun cdv A outer s H vs Q E hr h => ?_)
  · obtain ⟨G, ds, d, hl, _⟩ := h
    exact hl
  · obtain ⟨G, ds, d, hl, gh, tb, r, hf, k'⟩ := h
    obtain ⟨t, h1, h2⟩ := (hbody cdv A outer s H E hr).ex
    refine ⟨t, h1, ?_⟩
    obtain ⟨r1, e1, hf⟩ := obind hf
    refine h2 G H _ _ _ G H _ r1 (start_rel gh tb r) e1 ?_
    cases r1 with
    | rt d' => cases hf; exact fun G' H' v x r => k' G' H' v x r
    | nx Γ => cases hf; exact fun σ' G' H' R => k' G' H' _ R.end .non
    | rm d s => cases hf
    | ro s => cases hf
    | bk Γ => cases hf
    | ct Γ => cases hf
    | ra n => cases hf
/-- the value said in another way -/
theorem spD_imp {n : Nat} {F F' : List D → Option D} {f : Addr} {fd : FuncData} {ps : List Str} {k : Nat} (h : FnOk P w K mg base CX0 k f fd ps (spD K mg n F)) (hF : ∀ ds d, F' ds = some d → F ds = some d) : FnOk P w K mg base CX0 k f fd ps (spD K mg n F') :=
  h.imp fun vs H Q E ⟨G, ds, d, h1, h2, h3, h3', h4, h5⟩ => ⟨G, ds, d, h1, h2, h3, h3', hF ds d h4, h5⟩
end
end DL

namespace DL
open PySem L2
variable [TC : TabCtx]

/-! ### words for callers -/
structure Cal (P : Program) (w : World) (K : PySem.W.Frag) (mg : Str → Option Value) (base : Heap) (x : Str) (L : Nat) (ps : List Str) (S : List D → Option D) : Prop where
  ex : ∃ f fd, FnOk P w K mg base CX0 L f fd ps (spD K mg ps.length S) ∧ mg x = some (.ref f) ∧ PySem.W.keepIn K (.ref f) = true ∧ Binds K fd ps []
structure Met (P : Program) (w : World) (K : PySem.W.Frag) (mg : Str → Option Value) (base : Heap) (c : Nat) (m : Str) (L : Nat) (ps : List Str) (S : List D → Option D) : Prop where
  ex : ∃ C f fd, CK K mg c C ∧ Meth K C m f ∧ FnOk P w K mg base CX0 L f fd ps (spD K mg ps.length S) ∧ Binds K fd ps []
section
variable {X : Cx} {e a b o : Expr} {es : List Expr} {f g : Ex} {fs : Ag} {pos : Pos} {n : Nat}
theorem e_callC {k L : Nat} {ps : List Str} {S : List D → Option D} {x : Str} {p : Pos} (c : Cal X.prog X.w X.K X.mg X.base x L ps S) (hr : Room k X.A) (hk : L ≤ k)
    (ha : AN X (a :: es) ps.length fs) (hg : Gl X x := by rfl) (hdb : (x == ("__debug__" : Str)) = false := by decide) (he : starEach (a :: es) X.env = (false, eval a X.env) :: starEach es X.env := by rfl) (hpl : (backTo pos (starEach es X.env)).any (·.1) = false := by rfl) :
    E X (.Call (.Name x p) (a :: es) [] pos) (gCall S fs) := by
  obtain ⟨f, fd, h1, h2, h3, h4⟩ := c.ex
  exact e_call h1 (hr.mono hk) h2 h3 h4 ha hg hdb he hpl
theorem e_callC0 {k L : Nat} {S : List D → Option D} {x : Str} {p : Pos} (c : Cal X.prog X.w X.K X.mg X.base x L [] S) (hr : Room k X.A) (hk : L ≤ k)
    (hg : Gl X x := by rfl) (hdb : (x == ("__debug__" : Str)) = false := by decide) : E X (.Call (.Name x p) [] [] pos) (gCall S aN) := by
  obtain ⟨f, fd, h1, h2, h3, h4⟩ := c.ex
  exact e_call0 h1 (hr.mono hk) h2 h3 h4 hg hdb
theorem e_metC {pl : Sem Bool} {c k L : Nat} {p0 : Str} {ps : List Str} {S : List D → Option D} {m : Str} {apos : Pos} (mt : Met X.prog X.w X.K X.mg X.base c m L (p0 :: ps) S) (hr : Room k X.A) (hk : L ≤ k)
    (ho : E X o f) (ha : AN X (a :: es) ps.length fs) (hno : m ∉ cF c := by decide +kernel)
    (hst : starEach (a :: es) X.env = (false, eval a X.env) :: starEach es X.env := by rfl) (hpl : (backTo pos (starEach es X.env)).any (·.1) = false := by rfl)
    (ht : eval (.Call (.Attribute o m apos) (a :: es) [] pos) X.env = (do
      let ov ← eval o X.env
      standAt apos.atName
      let (f, first) ← holding [ov] (getMethod ov m pl)
      callWith pos f first (backTo pos (starEach (a :: es) X.env)) (backToKw pos (keywordEach [] X.env))) := by rfl) : E X (.Call (.Attribute o m apos) (a :: es) [] pos) (gMeth c S f fs) := by
  obtain ⟨C, fa, fd, h1, h2, h3, h4⟩ := mt.ex
  exact e_meth h1 h2 h3 (hr.mono hk) h4 ho ha hno hst hpl ht
theorem e_metC0 {pl : Sem Bool} {c k L : Nat} {p0 : Str} {S : List D → Option D} {m : Str} {apos : Pos} (mt : Met X.prog X.w X.K X.mg X.base c m L [p0] S) (hr : Room k X.A) (hk : L ≤ k)
    (ho : E X o f) (hno : m ∉ cF c := by decide +kernel)
    (ht : eval (.Call (.Attribute o m apos) [] [] pos) X.env = (do
      let ov ← eval o X.env
      standAt apos.atName
      let (f, first) ← holding [ov] (getMethod ov m pl)
      callWith pos f first (backTo pos (starEach [] X.env)) (backToKw pos (keywordEach [] X.env))) := by rfl) : E X (.Call (.Attribute o m apos) [] [] pos) (gMeth c S f aN) := by
  obtain ⟨C, fa, fd, h1, h2, h3, h4⟩ := mt.ex
  exact e_meth0 h1 h2 h3 (hr.mono hk) h4 ho hno ht
/-- y = [..], known to all -/
theorem s_setLcS (i : Nat) {y : Str} {py : Pos} {elt iter tg : Expr} {ifs : List Expr} {scope : Scope} {own : List (Str × Nat)} {it : Ag} {spos : Pos} {ix : List Nat} {g : Gs} {p : Te} (hc : X.calm = true) (hN : X.N.Nodup) (hi : IC X tg iter it) (ok : BlkOk X.N X.env.scope scope own) (hix : ∀ i ∈ ix, i ∈ own.map (·.2))
    (hg : ∀ (s : Shared) (H : Hp) (C : Addr) (cl : List (Str × Addr)) (fp : List Addr), G (X.blk s H scope (compEnvC scope cl C X.env) fp) tg ix g)
    (ht : ∀ (s : Shared) (H : Hp) (C : Addr) (cl : List (Str × Addr)) (fp : List Addr), Ts (X.blk s H scope (compEnvC scope cl C X.env) fp) ifs p)
    (he : ∀ (s : Shared) (H : Hp) (C : Addr) (cl : List (Str × Addr)) (fp : List Addr), E (X.blk s H scope (compEnvC scope cl C X.env) fp) elt f)
    (hy : X.N[i]? = some y := by rfl) (hyl : X.env.scope.names.lookup y = some .local := by rfl) (hsw : swapsWith (.ListComp elt [⟨tg, iter, ifs, 0⟩] scope pos) (some (.Name y py)) spos.line X.env = pure true := by exact sw_true rfl rfl rfl (by decide +kernel)) (hs : ∀ x, foldedSetIterable iter X.env x = pure x := by intro _; rfl) (h0 : i ≠ 0 := by decide) :
    S X (.Assign [.Name y py] (.ListComp elt [⟨tg, iter, ifs, 0⟩] scope pos) spos) (sSet i (gL (gLc (own.map (·.2)) it g p f))) := by
  obtain ⟨t, h1, h2⟩ := (s_setLc (f := f) (py := py) (spos := spos) (pos := pos) i hc hN hi ok hix hg ht he hy hyl hsw hs h0).ex
  refine ⟨⟨t, h1, fun G0 H0 Z Γ σ G H D r R hf k => ?_⟩⟩
  obtain ⟨d, e1, hf⟩ := obind hf
  obtain ⟨ds, e2, e1⟩ := obind e1
  cases e1
  cases hf
  refine h2 G0 H0 Z Γ σ G H D (.nx (Γ.set i (.ow ds))) R (by show (gLc _ _ _ _ _ Γ).bind _ = _; rw [e2]; rfl) fun σ1 G1 H1 R1 => ?_
  by_cases hi : i < Γ.length
  · have q : (Γ.set i (.ow ds))[i]? = some (.ow ds) := by simp [hi]
    obtain ⟨G2, R2, _⟩ := R1.frzP (rp := []) (d := .lst ds) q rfl (by simp) (by simp [SlP]) rfl rfl
    rw [List.set_set] at R2
    exact k σ1 G2 H1 R2
  · have e : ∀ s, Γ.set i s = Γ := fun s => List.set_eq_of_length_le (by omega)
    rw [e] at R1
    refine k σ1 G1 H1 ?_
    rw [e]
    exact R1
theorem v_notT (h : B X e f) : V1 X (.UnaryOp .Not e pos) (gNot (gTru f)) := by
  obtain ⟨t, h1, h2⟩ := h.ex
  refine ⟨⟨⟨_, pe_notT h1, fun G0 H0 Z Γ σ G H Q c R hf k => ?_⟩⟩⟩
  obtain ⟨d0, e0, hf⟩ := obind hf
  cases hf
  obtain ⟨d1, e1, hf⟩ := obind e0
  cases hf
  obtain ⟨d2, e2, hf⟩ := obind e1
  refine h2 G0 H0 Z Γ σ G H _ _ R e2 fun G' H' v x r => ?_
  have z := dTru_ok x.gh hf r
  exact ⟨d1, z, k G' H' _ x (.bl _)⟩
end
theorem boot_len' : bootBuiltins "len" = some (.builtin "len") := PySem.boot_len
theorem boot_abs' : bootBuiltins "abs" = some (.builtin "abs") := by decide +kernel
theorem boot_max' : bootBuiltins "max" = some (.builtin "max") := by decide +kernel
theorem boot_min' : bootBuiltins "min" = some (.builtin "min") := by decide +kernel
theorem boot_sum' : bootBuiltins "sum" = some (.builtin "sum") := by decide +kernel
theorem boot_all' : bootBuiltins "all" = some (.builtin "all") := by decide +kernel
theorem boot_any' : bootBuiltins "any" = some (.builtin "any") := by decide +kernel
theorem boot_sorted' : bootBuiltins "sorted" = some (.builtin "sorted") := by decide +kernel
theorem boot_isinstance' : bootBuiltins "isinstance" = some (.builtin "isinstance") := by decide +kernel
theorem boot_int' : bootBuiltins "int" = some (.type "int") := by decide +kernel
theorem boot_list' : bootBuiltins "list" = some (.type "list") := by decide +kernel
theorem boot_bool' : bootBuiltins "bool" = some (.type "bool") := by decide +kernel
theorem boot_tuple' : bootBuiltins "tuple" = some (.type "tuple") := by decide +kernel
theorem boot_str' : bootBuiltins "str" = some (.type "str") := by decide +kernel
end DL

namespace DL
open PySem L2
variable [TC : TabCtx]

/-! ### reckoning a meaning step by step -/
section
variable {Γ Γ1 Γ2 : DEnv} {f g k : Ex} {fs : Ag} {p q : Te} {F F' F'' : Sm} {d x y z : D} {ds : List D} {b c : Bool} {r : Option Res} {o : D → D → Option D} {u : D → Option D} {i n : Nat} {m j : Int}
theorem ev_V (h : Γ[i]? = some (.sh d)) : gV i Γ = some d := by unfold gV; rw [h]
theorem ev_B (h : Γ[i]? = some (.sh d)) : gB i Γ = some d := by unfold gB; rw [h]
theorem ev_Bo {xs : List D} (h : Γ[i]? = some (.ow xs)) : gB i Γ = some (.lst xs) := by unfold gB; rw [h]
theorem ev_I : gI m Γ = some (.int m) := rfl
theorem ev_C : gC d Γ = some d := rfl
theorem ev_op (h1 : f Γ = some x) (h2 : g Γ = some y) (h3 : o x y = some d) : gOp o f g Γ = some d := by unfold gOp; rw [h1]; show (g Γ).bind _ = _; rw [h2]; exact h3
theorem ev_U (h1 : f Γ = some x) (h2 : u x = some d) : gU u f Γ = some d := by unfold gU; rw [h1]; exact h2
theorem ev_call {S : List D → Option D} (h1 : fs Γ = some ds) (h2 : S ds = some d) : gCall S fs Γ = some d := by unfold gCall; rw [h1]; exact h2
theorem ev_A {S : List D → Option D} (h1 : fs Γ = some ds) (h2 : S ds = some d) : gA S fs Γ = some d := by unfold gA; rw [h1]; exact h2
theorem ev_cs (h1 : f Γ = some d) (h2 : fs Γ = some ds) : aC f fs Γ = some (d :: ds) := by unfold aC; rw [h1]; show (fs Γ).bind _ = _; rw [h2]; rfl
theorem ev_nl : aN Γ = some [] := rfl
theorem ev_tu (h : fs Γ = some ds) : gTu n fs Γ = some (.tup ds) := by unfold gTu; rw [h]; rfl
theorem ev_L (h : fs Γ = some ds) : gL fs Γ = some (.lst ds) := by unfold gL; rw [h]; rfl
theorem ev_UL {u : D → Option (List D)} (h1 : f Γ = some x) (h2 : u x = some ds) : gUL u f Γ = some ds := by unfold gUL; rw [h1]; exact h2
theorem ev_Sl {fl fh : Op} {l h : Option Int} (h1 : f Γ = some x) (h2 : fl Γ = some l) (h3 : fh Γ = some h) (h4 : dCut x l h = some ds) : gSl f fl fh Γ = some ds := by unfold gSl; rw [h1]; show (fl Γ).bind _ = _; rw [h2]; show (fh Γ).bind _ = _; rw [h3]; exact h4
theorem ev_No : gNo Γ = some none := rfl
theorem ev_So (h : f Γ = some (.int m)) : gSo f Γ = some (some m) := by unfold gSo; rw [h]; rfl
theorem ev_meth {c : Nat} {S : List D → Option D} {vs : List D} (h1 : f Γ = some (.obj c vs)) (h2 : fs Γ = some ds) (h3 : S (.obj c vs :: ds) = some d) : gMeth c S f fs Γ = some d := by
  unfold gMeth; rw [h1]; show (if c = c then (fs Γ).bind fun ds => S (.obj c vs :: ds) else none) = _
  rw [if_pos rfl, h2]; exact h3
theorem ev_T (h : f Γ = some (.bl b)) : gT f Γ = some b := by unfold gT; rw [h]; rfl
theorem ev_Tru (h1 : f Γ = some x) (h2 : dTru x = some b) : gTru f Γ = some b := by unfold gTru; rw [h1]; exact h2
theorem ev_not (h : p Γ = some b) : gNot p Γ = some (!b) := by unfold gNot; rw [h]; rfl
theorem ev_and (h1 : p Γ = some b) (h2 : q Γ = some c) : gAnd p q Γ = some (b && c) := by unfold gAnd; rw [h1]; cases b <;> first | exact h2 | rfl
/-- the right one is asked only if the left one is true -/
theorem ev_andT (h1 : p Γ = some b) (h2 : b = true → q Γ = some c) : gAnd p q Γ = some (b && c) := by unfold gAnd; rw [h1]; cases b <;> first | exact h2 rfl | rfl
theorem ev_andF (h1 : p Γ = some false) : gAnd p q Γ = some false := by unfold gAnd; rw [h1]; rfl
theorem ev_or (h1 : p Γ = some b) (h2 : q Γ = some c) : gOr p q Γ = some (b || c) := by unfold gOr; rw [h1]; cases b <;> first | exact h2 | rfl
theorem ev_orF (h1 : p Γ = some b) (h2 : b = false → q Γ = some c) : gOr p q Γ = some (b || c) := by unfold gOr; rw [h1]; cases b <;> first | exact h2 rfl | rfl
theorem ev_orT (h1 : p Γ = some true) : gOr p q Γ = some true := by unfold gOr; rw [h1]; rfl
theorem ev_bl (h : p Γ = some b) : gBl p Γ = some (.bl b) := by unfold gBl; rw [h]; rfl
theorem ev_if (h1 : p Γ = some b) (h2 : b = true → f Γ = some d) (h3 : b = false → g Γ = some d) : gIf p f g Γ = some d := by unfold gIf; rw [h1]; cases b <;> first | exact h2 rfl | exact h3 rfl
theorem ev_ch {ch : D → Te} (h1 : f Γ = some x) (h2 : ch x Γ = some b) : gCh f ch Γ = some b := by unfold gCh; rw [h1]; exact h2
theorem ev_ch1 (h1 : f Γ = some y) (h2 : o x y = some (.bl b)) : gCh1 o f x Γ = some b := by unfold gCh1; rw [h1]; show dB (o x y) = _; rw [h2]; rfl
theorem ev_chn {ch : D → Te} (h1 : f Γ = some y) (h2 : o x y = some (.bl b)) (h3 : ch y Γ = some c) : gChn o f ch x Γ = some (b && c) := by
  unfold gChn; rw [h1]; show (dB (o x y)).bind _ = _; rw [h2]; show (if b = true then ch y Γ else some false) = _
  cases b <;> first | exact h3 | rfl
theorem ev_chnT {ch : D → Te} (h1 : f Γ = some y) (h2 : o x y = some (.bl b)) (h3 : b = true → ch y Γ = some c) : gChn o f ch x Γ = some (b && c) := by
  unfold gChn; rw [h1]; show (dB (o x y)).bind _ = _; rw [h2]; show (if b = true then ch y Γ else some false) = _
  cases b <;> first | exact h3 rfl | rfl
/-! statements -/
theorem sv_run {N : Nat} {B : Sm} (h : B (ds.map Sl.sh ++ List.replicate (N - ds.length) .no) = some (.rt d)) : runB N B ds = some d := by unfold runB; rw [h]; rfl
theorem sv_runN {N : Nat} {B : Sm} (h : B (ds.map Sl.sh ++ List.replicate (N - ds.length) .no) = some (.nx Γ)) : runB N B ds = some .non := by unfold runB; rw [h]; rfl
theorem sv_nx (h : F Γ = some (.nx Γ1)) (k : F' Γ1 = r) : sSeq F F' Γ = r := by unfold sSeq; rw [h]; exact k
theorem sv_rt (h : F Γ = some (.rt d)) : sSeq F F' Γ = some (.rt d) := by unfold sSeq; rw [h]; rfl
theorem sv_bk (h : F Γ = some (.bk Γ1)) : sSeq F F' Γ = some (.bk Γ1) := by unfold sSeq; rw [h]; rfl
theorem sv_ct (h : F Γ = some (.ct Γ1)) : sSeq F F' Γ = some (.ct Γ1) := by unfold sSeq; rw [h]; rfl
theorem sv_set (h : f Γ = some d) : sSet i f Γ = some (.nx (Γ.set i (.sh d))) := by unfold sSet; rw [h]; rfl
theorem sv_setO (h : fs Γ = some ds) : sSetO i fs Γ = some (.nx (Γ.set i (.ow ds))) := by unfold sSetO; rw [h]; rfl
theorem sv_exp (h : f Γ = some d) : sExp f Γ = some (.nx Γ) := by unfold sExp; rw [h]; rfl
theorem sv_ret (h : f Γ = some d) : sRet f Γ = some (.rt d) := by unfold sRet; rw [h]; rfl
theorem sv_unp {gs : Gs} (h : f Γ = some d) (h2 : gs d Γ = some Γ1) : sUnp gs f Γ = some (.nx Γ1) := by unfold sUnp; rw [h]; show (gs d Γ).bind _ = _; rw [h2]; rfl
theorem sv_par {is : List Nat} (h : fs Γ = some ds) : sPar is fs Γ = some (.nx ((is.zip ds).foldl (fun Γ p => Γ.set p.1 (.sh p.2)) Γ)) := by unfold sPar; rw [h]; rfl
theorem sv_if (h : p Γ = some b) (h1 : b = true → F Γ = r) (h2 : b = false → F' Γ = r) : sIf p F F' Γ = r := by unfold sIf; rw [h]; cases b <;> first | exact h1 rfl | exact h2 rfl
theorem sv_ifT (h : p Γ = some true) (h1 : F Γ = r) : sIf p F F' Γ = r := sv_if h (fun _ => h1) (fun e => nomatch e)
theorem sv_ifF (h : p Γ = some false) (h1 : F' Γ = r) : sIf p F F' Γ = r := sv_if h (fun e => nomatch e) (fun _ => h1)
/-- an if in a row of statements: both ways go on by themselves -/
theorem sv_ifS (h : p Γ = some b) (h1 : b = true → sSeq F F'' Γ = r) (h2 : b = false → sSeq F' F'' Γ = r) : sSeq (sIf p F F') F'' Γ = r := by
  unfold sSeq sIf; rw [h]
  cases b
  · exact h2 rfl
  · exact h1 rfl
theorem sv_nil : sNil Γ = some (.nx Γ) := rfl
theorem sv_nilS : sSeq sNil F Γ = F Γ := rfl
theorem sv_seqA : sSeq (sSeq F F') F'' Γ = sSeq F (sSeq F' F'') Γ := by
  unfold sSeq
  cases F Γ with
  | none => rfl
  | some r => cases r <;> rfl
theorem sv_app {rp : Pth} {xs : List D} {s s2 : Sl} (h : f Γ = some d) (h0 : Γ[i]? = some s) (h1 : getR rp s = some (.ow xs)) (h2 : xs.length < 1000000) (h3 : setR rp (.ow (xs ++ [d])) s = some s2) : sApp i rp f Γ = some (.nx (Γ.set i s2)) := by
  unfold sApp; rw [h]
  show (match gP i rp Γ with | some (.ow xs) => if xs.length < 1000000 then upP i rp (.ow (xs ++ [d])) Γ else none | _ => none) = _
  have e : gP i rp Γ = some (.ow xs) := by unfold gP; rw [h0]; exact h1
  rw [e]; show (if xs.length < 1000000 then upP i rp (.ow (xs ++ [d])) Γ else none) = _
  rw [if_pos h2]; unfold upP; rw [h0]; show (setR rp (.ow (xs ++ [d])) s).bind _ = _; rw [h3]; rfl
theorem sv_app0 {xs : List D} (h : f Γ = some d) (h1 : Γ[i]? = some (.ow xs)) (h2 : xs.length < 1000000) : sApp i [] f Γ = some (.nx (Γ.set i (.ow (xs ++ [d])))) := sv_app h h1 rfl h2 rfl
theorem sv_aug (h1 : Γ[i]? = some (.sh x)) (h2 : f Γ = some y) (h3 : o x y = some d) : sAug o i f Γ = some (.nx (Γ.set i (.sh d))) := by
  unfold sAug; rw [ev_V h1]; show (f Γ).bind _ = _; rw [h2]; show (o x y).bind _ = _; rw [h3]; rfl
theorem sv_frz (h : F (frzE i Γ) = r) : sFrz i F Γ = r := h
theorem sv_for {it : Ag} {gs : Gs} (h : it Γ = some ds) (h2 : forL gs F ds Γ = r) : sFor it gs F Γ = r := by unfold sFor; rw [h]; exact h2
/-! .. in a row -/
theorem sq_set (h : f Γ = some d) (k : F' (Γ.set i (.sh d)) = r) : sSeq (sSet i f) F' Γ = r := sv_nx (sv_set h) k
theorem sq_setO (h : fs Γ = some ds) (k : F' (Γ.set i (.ow ds)) = r) : sSeq (sSetO i fs) F' Γ = r := sv_nx (sv_setO h) k
theorem sq_exp (h : f Γ = some d) (k : F' Γ = r) : sSeq (sExp f) F' Γ = r := sv_nx (sv_exp h) k
theorem sq_unp {gs : Gs} (h : f Γ = some d) (h2 : gs d Γ = some Γ1) (k : F' Γ1 = r) : sSeq (sUnp gs f) F' Γ = r := sv_nx (sv_unp h h2) k
theorem sq_par {is : List Nat} (h : fs Γ = some ds) (k : F' ((is.zip ds).foldl (fun Γ p => Γ.set p.1 (.sh p.2)) Γ) = r) : sSeq (sPar is fs) F' Γ = r := sv_nx (sv_par h) k
theorem sq_app {xs : List D} (h : f Γ = some d) (h1 : Γ[i]? = some (.ow xs)) (h2 : xs.length < 1000000) (k : F' (Γ.set i (.ow (xs ++ [d]))) = r) : sSeq (sApp i [] f) F' Γ = r := sv_nx (sv_app0 h h1 h2) k
theorem sq_aug (h1 : Γ[i]? = some (.sh x)) (h2 : f Γ = some y) (h3 : o x y = some d) (k : F' (Γ.set i (.sh d)) = r) : sSeq (sAug o i f) F' Γ = r := sv_nx (sv_aug h1 h2 h3) k
theorem sq_frz (h : sSeq F F' (frzE i Γ) = r) : sSeq (sFrz i F) F' Γ = r := h
theorem sq_nil (h : F Γ = r) : sSeq sNil F Γ = r := h
theorem sq_ret (h : f Γ = some d) : sSeq (sRet f) F Γ = some (.rt d) := sv_rt (sv_ret h)
/-- an if that sets one name on each way -/
theorem sq_ifV {P : D → Prop} (h : p Γ = some b) (h1 : b = true → ∃ d, P d ∧ F Γ = some (.nx (Γ.set i (.sh d)))) (h2 : b = false → ∃ d, P d ∧ F' Γ = some (.nx (Γ.set i (.sh d)))) (k : ∀ d, P d → F'' (Γ.set i (.sh d)) = r) : sSeq (sIf p F F') F'' Γ = r := by
  cases b with
  | true => obtain ⟨d, hd, e⟩ := h1 rfl; exact sv_nx (sv_ifT h e) (k d hd)
  | false => obtain ⟨d, hd, e⟩ := h2 rfl; exact sv_nx (sv_ifF h e) (k d hd)
theorem sq_ifX {Q : DEnv → Prop} (h : p Γ = some b) (h1 : b = true → ∃ Γ', Q Γ' ∧ F Γ = some (.nx Γ')) (h2 : b = false → ∃ Γ', Q Γ' ∧ F' Γ = some (.nx Γ')) (k : ∀ Γ', Q Γ' → F'' Γ' = r) : sSeq (sIf p F F') F'' Γ = r := by
  cases b with
  | true => obtain ⟨d, hd, e⟩ := h1 rfl; exact sv_nx (sv_ifT h e) (k d hd)
  | false => obtain ⟨d, hd, e⟩ := h2 rfl; exact sv_nx (sv_ifF h e) (k d hd)
/-- a test that is false, nothing is done -/
theorem sq_ifN (h : p Γ = some b) (hb : b = false) (k : F'' Γ = r) : sSeq (sIf p F sNil) F'' Γ = r := sv_nx (sv_ifF (by rw [h, hb]) rfl) k
theorem sv_ifN (h : p Γ = some b) (hb : b = false) : sIf p F sNil Γ = some (.nx Γ) := sv_ifF (by rw [h, hb]) rfl
/-! loops -/
theorem forL_nil {gs : Gs} : forL gs F [] Γ = some (.nx Γ) := rfl
theorem forL_nx {gs : Gs} (h : gs d Γ = some Γ1) (h2 : F Γ1 = some (.nx Γ2)) (k : forL gs F ds Γ2 = r) : forL gs F (d :: ds) Γ = r := by
  show (gs d Γ).bind _ = _; rw [h]; show (F Γ1).bind _ = _; rw [h2]; exact k
theorem forL_ct {gs : Gs} (h : gs d Γ = some Γ1) (h2 : F Γ1 = some (.ct Γ2)) (k : forL gs F ds Γ2 = r) : forL gs F (d :: ds) Γ = r := by
  show (gs d Γ).bind _ = _; rw [h]; show (F Γ1).bind _ = _; rw [h2]; exact k
theorem forL_rt {gs : Gs} (h : gs d Γ = some Γ1) (h2 : F Γ1 = some (.rt x)) : forL gs F (d :: ds) Γ = some (.rt x) := by
  show (gs d Γ).bind _ = _; rw [h]; show (F Γ1).bind _ = _; rw [h2]; rfl
theorem forL_bk {gs : Gs} (h : gs d Γ = some Γ1) (h2 : F Γ1 = some (.bk Γ2)) : forL gs F (d :: ds) Γ = some (.nx Γ2) := by
  show (gs d Γ).bind _ = _; rw [h]; show (F Γ1).bind _ = _; rw [h2]; rfl
/-- a loop that is not left, by its invariant -/
theorem forL_inv {gs : Gs} (Iv : List D → DEnv → Prop) (hs : ∀ d ds Γ, Iv (d :: ds) Γ → ∃ Γ1 Γ2, gs d Γ = some Γ1 ∧ (F Γ1 = some (.nx Γ2) ∨ F Γ1 = some (.ct Γ2)) ∧ Iv ds Γ2) : ∀ (ds : List D) (Γ : DEnv), Iv ds Γ → ∃ Γ', forL gs F ds Γ = some (.nx Γ') ∧ Iv [] Γ'
  | [], Γ, h => ⟨Γ, rfl, h⟩
  | d :: ds, Γ, h => by
    obtain ⟨Γ1, Γ2, h1, h2, h3⟩ := hs d ds Γ h
    obtain ⟨Γ', h4, h5⟩ := forL_inv Iv hs ds Γ2 h3
    rcases h2 with h2 | h2
    · exact ⟨Γ', forL_nx h1 h2 h4, h5⟩
    · exact ⟨Γ', forL_ct h1 h2 h4, h5⟩
theorem compL_nil {gs : Gs} : compL gs p f [] Γ = some [] := rfl
/-- a comprehension without a test: each item by itself -/
theorem compL_map {gs : Gs} {α : Type} (xs : List α) (u v : α → D) (h : ∀ a ∈ xs, ∃ Γ1, gs (u a) Γ = some Γ1 ∧ f Γ1 = some (v a)) : compL gs gYes f (xs.map u) Γ = some (xs.map v) := by
  induction xs with
  | nil => rfl
  | cons a xs ih =>
    obtain ⟨Γ1, h1, h2⟩ := h a List.mem_cons_self
    rw [List.map_cons, List.map_cons]
    show (gs (u a) Γ).bind _ = _
    rw [h1]
    show (f Γ1).bind _ = _
    rw [h2]
    show (compL gs gYes f (xs.map u) Γ).bind _ = _
    rw [ih fun b hb => h b (List.mem_cons_of_mem _ hb)]
    rfl
/-- .. with a test -/
theorem compL_filter {gs : Gs} {α : Type} (xs : List α) (u v : α → D) (t : α → Bool) (h : ∀ a ∈ xs, ∃ Γ1, gs (u a) Γ = some Γ1 ∧ p Γ1 = some (t a) ∧ (t a = true → f Γ1 = some (v a))) : compL gs p f (xs.map u) Γ = some ((xs.filter t).map v) := by
  induction xs with
  | nil => rfl
  | cons a xs ih =>
    obtain ⟨Γ1, h1, h2, h3⟩ := h a List.mem_cons_self
    have ih := ih fun b hb => h b (List.mem_cons_of_mem _ hb)
    rw [List.map_cons]
    show (gs (u a) Γ).bind _ = _
    rw [h1]
    show (p Γ1).bind _ = _
    rw [h2]
    cases e : t a with
    | true =>
      show (f Γ1).bind _ = _
      rw [h3 e]
      show (compL gs p f (xs.map u) Γ).bind _ = _
      rw [ih, List.filter_cons_of_pos e]
      rfl
    | false =>
      show compL gs p f (xs.map u) Γ = _
      rw [ih, List.filter_cons_of_neg (by rw [e]; simp)]
theorem ev_lc {own : List Nat} {it : Ag} {gs : Gs} {ds' : List D} (h : it Γ = some ds) (hl : ds.length < 1000000) (h2 : compL gs p f ds (wipeE Γ own) = some ds') : gLc own it gs p f Γ = some ds' := by
  unfold gLc; rw [h]; show (if ds.length < 1000000 then compL gs p f ds (wipeE Γ own) else none) = _
  rw [if_pos hl]; exact h2
theorem ev_it (h : f Γ = some (.lst ds)) : gIt f Γ = some ds := by unfold gIt; rw [h]; rfl
theorem ev_itT (h : f Γ = some (.tup ds)) : gIt f Γ = some ds := by unfold gIt; rw [h]; rfl
theorem ev_itS {ns : List Int} (h : f Γ = some (.scr ns)) : gIt f Γ = some (ns.map D.int) := by unfold gIt; rw [h]; rfl
theorem ev_rng1 (h : fs Γ = some [.int m]) (h1 : -(2 ^ 62) ≤ m) (h2 : m < 2 ^ 62) : gRng fs Γ = some (rngD 0 m.toNat) := by
  unfold gRng; rw [h]; show (if -(2 ^ 62) ≤ m ∧ m < 2 ^ 62 then some (rngD 0 m.toNat) else none) = _; rw [if_pos ⟨h1, h2⟩]
theorem ev_rng2 (h : fs Γ = some [.int m, .int j]) (h1 : -(2 ^ 62) ≤ m) (h2 : m < 2 ^ 62) (h3 : -(2 ^ 62) ≤ j) (h4 : j < 2 ^ 62) : gRng fs Γ = some (rngD m (j - m).toNat) := by
  unfold gRng; rw [h]; show (if -(2 ^ 62) ≤ m ∧ m < 2 ^ 62 ∧ -(2 ^ 62) ≤ j ∧ j < 2 ^ 62 then some (rngD m (j - m).toNat) else none) = _; rw [if_pos ⟨h1, h2, h3, h4⟩]
theorem d_all {bs : List Bool} : dAll (.lst (bs.map D.bl)) = some (.bl (bs.all id)) := by show (bls? (bs.map D.bl)).bind _ = _; rw [bls?_map]; rfl
theorem d_any {bs : List Bool} : dAny (.lst (bs.map D.bl)) = some (.bl (bs.any id)) := by show (bls? (bs.map D.bl)).bind _ = _; rw [bls?_map]; rfl
theorem d_sum {ns : List Int} : dSum (.lst (ns.map D.int)) = some (.int ns.sum) := by show (ints? (ns.map D.int)).bind _ = _; rw [ints?_map]; rfl
theorem d_max {ns : List Int} (h : ns ≠ []) : dMax (.lst (ns.map D.int)) = some (.int (maxI ns)) := by show (ints? (ns.map D.int)).bind _ = _; rw [ints?_map]; cases ns with | nil => exact absurd rfl h | cons => rfl
theorem d_min {ns : List Int} (h : ns ≠ []) : dMin (.lst (ns.map D.int)) = some (.int (minI ns)) := by show (ints? (ns.map D.int)).bind _ = _; rw [ints?_map]; cases ns with | nil => exact absurd rfl h | cons => rfl
theorem d_sorted {ns : List Int} : dSorted (.lst (ns.map D.int)) = some ((srt ns).map D.int) := by show (ints? (ns.map D.int)).bind _ = _; rw [ints?_map]; rfl
/-! data -/
theorem d_add : dAdd (.int m) (.int j) = some (.int (m + j)) := rfl
theorem d_sub : dSub (.int m) (.int j) = some (.int (m - j)) := rfl
theorem mulOk_l (h1 : -(2 ^ 64) < m) (h2 : m < 2 ^ 64) : mulOk m j = true := by
  have h := intBits_le_64 h1 h2
  have h' : ¬ (Builtin.Int.intBits m > shortFactorBits) := Nat.not_lt.mpr h
  unfold mulOk
  rw [decide_eq_false h']
  rfl
theorem mulOk_r (h1 : -(2 ^ 64) < j) (h2 : j < 2 ^ 64) : mulOk m j = true := by
  have h := intBits_le_64 h1 h2
  have h' : ¬ (Builtin.Int.intBits j > shortFactorBits) := Nat.not_lt.mpr h
  unfold mulOk
  rw [decide_eq_false h', Bool.and_false]
  rfl
theorem d_mul (h : mulOk m j = true) : dMul (.int m) (.int j) = some (.int (m * j)) := by show (if mulOk m j = true then some (D.int (m * j)) else none) = _; rw [if_pos h]
theorem d_div (h : 0 < j) (h2 : j.natAbs.log2 < 9000) : dDiv (.int m) (.int j) = some (.int (m / j)) := by show (if 0 < j ∧ j.natAbs.log2 < 9000 then some (D.int (m / j)) else none) = _; rw [if_pos ⟨h, h2⟩]
theorem log_of {k : Nat} (h : j.natAbs < 2 ^ k) (hk : 0 < k) (h9 : k ≤ 9000) : j.natAbs.log2 < 9000 := Nat.lt_of_lt_of_le (PySem.Flt.log2_lt_of hk h) h9
theorem d_mod (h : 0 < j) : dMod (.int m) (.int j) = some (.int (m % j)) := by show (if 0 < j then some (D.int (m % j)) else none) = _; rw [if_pos h]
theorem d_pow (h : 0 ≤ j ∧ j ≤ 1000000 ∧ m.natAbs < 2 ^ 64) : dPow (.int m) (.int j) = some (.int (m ^ j.toNat)) := by show (if 0 ≤ j ∧ j ≤ 1000000 ∧ m.natAbs < 2 ^ 64 then some (D.int (m ^ j.toNat)) else none) = _; rw [if_pos h]
theorem d_eq {bb : Bool} (h1 : eqOk x = true) (h2 : eqOk y = true) (h : eqd x y = bb) : dEq x y = some (.bl bb) := by unfold dEq; rw [h1, h2]; show some (D.bl (eqd x y)) = _; rw [h]
theorem d_ne {bb : Bool} (h1 : eqOk x = true) (h2 : eqOk y = true) (h : eqd x y = bb) : dNe x y = some (.bl (!bb)) := by unfold dNe; rw [h1, h2]; show some (D.bl (!eqd x y)) = _; rw [h]
theorem eqd_int : eqd (.int m) (.int j) = (m == j) := by unfold eqd toPy; rfl
theorem eqd_bl {a b : Bool} : eqd (.bl a) (.bl b) = (a == b) := by unfold eqd toPy; rfl
theorem eqOk_int : eqOk (.int m) = true := by unfold eqOk pyOk toPy; rfl
theorem eqOk_bl : eqOk (.bl b) = true := by unfold eqOk pyOk toPy; rfl
theorem eqOk_non : eqOk .non = true := by unfold eqOk pyOk toPy; rfl
theorem d_lenL {xs : List D} : dLen (.lst xs) = some (.int xs.length) := rfl
theorem d_lenS {ns : List Int} : dLen (.scr ns) = some (.int ns.length) := rfl
theorem d_ixL {xs : List D} {k : Nat} (h : xs[k]? = some d) : dIx (.lst xs) (.int (k : Nat)) = some d := atI_nat h
end
end DL

namespace DL
open PySem L2
variable [TC : TabCtx]

/-! ### zip of three lists -/
def Itz3 (K : PySem.W.Frag) (a b c : Addr) : It :=
  ⟨fun i H => ∃ (xs ys zs : List V) (x y z : V), SqL K H a xs ∧ SqL K H b ys ∧ SqL K H c zs ∧ xs[i]? = some x ∧ ys[i]? = some y ∧ zs[i]? = some z,
    fun i H v H' => ∃ T x y z, v = .ref T ∧ H T = none ∧ H' = upd H T (.tup [x, y, z]) ∧ (∀ xs, SqL K H a xs → xs[i]? = some x) ∧ (∀ ys, SqL K H b ys → ys[i]? = some y) ∧ ∀ zs, SqL K H c zs → zs[i]? = some z,
    fun i H => ∃ xs ys zs : List V, SqL K H a xs ∧ SqL K H b ys ∧ SqL K H c zs ∧ (xs.length ≤ i ∨ ys.length ≤ i ∨ zs.length ≤ i)⟩
/-- a list's iterator at i, as one that draws: up to the list's end, or not at all -/
theorem draws_at {prog : Program} {w : World} {A : Around} (hh : A.handled = none) (it l : Addr) (hne : l ≠ it) (items : Array Value) (i : Nat) :
    ∃ n P St, Draws prog w A it [it, l] n P St ∧ i ≤ n ∧ (items.size ≤ i → i = n) ∧ ∀ h : Heap, h.IsListIter it l i → h.IsList l items → St i h := by
  by_cases hi : i < items.size
  · exact ⟨_, _, _, Draws.list hh it l hne items, by omega, fun z => by omega, fun h a b => ⟨a, b⟩⟩
  · refine ⟨i, fun _ _ => False, fun j h => j = i ∧ h.IsListIter it l i ∧ h.IsList l items, ⟨fun _ _ st => let ⟨o, ho, _⟩ := st.2.1; ⟨o, ho⟩, fun _ _ _ st hk => ⟨st.1, st.2.1.at fun o e => hk it (by simp) o e, st.2.2.at fun o e => hk l (by simp) o e⟩, fun j s Q E hj st hQ => absurd st.1 (by omega), fun s Q E st hE => ?_⟩, Nat.le_refl _, fun _ => rfl, fun h a b => ⟨rfl, a, b⟩⟩
    exact wpAny_nextOf_list_end hh st.2.1 st.2.2 (by simp; omega) hE
theorem turn_zip3 {P : Program} {w : World} {K : PySem.W.Frag} {elts : List Expr} {kk : Nat} {tpos : Pos} {a b c z TI TO i1 i2 i3 : Addr} (D : ZipSep3 z TI TO i1 i2 i3 [i1, a] [i2, b] [i3, c]) (na : a ≠ i1) (nb : b ≠ i2) (nc : c ≠ i3) :
    Turn P w K (.Tuple elts kk tpos) (Itz3 K a b c) [z, TI, TO, i1, i2, i3] z (fun i h => IsZip h z TI TO .none ∧ IsTupOf3 h TI (.ref i1) (.ref i2) (.ref i3) ∧ (∃ x y u, IsTupOf3 h TO x y u) ∧ h.IsListIter i1 a i ∧ h.IsListIter i2 b i ∧ h.IsListIter i3 c i) where
  mem := by simp
  obj := fun i h st q hq => by
    obtain ⟨hz, hTI, ⟨x, y, u, hTO⟩, ⟨o1, e1, _, d1⟩, ⟨o2, e2, _, d2⟩, ⟨o3, e3, _, d3⟩⟩ := st
    have e' : q = z ∨ q = TI ∨ q = TO ∨ q = i1 ∨ q = i2 ∨ q = i3 := by simpa using hq
    rcases e' with q | q | q | q | q | q
    · rw [q]; exact ⟨_, hz, fun v q => nomatch q⟩
    · rw [q]; exact ⟨_, hTI, fun v q => nomatch q⟩
    · rw [q]; exact ⟨_, hTO, fun v q => nomatch q⟩
    · rw [q]; exact ⟨o1, e1, fun v q => by rw [d1] at q; cases q⟩
    · rw [q]; exact ⟨o2, e2, fun v q => by rw [d2] at q; cases q⟩
    · rw [q]; exact ⟨o3, e3, fun v q => by rw [d3] at q; cases q⟩
  keep := fun i h h' st k => by
    obtain ⟨hz, hTI, ⟨x, y, u, hTO⟩, h1, h2, h3⟩ := st
    exact ⟨k z (by simp) _ hz, k TI (by simp) _ hTI, ⟨x, y, u, k TO (by simp) _ hTO⟩, h1.at fun o q => k i1 (by simp) o q, h2.at fun o q => k i2 (by simp) o q, h3.at fun o q => k i3 (by simp) o q⟩
  item := by
    intro X hP hw hK hc i pins s σ H E I hf st hg
    subst hP hw hK
    obtain ⟨hz, hTI, ⟨x0, y0, u0, hTO⟩, h1, h2, h3⟩ := st
    obtain ⟨xs, ys, zs, x, y, u, hqx, hqy, hqz, hx, hy, hu⟩ := hg
    obtain ⟨its, rv, p, _⟩ := I.list hqx
    obtain ⟨its2, rv2, p2, _⟩ := I.list hqy
    obtain ⟨its3, rv3, p3, _⟩ := I.list hqz
    obtain ⟨w1, hw1, rw1⟩ := rv.get hx
    obtain ⟨w2, hw2, rw2⟩ := rv2.get hy
    obtain ⟨w3, hw3, rw3⟩ := rv3.get hu
    have hzl : z < s.heap.objs.size := Heap.lt_size hz
    have hh := I.ok.hd hc
    have hh1 : (Around.in1 X.A).handled = none := hh
    have lt : ∀ {xs : List Value} {i : Nat} {x : Value}, xs[i]? = some x → i < xs.toArray.size := fun e => by simpa using (List.getElem?_eq_some_iff.mp e).1
    refine wpAny_pyNext_zipD3_item D (Draws.list hh1 i1 a na its.toArray) (Draws.list hh1 i2 b nb its2.toArray) (Draws.list hh1 i3 c nc its3.toArray) hz hTI hTO ⟨h1, p.isList⟩ ⟨h2, p2.isList⟩ ⟨h3, p3.isList⟩ (lt hw1) (lt hw2) (lt hw3) fun v1 v2 v3 h' tk y1 y2 y3 z' TO' d1 d2 d3 hT hsz hk => ?_
    obtain rfl : v1 = w1 := by have : its[i]? = some v1 := by simpa using y1
                               rw [hw1] at this; cases this; rfl
    obtain rfl : v2 = w2 := by have : its2[i]? = some v2 := by simpa using y2
                               rw [hw2] at this; cases this; rfl
    obtain rfl : v3 = w3 := by have : its3[i]? = some v3 := by simpa using y3
                               rw [hw3] at this; cases this; rfl
    refine ⟨_, rfl, wpAny_letOwnedTupleGo_zip (s := { s with heap := h', toks := tk }) z' fun h'' z'' sb => ?_⟩
    have hT2 : h''.get? s.heap.objs.size = some { cls := .type "tuple", data := .seq #[v1, v2, v3] } := (sb.2 _ (Nat.ne_of_gt hzl)).trans hT
    have new : ObjOk X.prog X.w (upd H s.heap.objs.size (.tup [x, y, u])) h'' s.heap.objs.size (.tup [x, y, u]) :=
      ⟨by show 3 ≤ sizeLine; decide, [v1, v2, v3], .cons rw1 (.cons rw2 (.cons rw3 .nil)), ⟨_, hT2, rfl, _, rfl⟩⟩
    have I1 : Inv X pins σ (upd H s.heap.objs.size (.tup [x, y, u])) { s with heap := h'', toks := tk } :=
      I.turnedNew (t' := tk) (ch := [z, TI, TO, i1, i2, i3]) (fun c o hb q => (sb.2 c (fun q' => hb (by simp [q']))).trans (hk c o (fun q' => hb (by simp [q'])) (fun q' => hb (by simp [q'])) (fun q' => hb (by simp [q'])) (fun q' => hb (by simp [q'])) (fun q' => hb (by simp [q'])) q)) hf (Nat.le_refl _) new
    refine ⟨.ref s.heap.objs.size, _, I1, rfl, ⟨_, x, y, u, rfl, I.hok.fresh (Nat.le_refl _), rfl, fun l hl => by rw [I.list_inj hl hqx]; exact hx, fun l hl => by rw [I.list_inj hl hqy]; exact hy, fun l hl => by rw [I.list_inj hl hqz]; exact hu⟩, ⟨z'', ?_, ⟨v1, v2, v3, ?_⟩, ?_, ?_, ?_⟩, fun c hcm => ?_⟩
    · exact (sb.2 _ D.TIz).trans (hk _ _ D.TIz D.TITO D.TIi1 D.TIi2 D.TIi3 hTI)
    · exact (sb.2 _ D.TOz).trans TO'
    · exact d1.1.at fun o q => (sb.2 _ D.zi1.symm).trans q
    · exact d2.1.at fun o q => (sb.2 _ D.zi2.symm).trans q
    · exact d3.1.at fun o q => (sb.2 _ D.zi3.symm).trans q
    · have hlt : c < s.heap.objs.size := by
        have e' : c = z ∨ c = TI ∨ c = TO ∨ c = i1 ∨ c = i2 ∨ c = i3 := by simpa using hcm
        rcases e' with q | q | q | q | q | q
        · rw [q]; exact hzl
        · rw [q]; exact Heap.lt_size hTI
        · rw [q]; exact Heap.lt_size hTO
        · rw [q]; obtain ⟨_, e1, _⟩ := h1; exact Heap.lt_size e1
        · rw [q]; obtain ⟨_, e2, _⟩ := h2; exact Heap.lt_size e2
        · rw [q]; obtain ⟨_, e3, _⟩ := h3; exact Heap.lt_size e3
      rw [upd_ne (Nat.ne_of_lt hlt)]
      exact (hf c hcm).1
  done := by
    intro X hP hw hK hc i pins s σ H E I hf st hg
    subst hP hw hK
    obtain ⟨hz, hTI, ⟨x0, y0, u0, hTO⟩, h1, h2, h3⟩ := st
    obtain ⟨xs, ys, zs, hqx, hqy, hqz, hend⟩ := hg
    obtain ⟨its, rv, p, _⟩ := I.list hqx
    obtain ⟨its2, rv2, p2, _⟩ := I.list hqy
    obtain ⟨its3, rv3, p3, _⟩ := I.list hqz
    have e1 := rv.length
    have e2 := rv2.length
    have e3 := rv3.length
    have hh : (Around.in1 X.A).handled = none := I.ok.hd hc
    obtain ⟨n1, P1, S1, D1, g1, f1, c1⟩ := draws_at (prog := X.prog) (w := X.w) hh i1 a na its.toArray i
    obtain ⟨n2, P2, S2, D2, g2, f2, c2⟩ := draws_at (prog := X.prog) (w := X.w) hh i2 b nb its2.toArray i
    obtain ⟨n3, P3, S3, D3, g3, f3, c3⟩ := draws_at (prog := X.prog) (w := X.w) hh i3 c nc its3.toArray i
    refine wpAny_pyNext_zipD3_end D D1 D2 D3 hz hTI hTO (c1 _ h1 p.isList) (c2 _ h2 p2.isList) (c3 _ h3 p3.isList) g1 g2 g3 (hend.imp (fun q => f1 (by simp; omega)) (Or.imp (fun q => f2 (by simp; omega)) fun q => f3 (by simp; omega))) fun h' tk hk => ⟨rfl, I.turnedL (t' := tk) (ch := [z, TI, TO, i1, i2, i3]) (fun c o hb q =>
      hk c o (fun q' => hb (by simp [q'])) (fun q' => hb (by simp [q'])) (fun q' => hb (by simp [q'])) (fun q' => hb (by simp [q'])) (fun q' => hb (by simp [q'])) q) hf⟩
  self := fun A i s Q E st h => wpAny_pyIter_zip st.1 h

theorem apart3 {n a b c : Nat} (ha : a < n) (hb : b < n) (hc : c < n) : ZipSep3 (n + 5) (n + 3) (n + 4) n (n + 1) (n + 2) [n, a] [n + 1, b] [n + 2, c] := by
  have f (x y : Nat) (h : x < y ∨ y < x) : (x : Addr) ≠ y := by
    intro e
    have e : (x : Nat) = y := e
    omega
  have m (x y z : Nat) (h : (x < y ∨ y < x) ∧ (x < z ∨ z < x)) : (x : Addr) ∉ ([y, z] : List Addr) := by
    intro e
    simp only [List.mem_cons, List.not_mem_nil, or_false] at e
    rcases e with e | e
    · exact f _ _ h.1 e
    · exact f _ _ h.2 e
  constructor
  all_goals first | (exact List.mem_cons_self ..) | (refine f _ _ ?_; omega) | (refine m _ _ _ ?_; omega)
def iZip3 (K : PySem.W.Frag) (ta : TA) : TI := fun σ H R => ta σ H fun vs H1 => ∃ a b c xs ys zs, vs = [.ref a, .ref b, .ref c] ∧ SqL K H1 a xs ∧ SqL K H1 b ys ∧ SqL K H1 c zs ∧ R (Itz3 K a b c) H1
theorem pi_zip3 {X : Cx} {e e2 e3 : Expr} {ta : TA} {p pos tpos : Pos} {elts : List Expr} {kk : Nat} (hg : Gl X "zip") (hm : X.mg "zip" = none) (ha : PA X [e, e2, e3] ta)
    (hs : starEach [e, e2, e3] X.env = (false, eval e X.env) :: starEach [e2, e3] X.env := by rfl) (hpl : (backTo pos (starEach [e2, e3] X.env)).any (·.1) = false := by rfl) :
    PI X (.Tuple elts kk tpos) (.Call (.Name "zip" p) [e, e2, e3] [] pos) (iZip3 X.K ta) := by
  refine ⟨fun pins s σ H R I h => ?_⟩
  refine PyProof.Rows.Call_ (ld_blt I hg hm PyProof.Rows.boot_zip (PyProof.Rows.callWith_type1 (thn (ha.run pos pins s σ H _ I h) fun us s1 ⟨vs, H1, I1, r1, q1⟩ => ?_) hs hpl))
  obtain ⟨a, b, c, xs, ys, zs, ex, hqx, hqy, hqz, q⟩ := q1
  subst ex
  cases r1 with
  | cons r rr =>
    cases rr with
    | cons r' rr =>
      cases rr with
      | cons r'' rr =>
        cases rr
        cases r
        cases r'
        cases r''
        obtain ⟨its, rv, p1, _⟩ := I1.list hqx
        obtain ⟨its2, rv2, p2, _⟩ := I1.list hqy
        obtain ⟨its3, rv3, p3, _⟩ := I1.list hqz
        have la : a < s1.heap.objs.size := p1.lt
        have lb : b < s1.heap.objs.size := p2.lt
        have lc : c < s1.heap.objs.size := p3.lt
        refine zip_begins3 (begins_list a its.toArray) (begins_list b its2.toArray) (begins_list c its3.toArray) p1.isList p2.isList p3.isList fun h' hz hTI hTO h1 h2 h3 hsz hk => wpAny_pyIter_zip hz ?_
        have I2 : Inv X pins σ H1 { s1 with heap := h' } := I1.kept (t' := s1.toks) hk
        refine ⟨s1.heap.objs.size + 5, [s1.heap.objs.size + 5, s1.heap.objs.size + 3, s1.heap.objs.size + 4, s1.heap.objs.size, s1.heap.objs.size + 1, s1.heap.objs.size + 2], _, _, H1, rfl, I2, turn_zip3 (apart3 la lb lc) (Nat.ne_of_lt la) (by show b ≠ _; exact Nat.ne_of_lt (Nat.lt_succ_of_lt lb)) (by show c ≠ _; exact Nat.ne_of_lt (Nat.lt_succ_of_lt (Nat.lt_succ_of_lt lc))), ⟨hz, hTI, ⟨_, _, _, hTO⟩, ⟨_, h1, rfl, rfl⟩, ⟨_, h2, rfl, rfl⟩, ⟨_, h3, rfl, rfl⟩⟩, fun d hd => ?_, q⟩
        have hle : s1.heap.objs.size ≤ d := by
          have e' : d = s1.heap.objs.size + 5 ∨ d = s1.heap.objs.size + 3 ∨ d = s1.heap.objs.size + 4 ∨ d = s1.heap.objs.size ∨ d = s1.heap.objs.size + 1 ∨ d = s1.heap.objs.size + 2 := by simpa using hd
          rcases e' with z | z | z | z | z | z <;> rw [z] <;> first | exact Nat.le_add_right _ _ | exact Nat.le_refl _
        exact I1.fpOk hle (I1.hok.fresh hle)

def zipD3 : List D → List D → List D → List D
  | x :: xs, y :: ys, z :: zs => .tup [x, y, z] :: zipD3 xs ys zs
  | _, _, _ => []
theorem zipD3_get : ∀ {xs ys zs : List D} {i : Nat} {d : D}, (zipD3 xs ys zs)[i]? = some d → ∃ x y z, xs[i]? = some x ∧ ys[i]? = some y ∧ zs[i]? = some z ∧ d = .tup [x, y, z]
  | [], _, _, _, _, h => by simp [zipD3] at h
  | _ :: _, [], _, _, _, h => by simp [zipD3] at h
  | _ :: _, _ :: _, [], _, _, h => by simp [zipD3] at h
  | x :: xs, y :: ys, z :: zs, 0, d, h => by simp [zipD3] at h; exact ⟨x, y, z, rfl, rfl, rfl, h.symm⟩
  | x :: xs, y :: ys, z :: zs, i + 1, d, h => by
    obtain ⟨x', y', z', h1, h2, h3, h4⟩ := zipD3_get (xs := xs) (ys := ys) (zs := zs) (i := i) (d := d) (by simpa [zipD3] using h)
    exact ⟨x', y', z', by simpa using h1, by simpa using h2, by simpa using h3, h4⟩
theorem zipD3_len : ∀ {xs ys zs : List D}, (zipD3 xs ys zs).length = min (min xs.length ys.length) zs.length
  | [], _, _ => by simp [zipD3]
  | _ :: _, [], _ => by simp [zipD3]
  | _ :: _, _ :: _, [] => by simp [zipD3]
  | x :: xs, y :: ys, z :: zs => by simp [zipD3, zipD3_len (xs := xs) (ys := ys) (zs := zs)]
def dZip3 : List D → Option (List D)
  | [x, y, z] => (dItems x).bind fun xs => (dItems y).bind fun ys => (dItems z).bind fun zs => some (zipD3 xs ys zs)
  | _ => none
def gZip3 (fs : Ag) : Ag := fun Γ => (fs Γ).bind dZip3
theorem i_zip3 {X : Cx} {a b c : Expr} {fs : Ag} {pos p tpos : Pos} {elts : List Expr} {kk : Nat} (hg : Gl X "zip") (hm : X.mg "zip" = none) (ha : AN X [a, b, c] 3 fs) (hs : starEach [a, b, c] X.env = (false, eval a X.env) :: starEach [b, c] X.env := by rfl) (hpl : (backTo pos (starEach [b, c] X.env)).any (·.1) = false := by rfl) :
    I X (.Tuple elts kk tpos) (.Call (.Name "zip" p) [a, b, c] [] pos) (gZip3 fs) := by
  obtain ⟨t, h1, h2⟩ := ha.a.ex
  refine ⟨⟨_, pi_zip3 hg hm h1 hs hpl, fun G0 H0 Z Γ σ G H R ds Rl hf k => ?_⟩⟩
  obtain ⟨xs, e1, hf⟩ := obind hf
  have hl := ha.n Γ xs e1
  refine h2 G0 H0 Z Γ σ G H _ _ Rl e1 fun G1 H1 vs x1 r1 => ?_
  match xs, hl, hf, r1 with
  | [x, y, z], _, hf, .cons r (.cons q (.cons o .nil)) =>
    replace hf : ((dItems x).bind fun xs => (dItems y).bind fun ys => (dItems z).bind fun zs => some (zipD3 xs ys zs)) = some ds := hf
    obtain ⟨as, a1, hf⟩ := obind hf
    obtain ⟨bs, a2, hf⟩ := obind hf
    obtain ⟨cs, a3, hf⟩ := obind hf
    cases hf
    obtain ⟨p1, v1, rfl, s1, r1⟩ := r.items a1
    obtain ⟨p2, v2, rfl, s2, r2⟩ := q.items a2
    obtain ⟨p3, v3, rfl, s3, r3⟩ := o.items a3
    refine ⟨p1, p2, p3, v1, v2, v3, rfl, x1.gh.seq s1, x1.gh.seq s2, x1.gh.seq s3, k G1 H1 _ x1 fun i G2 H2 t1 t2 => ?_⟩
    have q1 : SqL X.K H2 p1 v1 := (t1.trans t2).seq s1
    have q2 : SqL X.K H2 p2 v2 := (t1.trans t2).seq s2
    have q3 : SqL X.K H2 p3 v3 := (t1.trans t2).seq s3
    refine ⟨fun hi => ?_, fun d hd => ?_⟩
    · rw [zipD3_len] at hi
      refine ⟨v1, v2, v3, q1, q2, q3, ?_⟩
      rw [r1.length, r2.length, r3.length]
      omega
    · obtain ⟨x, y, z, g1, g2, g3, rfl⟩ := zipD3_get hd
      obtain ⟨w1, b1, c1⟩ := r1.get i g1
      obtain ⟨w2, b2, c2⟩ := r2.get i g2
      obtain ⟨w3, b3, c3⟩ := r3.get i g3
      refine ⟨⟨v1, v2, v3, w1, w2, w3, q1, q2, q3, b1, b2, b3⟩, fun u H3 yl => ?_⟩
      obtain ⟨T, z1, z2, z3, rfl, hT, rfl, f1, f2, f3⟩ := yl
      have y1 := f1 v1 q1
      have y2 := f2 v2 q2
      have y3 := f3 v3 q3
      rw [b1] at y1
      rw [b2] at y2
      rw [b3] at y3
      cases y1
      cases y2
      cases y3
      have x2 := Ext.new1 (o := .tup [w1, w2, w3]) t2 hT
      exact ⟨_, x2, .tup (SqT.of upd_same) (.cons ((c1.mono t1).mono x2.gg) (.cons ((c2.mono t1).mono x2.gg) (.cons ((c3.mono t1).mono x2.gg) .nil)))⟩
end DL

namespace DL
open PySem L2
variable [TC : TabCtx]

/-! ### fields of an object of one's own -/
section
variable {K : PySem.W.Frag} {mg : Str → Option Value} {G H : Hp}
theorem HdL.setv : ∀ {vs : List V} {F : Addr → Prop} {ss : List Sl} (j : Nat) {v : V} {s : Sl} {F1 : Addr → Prop}, HdL K mg G H vs F ss → Hd K mg G H v F1 s → (∀ a, F1 a → ¬ F a) → HdL K mg G H (vs.set j v) (fun a => F a ∨ F1 a) (ss.set j s)
  | _, _, _, _, _, _, _, .nil, _, _ => .nil
  | _, _, _, 0, _, _, _, .cons (F := F) (F1 := Fh) (F2 := Ft) h r s1 s2 d, hv, dj => .cons hv r (fun _ x => .inr x) (fun a x => .inl (s2 a x)) fun a x y => dj a x (s2 a y)
  | _, _, _, j + 1, _, _, _, .cons (F := F) (F1 := Fh) (F2 := Ft) h r s1 s2 d, hv, dj =>
    .cons h (HdL.setv j r hv fun a x y => dj a x (s2 a y)) (fun a x => .inl (s1 a x)) (fun a x => x.elim (fun x => .inl (s2 a x)) .inr) fun a x y => y.elim (d a x) fun y => dj a y (s1 a x)
theorem HdL.snoc : ∀ {vs : List V} {F : Addr → Prop} {ss : List Sl} {v : V} {s : Sl} {F1 : Addr → Prop}, HdL K mg G H vs F ss → Hd K mg G H v F1 s → (∀ a, F1 a → ¬ F a) → HdL K mg G H (vs ++ [v]) (fun a => F a ∨ F1 a) (ss ++ [s])
  | _, F, _, v, s, F1, .nil, hv, dj => .cons (F1 := F1) (F2 := fun _ => False) hv .nil (fun _ x => .inr x) (fun _ x => x.elim) fun _ _ y => y
  | _, _, _, _, _, _, .cons (F := F) (F1 := Fh) (F2 := Ft) h r s1 s2 d, hv, dj =>
    .cons h (HdL.snoc r hv fun a x y => dj a x (s2 a y)) (fun a x => .inl (s1 a x)) (fun a x => x.elim (fun x => .inl (s2 a x)) .inr) fun a x y => y.elim (d a x) fun y => dj a y (s1 a x)
theorem putF_set : ∀ {ns : List Str} {vs : List V} {j : Nat} {f : Str} {v : V}, ns.Nodup → ns[j]? = some f → j < vs.length → putF f v (ns.zip vs) = ns.zip (vs.set j v)
  | [], _, _, _, _, _, h, _ => by simp at h
  | _ :: _, [], _, _, _, _, _, h => by simp at h
  | n :: ns, w :: vs, 0, f, v, nd, h, _ => by
    simp at h; subst h
    show (if n = n then (n, v) :: ns.zip vs else _) = _
    rw [if_pos rfl]; rfl
  | n :: ns, w :: vs, j + 1, f, v, nd, h, hl => by
    have hn : ¬ n = f := fun e => by
      subst e
      exact (List.nodup_cons.mp nd).1 (List.mem_of_getElem? (by simpa using h))
    show (if n = f then (n, v) :: ns.zip vs else (n, w) :: putF f v (ns.zip vs)) = _
    rw [if_neg hn, putF_set (List.nodup_cons.mp nd).2 (by simpa using h) (by simpa using hl)]
    rfl
theorem putF_snoc : ∀ {ns : List Str} {vs : List V} {f : Str} {v : V}, ns.Nodup → ns[vs.length]? = some f → putF f v (ns.zip vs) = ns.zip (vs ++ [v])
  | [], vs, _, _, _, h => by simp at h
  | n :: ns, [], f, v, nd, h => by
    simp at h; subst h; simp [putF]
  | n :: ns, w :: vs, f, v, nd, h => by
    have hn : ¬ n = f := fun e => by
      subst e
      exact (List.nodup_cons.mp nd).1 (List.mem_of_getElem? (by simpa using h))
    show (if n = f then (n, v) :: ns.zip vs else (n, w) :: putF f v (ns.zip vs)) = _
    rw [if_neg hn, putF_snoc (List.nodup_cons.mp nd).2 (by simpa using h)]
    rfl
end

/-! ### new things -/
abbrev Sx := DEnv → Option Sl
structure EN (X : Cx) (e : Expr) (f : Sx) : Prop where
  ex : ∃ t, PE X e t ∧ ∀ G0 H0 Z Γ σ G H Q s, Rel X.K X.mg G0 H0 Z Γ σ G H → f Γ = some s → (∀ G' H' v F, Ext G H G' H' → Hd X.K X.mg G' H' v F s → (∀ a, F a → G' a = none ∧ H a = none ∧ H' a ≠ none) → Q v H') → t σ H Q
def nSh (f : Ex) : Sx := fun Γ => (f Γ).bind fun d => some (.sh d)
def nOw (f : Ag) : Sx := fun Γ => (f Γ).bind fun d => some (.ow d)
def nD (f : Sx) : Ex := fun Γ => (f Γ).bind toD
section
variable {X : Cx} {e a b o tg : Expr} {es : List Expr} {f k : Ex} {fs : Ag} {st : Stmt} {sts : List Stmt} {F F' : Sm} {p : Te} {pos pos' : Pos} {n : Nat} {ix : List Nat} {g : Gs} {sx : Sx}
theorem E.nw (h : E X e f) : EN X e (nSh f) := by
  obtain ⟨t, h1, h2⟩ := h.ex
  refine ⟨⟨t, h1, fun G0 H0 Z Γ σ G H Q s R hf k => ?_⟩⟩
  obtain ⟨d, e1, hf⟩ := obind hf
  cases hf
  exact h2 G0 H0 Z Γ σ G H Q d R e1 fun G' H' v x r => k G' H' v (fun _ => False) x (.sh r) fun _ z => z.elim
theorem EL.nw (h : EL X e fs) : EN X e (nOw fs) := by
  obtain ⟨t, h1, h2⟩ := h.ex
  refine ⟨⟨t, h1, fun G0 H0 Z Γ σ G H Q s R hf k => ?_⟩⟩
  obtain ⟨d, e1, hf⟩ := obind hf
  cases hf
  exact h2 G0 H0 Z Γ σ G H Q d R e1 fun G' H' q vs x hq gq h r => k G' H' _ (fun a => a = q) x (.ow rfl h r) fun a e => by subst e; exact ⟨gq, hq, by rw [h]; simp⟩
theorem EN.fz (h : EN X e sx) : E X e (nD sx) := by
  obtain ⟨t, h1, h2⟩ := h.ex
  refine ⟨⟨t, h1, fun G0 H0 Z Γ σ G H Q d R hf k => ?_⟩⟩
  obtain ⟨s, e1, hf⟩ := obind hf
  refine h2 G0 H0 Z Γ σ G H Q s R e1 fun G' H' v F x hd hF => ?_
  obtain ⟨G2, y, r⟩ := hd.frz hf x.gh fun a z => (hF a z).1
  refine k G2 H' v ⟨x.gg.trans y.gg, x.hh, y.gh, fun a q => ?_, x.hn, fun t => TC.ti.keep (x.tb t) y.gg (fun _ _ => rfl) (fun a h g => by
    cases q : G2 a with
    | none => rfl
    | some u =>
      rcases y.new a (by rw [q]; simp) with z | z
      · exact absurd g z
      · exact absurd (hF a z).2.1 (TC.ti.live t a h).1)⟩ r
  rcases y.new a q with z | z
  · exact x.new a z
  · exact .inr (hF a z).2.1
def sSetN (i : Nat) (f : Sx) : Sm := fun Γ => (f Γ).bind fun s => some (.nx (Γ.set i s))
theorem s_setN (i : Nat) {x : Str} (hN : X.N.Nodup) (he : EN X e sx) (h0 : i ≠ 0 := by decide) (hi : X.N[i]? = some x := by rfl) (hx : Loc X.env.scope x := by first | exact Or.inl rfl | exact Or.inr rfl) (hs : swapsWith e (some (.Name x pos')) pos.line X.env = pure false := by rfl)
    (hf : X.fn x = true ∨ X.env.scope.names.lookup x = some .local := by first | exact .inl rfl | exact .inr rfl | assumption) : S X (.Assign [.Name x pos'] e pos) (sSetN i sx) := by
  obtain ⟨t, h1, h2⟩ := he.ex
  refine ⟨⟨_, ps_set hN hi hx h1 hs hf, fun G0 H0 Z Γ σ G H D r R hf k => ?_⟩⟩
  obtain ⟨d, e1, hf⟩ := obind hf
  cases hf
  exact h2 G0 H0 Z Γ σ G H _ d R e1 fun G1 H1 v F x1 hd hF => k _ G1 H1 (R.setNew x1 i hd hF (.inl h0))

/-! P.f = e -/
def sFld (i : Nat) (rp : Pth) (c j : Nat) (f : Sx) : Sm := fun Γ => (f Γ).bind fun sn => match gP i rp Γ with
  | some (.ob c' fs) => if c' = c then (if j < fs.length then upP i rp (.ob c (fs.set j sn)) Γ else if j = fs.length then upP i rp (.ob c (fs ++ [sn])) Γ else none) else none
  | _ => none
theorem cF_short (c : Nat) : (cF c).length < 1000 := by
  have h : ∀ x ∈ cTab, x.2.length < 1000 := by decide +kernel
  unfold cF
  rw [List.getD_eq_getElem?_getD]
  cases q : cTab[c]? with
  | none => simp
  | some x => exact h x (List.mem_of_getElem? q)
theorem zip_short {c : Nat} {vs : List V} : ((cF c).zip vs).length < 1000 := by
  have := cF_short c
  rw [List.length_zip]
  omega
theorem s_fld {i : Nat} {rp : Pth} {c j : Nat} {C : Addr} {x : Str} (ck : CK X.K X.mg c C) (hp : PL X o i rp) (he : EN X e sx) (hj : (cF c)[j]? = some x := by rfl) (nd : (cF c).Nodup := by decide +kernel) (hs : swapsWith e (some (.Attribute o x pos')) pos.line X.env = pure false := by rfl) :
    S X (.Assign [.Attribute o x pos'] e pos) (sFld i rp c j sx) := by
  obtain ⟨t, t1, t2⟩ := he.ex
  obtain ⟨u, u1, u2⟩ := hp.ex
  refine ⟨⟨_, ps_fld u1 t1 hs, fun G0 H0 Z Γ σ G H D r R hf k => ?_⟩⟩
  obtain ⟨sn, e1, hf⟩ := obind hf
  cases q : gP i rp Γ with
  | none => rw [q] at hf; cases hf
  | some par =>
    rw [q] at hf
    cases par with
    | ob c' fs =>
      replace hf : (if c' = c then (if j < fs.length then upP i rp (.ob c (fs.set j sn)) Γ else if j = fs.length then upP i rp (.ob c (fs ++ [sn])) Γ else none) else none) = some r := hf
      split at hf
      · rename_i hc
        subst hc
        obtain ⟨s, b1, b2, b3⟩ := gP_some q (by simp [SlP])
        refine t2 G0 H0 Z Γ σ G H _ sn R e1 fun G1 H1 v F x1 hd hF => ?_
        refine u2 G0 H0 Z Γ σ G H G1 H1 _ s _ R x1 b1 b2 b3 (by simp) fun v0 pk => ?_
        obtain ⟨F1, P⟩ := pk G1 H1 x1
        have hdP := P.hd
        cases hdP with
        | ob f hm ho n sF rr =>
          rename_i p C' dx vs F'
          rw [ck.hm] at hm
          cases hm
          refine ⟨p, C, dx, _, rfl, ho, ck.cl, ck.na x (List.mem_of_getElem? hj), zip_short, ?_⟩
          have gp := (P.fr p f).1
          have hlen := rr.length
          have dj : ∀ a, F a → ¬ F1 a := fun a y z => (P.fr a z).2.2.2.2 (hF a y).2.1
          have njF : ¬ F p := fun y => dj p y f
          -- the object as it is then
          have fin : ∀ (vs' : List V) (fs' : List Sl) (s2 : Sl), putF x v ((cF c').zip vs) = (cF c').zip vs' → (∀ {Hx : Hp}, HdL X.K X.mg G1 Hx vs F' fs → Hd X.K X.mg G1 Hx v F sn → HdL X.K X.mg G1 Hx vs' (fun a => F' a ∨ F a) fs') → setR rp (.ob c' fs') s = some s2 →
              Rel X.K X.mg G0 H0 Z (Γ.set i s2) σ G1 (upd H1 p (.ins C dx (putF x v ((cF c').zip vs)))) := fun vs' fs' s2 ez mk es => by
            rw [ez]
            have keep : ∀ (Y : Addr → Prop), ¬ Y p → ∀ a o, Y a → H1 a = some o → upd H1 p (.ins C dx ((cF c').zip vs')) a = some o := fun Y hy a o ya q => by
              rw [upd_ne]
              · exact q
              · intro e; subst e; exact hy ya
            refine P.up G1 _ (fun a => F1 a ∨ F a) (.ob c' fs') s2 (Same.refl _) (fun a o q => ?_) (fun a q => .inl q) (fun a o nf q => ?_) ?_ (fun a y => ?_) (fun _ => rfl) es
            · rw [upd_ne (ne_of_none q gp)]; exact x1.gh _ _ q
            · rw [upd_ne]
              · exact q
              · intro e; subst e; exact nf f
            · refine .ob (.inl f) ck.hm upd_same (F' := fun a => F' a ∨ F a) (fun y => y.elim n njF) (fun a y => y.elim (fun y => .inl (sF a y)) .inr) ?_
              exact mk (rr.mono (Same.refl _) (fun a o y q _ => keep F' n a o y q)) (hd.mono (Same.refl _) (fun a o y q _ => keep F njF a o y q))
            · have up : H1 a ≠ none → upd H1 p (.ins C dx ((cF c').zip vs')) a ≠ none := fun q => by
                by_cases e : a = p
                · subst e; rw [upd_same]; simp
                · rw [upd_ne e]; exact q
              rcases y with y | y
              · exact ⟨(P.fr a y).1, up (P.fr a y).2.2.1, .inl y⟩
              · exact ⟨(hF a y).1, up (hF a y).2.2, .inr (hF a y).2.1⟩
          have djL : ∀ a, F a → ¬ F' a := fun a y z => dj a y (sF a z)
          split at hf
          · rename_i hjl
            obtain ⟨s', s2, a1, a2, rfl⟩ := upP_some hf
            rw [b1] at a1
            cases a1
            exact k σ G1 _ (fin (vs.set j v) _ s2 (putF_set nd hj (by rw [hlen]; exact hjl)) (fun r h => r.setv j h djL) a2)
          · split at hf
            · rename_i hjl
              obtain ⟨s', s2, a1, a2, rfl⟩ := upP_some hf
              rw [b1] at a1
              cases a1
              exact k σ G1 _ (fin (vs ++ [v]) _ s2 (putF_snoc nd (by rw [hlen, ← hjl]; exact hj)) (fun r h => r.snoc h djL) a2)
            · cases hf
      · cases hf
    | _ => cases hf

/-! ### defs that change their first argument -/
def spM (K : PySem.W.Frag) (mg : Str → Option Value) (n : Nat) (F : Sl → List D → Option (D × Sl)) : Sp := fun vs H Q _ =>
  ∃ v0 args G s ds d s' Fp, vs = v0 :: args ∧ args.length = n ∧ Same G H ∧ TC.ti.t G H ∧ Hd K mg G H v0 Fp s ∧ (∀ a, Fp a → G a = none ∧ H a ≠ none ∧ ¬ TC.ti.tz a) ∧ RepL K mg G args ds ∧ F s ds = some (d, s') ∧
    ∀ G' H' v Fp', Same G G' → Same G' H' → TC.ti.t G' H' → (∀ a, ¬ Fp a → H a ≠ none → H' a ≠ none) → (∀ a, G' a ≠ none → G a ≠ none ∨ H a = none ∨ Fp a) → (∀ a o, ¬ Fp a → H a = some o → NT o → H' a = some o) → Rep K mg G' v d → Hd K mg G' H' v0 Fp' s' → (∀ a, Fp' a → G' a = none ∧ H' a ≠ none ∧ (Fp a ∨ H a = none)) → Q v H'
def runM (n : Nat) (B : Sm) : Sl → List D → Option (D × Sl) := fun s ds => (B (s :: ds.map Sl.sh ++ List.replicate (n - (ds.length + 1)) .no)).bind fun r => match r with
  | .rm d s' => if isOwn s' then some (d, s') else none
  | .nx Γ => (Γ[0]?).bind fun s' => if isOwn s' then some (.non, s') else none
  | _ => none
def sRetM (f : Ex) : Sm := fun Γ => (f Γ).bind fun d => (Γ[0]?).bind fun s => if isOwn s then some (.rm d s) else none
theorem s_retM (he : E X e f) : S X (.Return (some e) pos) (sRetM f) := by
  obtain ⟨t, h1, h2⟩ := he.ex
  refine ⟨⟨_, ps_ret h1, fun G0 H0 Z Γ σ G H D r R hf k => ?_⟩⟩
  obtain ⟨d, e1, hf⟩ := obind hf
  obtain ⟨s, e2, hf⟩ := obind hf
  split at hf
  · cases hf
    exact h2 G0 H0 Z Γ σ G H _ d R e1 fun G1 H1 v x1 r1 => k Γ σ G1 H1 v (R.ext x1) e2 r1
  · cases hf
def sRetMN : Sm := fun Γ => (Γ[0]?).bind fun s => if isOwn s then some (.rm .non s) else none
theorem s_retMN : S X (.Return none pos) sRetMN := ⟨⟨_, ps_retN, fun G0 H0 Z Γ σ G H D r R hf k => by
  obtain ⟨s, e2, hf⟩ := obind hf
  split at hf
  · cases hf
    exact k Γ σ G H _ R e2 .non
  · cases hf⟩⟩
end
section
variable {P : Program} {w : World} {K : PySem.W.Frag} {mg : Str → Option Value} {base : Heap}
/-- the slots at the entry -/
theorem startM_rel {G H : Hp} {N : List Str} {v0 : V} {vs : List V} {s : Sl} {ds : List D} {Fp : Addr → Prop} (gh : Same G H) (tb : TC.ti.t G H) (hd : Hd K mg G H v0 Fp s) (fr : ∀ a, Fp a → G a = none ∧ H a ≠ none ∧ ¬ TC.ti.tz a) (r : RepL K mg G vs ds) (dec : ∀ a, Decidable (Fp a)) :
    Rel K mg G (fun a => if Fp a then none else H a) ⟨TC.ti.tz, some v0, TC.ti⟩ (s :: ds.map Sl.sh ++ List.replicate (N.length - (ds.length + 1)) .no) (L2.start N (v0 :: vs)) G H := by
  have hl := r.length
  unfold L2.start
  refine ⟨by simp [hl], gh, fun a o q _ => ?_, Same.refl _, fun a h => .inl h, fun a z => (TC.ti.live tb a z).1, fun v s' e1 _ _ => by cases e1; simp, tb, fun _ h => h, rfl, fun a h => by
    by_cases x : Fp a
    · simp [x] at h
    · simpa [x] using h, fun i a => i = 0 ∧ Fp a, fun i a z => ⟨(fr a z.2).1, by simp [z.2], (fr a z.2).2.1, (fr a z.2).2.2⟩, fun i j a z1 z2 => z1.1.trans z2.1.symm, fun i s' h => ?_⟩
  · split at q
    · cases q
    · exact q
  · cases i with
    | zero =>
      simp at h
      subst h
      exact .inr (.inl ⟨v0, by simp, hd.wide fun a x => ⟨rfl, x⟩⟩)
    | succ i =>
      have e : N.length - (ds.length + 1) = (N.length - 1) - ds.length := by omega
      rw [List.cons_append, List.getElem?_cons_succ, e] at h
      rcases start_get h with z | ⟨d, e1, rfl⟩
      · exact .inl z
      · obtain ⟨v, e2, e3⟩ := r.get i e1
        refine .inr (.inl ⟨v, ?_, .sh e3⟩)
        have hi : i < vs.length := (List.getElem?_eq_some_iff.mp e2).1
        rw [List.map_cons, List.cons_append, List.getElem?_cons_succ, List.getElem?_append_left (by simpa using hi), List.getElem?_map, e2]
        rfl
open Classical in
theorem def_okM {x qual : Str} {st : Stmt} {f : Addr} {fd : FuncData} {N ps : List Str} {k : Nat} {B : Sm} (F : Fun K x qual st f fd) (S : FnScope N ps (defScope st)) {n : Nat} (hps : ps.length = n + 1)
    (hbody : ∀ (cdv : Value) (A : Around) (outer : List PySem.Env) (s : Shared) (H : Hp) (E : XK), Room k (A.deeper (PyProof.Rows.envOfC qual (defScope st) s.heap.objs.size f cdv)) →
      Ss (cxOf CX0 P w K mg base N qual (defScope st) f cdv A outer s H E).nox (defBody st) B) : FnOk P w K mg base CX0 (k + 1) f fd ps (spM K mg n (runM N.length B)) := by
  refine F.ok S (fun vs H Q E h => ?_) (fun cdv A outer s H vs Q E hr h => ?_)
  · obtain ⟨v0, args, G, s, ds, d, s', Fp, rfl, hl, _⟩ := h
    simp [hl, hps]
  · obtain ⟨v0, args, G, sl, ds, d, s', Fp, rfl, hl, gh, tb, hd, fr, r, hf, kk⟩ := h
    obtain ⟨t, h1, h2⟩ := (hbody cdv A outer s H E hr).ex
    refine ⟨t, h1, ?_⟩
    obtain ⟨r1, e1, hf⟩ := obind hf
    have R := startM_rel (N := N) gh tb hd fr r fun a => inferInstance
    have fin : ∀ (Γ : DEnv) (σ : L2.St) (G' H' : Hp) (v : V), Rel K mg G (fun a => if Fp a then none else H a) ⟨TC.ti.tz, some v0, TC.ti⟩ Γ σ G' H' → Γ[0]? = some s' → isOwn s' = true → Rep K mg G' v d → Q v H' := fun Γ σ G' H' v R' e0 ns rv => by
      have es := R'.an v0 s' rfl e0 (keepS_own ns)
      obtain ⟨own, o1, o2, o3⟩ := R'.own
      rcases o3 0 s' e0 with z | ⟨v', z1, z2⟩ | ⟨_, _, z, _⟩
      · rw [z] at ns; cases ns
      rotate_left
      · rw [z] at ns; cases ns
      · rw [es] at z1
        cases z1
        refine kk G' H' v (own 0) R'.gg R'.gh R'.tbc (fun a nf h => R'.hn a (by simpa [nf] using h)) (fun a q => ?_) (fun a o nf q n => R'.hh a o (by simp [nf, q]) n) rv z2 fun a y => ?_
        · rcases R'.new a q with z | z
          · exact .inl z
          · by_cases fa : Fp a
            · exact .inr (.inr fa)
            · simp [fa] at z
              exact .inr (.inl z)
        · obtain ⟨w1, w2, w3, w4⟩ := o1 0 a y
          refine ⟨w1, w3, ?_⟩
          by_cases fa : Fp a
          · exact .inl fa
          · simp [fa] at w2
            exact .inr w2
    refine h2 G _ _ _ _ G H _ r1 R e1 ?_
    cases r1 with
    | rm d' s2 =>
      replace hf : (if isOwn s2 then some (d', s2) else none) = some (d, s') := hf
      split at hf
      · rename_i ns
        cases hf
        exact fun Γ σ G' H' v R' e0 rv => fin Γ σ G' H' v R' e0 ns rv
      · cases hf
    | nx Γ =>
      obtain ⟨s2, e2, hf⟩ := obind hf
      split at hf
      · rename_i ns
        cases hf
        exact fun σ' G' H' R' => fin Γ σ' G' H' _ R' e2 ns .non
      · cases hf
    | rt d => cases hf
    | ro s => cases hf
    | bk Γ => cases hf
    | ct Γ => cases hf
    | ra n => cases hf
end

/-! ### objects that are made -/
structure Mak (P : Program) (w : World) (K : PySem.W.Frag) (mg : Str → Option Value) (base : Heap) (c L : Nat) (ps : List Str) (S : Sl → List D → Option (D × Sl)) : Prop where
  ex : ∃ C f fd p0 ps', ps = p0 :: ps' ∧ mg (cN c) = some (.ref C) ∧ Mk K C f ∧ FnOk P w K mg base CX0 L f fd ps (spM K mg ps'.length S) ∧ Binds K fd ps []
def gMk (c : Nat) (S : Sl → List D → Option (D × Sl)) (fs : Ag) : Sx := fun Γ => (fs Γ).bind fun ds => (S (.ob c []) ds).bind fun r => match r.1 with
  | .non => some r.2
  | _ => none
section
variable {X : Cx} {a : Expr} {es : List Expr} {fs : Ag} {pos p : Pos}
theorem make_ok {c : Nat} {C : Addr} {n : Nat} {S : Sl → List D → Option (D × Sl)} {t : TA} (hm : X.mg (cN c) = some (.ref C)) (hn : ∀ Γ ds, fs Γ = some ds → ds.length = n)
    (h2 : ∀ (G0 H0 : Hp) (Z : Zs) (Γ : DEnv) (σ : L2.St) (G H : Hp) (Q : List V → Hp → Prop) (ds : List D), Rel X.K X.mg G0 H0 Z Γ σ G H → fs Γ = some ds → (∀ G' H' vs, Ext G H G' H' → RepL X.K X.mg G' vs ds → Q vs H') → t σ H Q) :
    ∀ (G0 H0 : Hp) (Z : Zs) (Γ : DEnv) (σ : L2.St) (G H : Hp) (Q : VK) (s : Sl), Rel X.K X.mg G0 H0 Z Γ σ G H → gMk c S fs Γ = some s → (∀ G' H' v F, Ext G H G' H' → Hd X.K X.mg G' H' v F s → (∀ a, F a → G' a = none ∧ H a = none ∧ H' a ≠ none) → Q v H') → tMake C (spM X.K X.mg n S) [] E0 t σ H Q := by
  intro G0 H0 Z Γ σ G H Q s R hf k
  obtain ⟨ds, e1, hf⟩ := obind hf
  obtain ⟨⟨d, s'⟩, e2, hf⟩ := obind hf
  have hd : d = .non ∧ s' = s := by
    cases d with
    | non => cases hf; exact ⟨rfl, rfl⟩
    | _ => cases hf
  obtain ⟨rfl, rfl⟩ := hd
  refine h2 G0 H0 Z Γ σ G H _ ds R e1 fun G1 H1 vs x1 r1 => ?_
  intro x dx nx ndx ne
  have gx : G1 x = none := x1.gh.free nx
  have Hx : H x = none := x1.hf nx
  have T1 := (R.ext x1).tbc
  have keep : ∀ b o, H1 b = some o → upd (upd H1 dx (.own x)) x (.ins C dx []) b = some o := fun b o q => by
    rw [upd_ne (ne_of_none q nx), upd_ne (ne_of_none q ndx)]; exact q
  refine ⟨.ref x, vs, G1, .ob c [], ds, .non, s', fun b => b = x, by rw [List.append_nil], ?_, fun b o q => keep b o (x1.gh _ _ q), TC.ti.keep T1 (Same.refl _) (fun a h => same_at (fun b o q => keep b o q) (TC.ti.live T1 a h).1) (fun _ _ g => g), ?_, fun b e => by subst e; exact ⟨gx, by rw [upd_same]; simp, fun z => (TC.ti.live T1 _ z).1 nx⟩, r1, e2, ?_⟩
  · rw [r1.length, hn Γ ds e1]
  · exact .ob (F' := fun _ => False) (dx := dx) (vs := []) rfl hm (by rw [upd_same, List.zip_nil_right]) (fun z => z) (fun _ z => z.elim) .nil
  · intro G' H' v Fp' gg gh tb' hn' nw kp rv hv fr
    cases rv
    have keep' : ∀ b o, H b = some o → NT o → upd (upd H1 dx (.own x)) x (.ins C dx []) b = some o := fun b o q n => keep b o (x1.hh b o q n)
    have kn : ∀ b, H1 b ≠ none → upd (upd H1 dx (.own x)) x (.ins C dx []) b ≠ none := fun b h => nn (fun b o q => keep b o q) h
    refine ⟨rfl, k G' H' (.ref x) Fp' ⟨x1.gg.trans gg, fun b o q n => ?_, gh, fun b q => ?_, fun b h => hn' b (fun e => by subst e; exact h Hx) (kn b (x1.hn b h)), fun _ => tb'⟩ hv fun b y => ?_⟩
    · exact kp b o (fun e => by subst e; rw [Hx] at q; cases q) (keep' b o q n) n
    · rcases nw b q with z | z | z
      · exact x1.new b z
      · refine .inr ?_
        cases e : H b with
        | none => rfl
        | some o => exact absurd z (kn b (x1.hn b (by rw [e]; simp)))
      · subst z; exact .inr Hx
    · obtain ⟨w1, w2, w3⟩ := fr b y
      refine ⟨w1, ?_, w2⟩
      rcases w3 with z | z
      · subst z; exact Hx
      · cases e : H b with
        | none => rfl
        | some o => exact absurd z (kn b (x1.hn b (by rw [e]; simp)))
theorem e_mkC {c k L : Nat} {p0 : Str} {ps : List Str} {S : Sl → List D → Option (D × Sl)} (m : Mak X.prog X.w X.K X.mg X.base c L (p0 :: ps) S) (hr : Room k X.A) (hk : L + 1 ≤ k)
    (ha : AN X (a :: es) ps.length fs) (hg : Gl X (cN c) := by rfl) (hdb : (cN c == ("__debug__" : Str)) = false := by decide) (he : starEach (a :: es) X.env = (false, eval a X.env) :: starEach es X.env := by rfl) (hpl : (backTo pos (starEach es X.env)).any (·.1) = false := by rfl) :
    EN X (.Call (.Name (cN c) p) (a :: es) [] pos) (gMk c S fs) := by
  obtain ⟨C, f, fd, q0, ps', ep, h1, h2, h3, h4⟩ := m.ex
  cases ep
  obtain ⟨t, t1, t2⟩ := ha.a.ex
  exact ⟨⟨_, pe_make h2 h3 (hr.mono hk) hg h1 h4 .nil pass0 t1 hdb he hpl, make_ok h1 ha.n t2⟩⟩
theorem e_mkC0 {c k L : Nat} {p0 : Str} {S : Sl → List D → Option (D × Sl)} (m : Mak X.prog X.w X.K X.mg X.base c L [p0] S) (hr : Room k X.A) (hk : L + 1 ≤ k)
    (hg : Gl X (cN c) := by rfl) (hdb : (cN c == ("__debug__" : Str)) = false := by decide) : EN X (.Call (.Name (cN c) p) [] [] pos) (gMk c S aN) := by
  obtain ⟨C, f, fd, q0, ps', ep, h1, h2, h3, h4⟩ := m.ex
  cases ep
  exact ⟨⟨_, pe_make0 h2 h3 (hr.mono hk) hg h1 h4 .nil pass0 hdb, make_ok (fs := aN) (n := 0) h1 (fun _ _ h => by cases h; rfl) fun G0 H0 Z Γ σ G H Q ds R e kk => by cases e; exact kk G H [] (.refl R.gh) .nil⟩⟩
end

/-! ### defs that give a thing of the caller's own -/
def sRetO (i : Nat) (rp : Pth) : Sm := fun Γ => match gP i rp Γ with
  | some s => if isOwn s then some (.ro s) else none
  | none => none
section
variable {X : Cx} {a e : Expr} {es : List Expr} {fs : Ag} {pos p : Pos} {sx : Sx}
theorem isOwn_no : isOwn .no = false := rfl
theorem s_retO {i : Nat} {rp : Pth} (hp : PL X e i rp) : S X (.Return (some e) pos) (sRetO i rp) := by
  obtain ⟨t, h1, h2⟩ := hp.ex
  refine ⟨⟨_, ps_ret h1, fun G0 H0 Z Γ σ G H D r R hf k => ?_⟩⟩
  unfold sRetO at hf
  cases q : gP i rp Γ with
  | none => rw [q] at hf; cases hf
  | some s1 =>
    rw [q] at hf
    replace hf : (if isOwn s1 then some (Res.ro s1) else none) = some r := hf
    split at hf
    · rename_i ho
      cases hf
      have hn : SlP s1 := ⟨(fun z => by subst z; rw [isOwn_no] at ho; cases ho), (fun d z => by subst z; cases ho)⟩
      obtain ⟨s, b1, b2, b3⟩ := gP_some q hn
      refine h2 G0 H0 Z Γ σ G H G H _ s s1 R (Ext.refl R.gh) b1 b2 b3 hn.1 fun v pk => ?_
      obtain ⟨F1, P⟩ := pk G H (Ext.refl R.gh)
      exact k G H v F1 R.end P.hd fun a y => ⟨(P.fr a y).1, (P.fr a y).2.1, (P.fr a y).2.2.1⟩
    · cases hf
def sRetEN (sx : Sx) : Sm := fun Γ => (sx Γ).bind fun s => some (.ro s)
theorem s_retEN (he : EN X e sx) : S X (.Return (some e) pos) (sRetEN sx) := by
  obtain ⟨t, h1, h2⟩ := he.ex
  refine ⟨⟨_, ps_ret h1, fun G0 H0 Z Γ σ G H D r R hf k => ?_⟩⟩
  obtain ⟨s, e1, hf⟩ := obind hf
  cases hf
  exact h2 G0 H0 Z Γ σ G H _ s R e1 fun G1 H1 v F x1 hd hF => k G1 H1 v F (R.ext x1).end hd fun a y => ⟨(hF a y).1, R.hf (hF a y).2.1, (hF a y).2.2⟩
/-- the promise: something new -/
def spN (K : PySem.W.Frag) (mg : Str → Option Value) (n : Nat) (F : List D → Option Sl) : Sp := fun vs H Q _ =>
  ∃ G ds s, vs.length = n ∧ Same G H ∧ TC.ti.t G H ∧ RepL K mg G vs ds ∧ F ds = some s ∧ ∀ G' H' v F', Ext G H G' H' → Hd K mg G' H' v F' s → (∀ a, F' a → G' a = none ∧ H a = none ∧ H' a ≠ none) → Q v H'
def runN (n : Nat) (B : Sm) : List D → Option Sl := fun ds => (B (ds.map Sl.sh ++ List.replicate (n - ds.length) .no)).bind fun r => match r with
  | .rt d => some (.sh d)
  | .ro s => some s
  | .nx _ => some (.sh .non)
  | _ => none
structure CalN (P : Program) (w : World) (K : PySem.W.Frag) (mg : Str → Option Value) (base : Heap) (x : Str) (L : Nat) (ps : List Str) (S : List D → Option Sl) : Prop where
  ex : ∃ f fd, FnOk P w K mg base CX0 L f fd ps (spN K mg ps.length S) ∧ mg x = some (.ref f) ∧ PySem.W.keepIn K (.ref f) = true ∧ Binds K fd ps []
def gCallN (S : List D → Option Sl) (fs : Ag) : Sx := fun Γ => (fs Γ).bind S
theorem e_callN {k L : Nat} {ps : List Str} {S : List D → Option Sl} {x : Str} {p : Pos} (c : CalN X.prog X.w X.K X.mg X.base x L ps S) (hr : Room k X.A) (hk : L ≤ k)
    (ha : AN X (a :: es) ps.length fs) (hg : Gl X x := by rfl) (hdb : (x == ("__debug__" : Str)) = false := by decide) (he : starEach (a :: es) X.env = (false, eval a X.env) :: starEach es X.env := by rfl) (hpl : (backTo pos (starEach es X.env)).any (·.1) = false := by rfl) :
    EN X (.Call (.Name x p) (a :: es) [] pos) (gCallN S fs) := by
  obtain ⟨f, fd, f1, f2, f3, f4⟩ := c.ex
  obtain ⟨t, h1, h2⟩ := ha.a.ex
  refine ⟨⟨_, pe_call f1 (hr.mono hk) hg f2 f3 f4 .nil pass0 h1 hdb he hpl, fun G0 H0 Z Γ σ G H Q s R hf k => ?_⟩⟩
  obtain ⟨ds, e1, hf⟩ := obind hf
  refine h2 G0 H0 Z Γ σ G H _ _ R e1 fun G1 H1 vs x1 r1 => ?_
  refine ⟨G1, ds, s, ?_, x1.gh, (R.ext x1).tbc, ?_, hf, fun G' H' v F x2 r2 f2 => k G' H' v F (x1.trans x2) r2 fun b y => ?_⟩
  · rw [List.append_nil, r1.length, ha.n Γ ds e1]
  · rw [List.append_nil]; exact r1
  · obtain ⟨w1, w2, w3⟩ := f2 b y
    exact ⟨w1, x1.hf w2, w3⟩
end
section
variable {P : Program} {w : World} {K : PySem.W.Frag} {mg : Str → Option Value} {base : Heap}
theorem def_okN {x qual : Str} {st : Stmt} {f : Addr} {fd : FuncData} {N ps : List Str} {k : Nat} {B : Sm} (F : Fun K x qual st f fd) (S : FnScope N ps (defScope st))
    (hbody : ∀ (cdv : Value) (A : Around) (outer : List PySem.Env) (s : Shared) (H : Hp) (E : XK), Room k (A.deeper (PyProof.Rows.envOfC qual (defScope st) s.heap.objs.size f cdv)) →
      Ss (cxOf CX0 P w K mg base N qual (defScope st) f cdv A outer s H E).nox (defBody st) B) : FnOk P w K mg base CX0 (k + 1) f fd ps (spN K mg ps.length (runN N.length B)) := by
  refine F.ok S (fun vs H Q E h => ?_) (fun cdv A outer s H vs Q E hr h => ?_)
  · obtain ⟨G, ds, d, hl, _⟩ := h
    exact hl
  · obtain ⟨G, ds, sl, hl, gh, tb, r, hf, k'⟩ := h
    obtain ⟨t, h1, h2⟩ := (hbody cdv A outer s H E hr).ex
    refine ⟨t, h1, ?_⟩
    obtain ⟨r1, e1, hf⟩ := obind hf
    refine h2 G H _ _ _ G H _ r1 (start_rel gh tb r) e1 ?_
    cases r1 with
    | rt d' => cases hf; exact fun G' H' v x r => k' G' H' v (fun _ => False) x (.sh r) fun _ z => z.elim
    | ro s' => cases hf; exact fun G' H' v F' x h f => k' G' H' v F' x h f
    | nx Γ => cases hf; exact fun σ' G' H' R => k' G' H' _ (fun _ => False) R.end (.sh .non) fun _ z => z.elim
    | rm d s => cases hf
    | bk Γ => cases hf
    | ct Γ => cases hf
    | ra n => cases hf
end
end DL

namespace DL
open PySem PySem.Spec PyProof.Rows L2
variable [TC : TabCtx]

/-! ### del xs[a:] of a list -/
theorem keep_take {α : Type} (p : Nat → Bool) (a : Nat) : ∀ (xs : List α) (m : Nat), (∀ k, m ≤ k → k < m + xs.length → p k = decide (a ≤ k)) → (xs.zipIdx m).filterMap (fun t : α × Nat => if p t.2 = true then none else some t.1) = xs.take (a - m)
  | [], m, _ => by simp
  | x :: xs, m, h => by
    rw [List.zipIdx_cons, List.filterMap_cons]
    have h0 := h m (Nat.le_refl _) (by simp)
    have ih := keep_take p a xs (m + 1) fun k h1 h2 => h k (by omega) (by simp at h2 ⊢; omega)
    by_cases e : a ≤ m
    · have e1 : p m = true := by rw [h0]; exact decide_eq_true e
      rw [e1]
      have z : a - m = 0 := by omega
      have z1 : a - (m + 1) = 0 := by omega
      rw [z1] at ih
      simp [z, ih]
    · have e1 : p m = false := by rw [h0]; exact decide_eq_false e
      rw [e1]
      have z : a - m = (a - (m + 1)) + 1 := by omega
      rw [z, List.take_succ_cons]
      simp [ih]
section
variable {prog : Program} {w : World} {A : Around} {E : Value → Shared → Prop} {s : Shared}
theorem bounds_from {a n : Nat} (h : a ≤ n) : sliceBounds (some (a : Int)) none none n = ((a : Int), (n : Int), 1) := by
  simp only [sliceBounds, Option.getD_none]
  have h1 : ¬ ((a : Int) < 0) := by omega
  simp only [h1, if_false, show (1 : Int) > 0 by decide, if_true]
  congr 1
  omega
theorem delItem_from {l sl : Addr} {items : Array Value} {n : Nat} {vl : Value} {a : Nat} {Q : Unit → Shared → Prop}
    (e : s.heap.get? l = some { cls := .type "list", data := .seq items n }) (hs : s.heap.IsSliceOf sl vl .none .none) (pl : IsPart vl (some (a : Int))) (ha : a ≤ items.size)
    (hsz : items.size ≤ sizeLine) (h : ∀ f : Array Value → Array Value, f items = items.extract 0 a → Q () { s with heap := s.heap.update l (Obj.mapSeq f) }) :
    wpAny (model prog w) A (delItem (.ref l) (.ref sl)) Q E s := by
  have hl : s.heap.IsList l items := PySem.IsL.isList e
  obtain ⟨os, hos, hcs, hds⟩ := id hs
  have hTs : s.TypeIs (.ref sl) "slice" := ⟨os, hos, hcs⟩
  have hstep : ¬ ((rawPart none == rawInt 0) = true) := Bool.false_ne_true
  refine wpAny_delItem_slot hl.typeIs (by decide) PySem.F.slot_list_delitem (wpAny_call_entry PySem.F.slot_list_delitem hl.typeIs PySem.F.entry_list_delitem ?_ (PySem.F.args_list_delitem_2 _ _))
  show wpAny _ _ (Builtin.List.listSubscript? (.ref sl) >>= _) _ _ s
  refine wpAny_bind ?_
  unfold Builtin.List.listSubscript?
  refine wpAny_bind (wpAny_specialOf hTs slice_no_index ?_)
  simp only [Option.isNone_none, if_true]
  refine wpAny_pure ?_
  show wpAny _ _ (typeOf (.ref sl) >>= _) _ _ s
  refine wpAny_bind (wpAny_typeOf hTs ?_)
  first
    | rw [if_neg (by decide)]
    | refine PySem.W.KFB.if_not (by decide) ?_
  rw [listSliceParts_eq]
  refine wpAny_bind (wpAny_bind (wpAny_field hos hds (x := .none) rfl (wpAny_bind (wpAny_listPart .none ?_))))
  rw [if_neg hstep]
  refine wpAny_bind (wpAny_field hos hds (x := vl) rfl (wpAny_bind (wpAny_listPart pl ?_)))
  refine wpAny_bind (wpAny_field hos hds (x := .none) rfl (wpAny_bind (wpAny_listPart .none (wpAny_pure ?_))))
  refine wpAny_bind ?_
  unfold Builtin.List.listItems
  refine wpAny_bind (wpAny_seqItems e rfl (wpAny_pure ?_))
  refine wpAny_bind (wpAny_of_eq ((sliceIndices_raw (some (a : Int)) none none items.size (by simp)).trans (congrArg (pure : Int × Int × Int → Sem (Int × Int × Int)) (bounds_from ha))) ?_)
  refine wpAny_bind (wpAny_rule ?_)
  have hf : (items.toList.zipIdx.filterMap fun (x, k) => if (if (1 : Int) > 0 then (decide ((a : Int) ≤ (k : Int)) && decide ((k : Int) < (items.size : Int)) && (((k : Int) - (a : Int)) % 1 == 0)) else (decide ((items.size : Int) < (k : Int)) && decide ((k : Int) ≤ (a : Int)) && (((a : Int) - (k : Int)) % (-1) == 0))) = true then none else some x).toArray = items.extract 0 a := by
    have := keep_take (α := Value) (fun k => if (1 : Int) > 0 then (decide ((a : Int) ≤ (k : Int)) && decide ((k : Int) < (items.size : Int)) && (((k : Int) - (a : Int)) % 1 == 0)) else (decide ((items.size : Int) < (k : Int)) && decide ((k : Int) ≤ (a : Int)) && (((a : Int) - (k : Int)) % (-1) == 0))) a items.toList 0 fun k h1 h2 => by
      have h3 : (k : Int) < items.size := by simp at h2; omega
      simp [h3, Int.emod_one]
    rw [Nat.sub_zero] at this
    refine (congrArg List.toArray this).trans ?_
    apply Array.toList_inj.mp
    simp
  refine wpAny_bind (wpAny_updateSeq (hz := hsz) (_hz' := ?_) e rfl ?_)
  rotate_left
  · show (List.toArray _).size ≤ _
    have h2 := congrArg Array.size hf
    rw [Array.size_extract] at h2
    refine Nat.le_trans (Nat.le_of_eq h2) ?_
    omega
  refine wpAny_bind (wpAny_letGo ?_)
  first
    | exact wpAny_pure ⟨.none, rfl, h _ hf⟩
    | exact wpAny_pure (h _ hf)
    | exact ⟨.none, rfl, h _ hf⟩
end
section
variable {X : Cx}
theorem del_from {pins : List (Addr × Obj)} {s : Shared} {σ : L2.St} {H : Hp} {l sl : Addr} {xs : List V} {a : Nat} {vl : Value} {Q : Unit → Shared → Prop} (I : Inv X pins σ H s) (hH : H l = some (.lst xs))
    (hs : s.heap.IsSliceOf sl vl .none .none) (pl : RelV (.int a) vl) (ha : a ≤ xs.length) (h : ∀ s', Inv X pins σ (upd H l (.lst (xs.take a))) s' → Q () s') :
    wpAny (model X.prog X.w) X.A (delItem (.ref l) (.ref sl)) Q X.xe s := by
  obtain ⟨ta, rfl⟩ := pl
  obtain ⟨z, its, n, r, hl, e⟩ := I.lstM hH
  refine delItem_from (a := a) e hs (.int _ _) (by rw [List.size_toArray]; omega) (by rw [List.size_toArray]; omega) fun f hf => h _ ?_
  refine I.lset (its' := its.take a) (t' := s.toks) hH e ?_ (r.take a) ?_
  · rw [hf]
    apply Array.toList_inj.mp
    simp
  · rw [List.length_take]; omega
def tDelF (to ti : TE) : TS := fun D σ H => to σ H fun x H1 => ti σ H1 fun y H2 => ∃ (l : Addr) (xs : List V) (k : Nat), x = .ref l ∧ y = .int k ∧ H2 l = some (.lst xs) ∧ k ≤ xs.length ∧ D.nx σ (upd H2 l (.lst (xs.take k)))
theorem ps_delF {o i : Expr} {to ti : TE} {tpos sp pos : Pos} (ho : PE X o to) (hi : PE X i ti) : PS X (.Delete [.Subscript o (.Slice (some i) none none sp) tpos] pos) (tDelF to ti) := by
  refine ⟨fun pins s σ H D I h => ?_⟩
  refine wpAny_Delete (wpAny_deleteEach_cons (wpAny_delete_Subscript (thn (ho.run pins s σ H _ I h) fun u s1 ⟨x, H1, I1, rx, q1⟩ => ?_)))
  refine wpAny_Slice (thn (hi.run pins s1 σ H1 _ I1 q1) fun vl s2 ⟨l, H2, I2, pl, q2⟩ => ?_)
  rw [evalPart_none]
  refine wpAny_pure (wpAny_pure ?_)
  have I4 : Inv X pins σ H2 { s2 with heap := s2.heap.push { cls := .type "slice", data := .fields #[vl, .none, .none] } } := I2.kept (t' := s2.toks) fun b ob q => Heap.get?_push_of_some _ q
  obtain ⟨l', xs, k, rfl, rfl, hH, hk, q3⟩ := q2
  cases rx
  exact del_from I4 hH (Heap.IsSliceOf.new ..) pl hk fun s3 I3 => wpAny_deleteEach_nil ⟨σ, _, I3, q3⟩
end
end DL

namespace DL
open PySem L2
variable [TC : TabCtx]

/-! ### arguments that are only looked at -/
inductive RepM (K : PySem.W.Frag) (mg : Str → Option Value) (G H : Hp) : List Bool → List V → List D → Prop
  | nil : RepM K mg G H [] [] []
  | sh {ms : List Bool} {v : V} {vs : List V} {d : D} {ds : List D} (h : Rep K mg G v d) (r : RepM K mg G H ms vs ds) : RepM K mg G H (false :: ms) (v :: vs) (d :: ds)
  | bo {ms : List Bool} {v : V} {vs : List V} {d : D} {ds : List D} (h : RepB K mg G H v d) (r : RepM K mg G H ms vs ds) : RepM K mg G H (true :: ms) (v :: vs) (d :: ds)
def mkS : Bool → D → Sl
  | true, d => .bo d
  | false, d => .sh d
def slM : List Bool → List D → List Sl
  | m :: ms, d :: ds => mkS m d :: slM ms ds
  | _, _ => []
section
variable {K : PySem.W.Frag} {mg : Str → Option Value} {G H G' H' : Hp}
theorem RepM.ext (e : Ext G H G' H') : ∀ {ms : List Bool} {vs : List V} {ds : List D}, RepM K mg G H ms vs ds → RepM K mg G' H' ms vs ds
  | _, _, _, .nil => .nil
  | _, _, _, .sh h r => .sh (h.mono e.gg) (r.ext e)
  | _, _, _, .bo h r => .bo (h.ext e) (r.ext e)
theorem RepM.len : ∀ {ms : List Bool} {vs : List V} {ds : List D}, RepM K mg G H ms vs ds → vs.length = ms.length ∧ ds.length = ms.length
  | _, _, _, .nil => ⟨rfl, rfl⟩
  | _, _, _, .sh _ r => by have := r.len; simp [this.1, this.2]
  | _, _, _, .bo _ r => by have := r.len; simp [this.1, this.2]
theorem RepM.get : ∀ {ms : List Bool} {vs : List V} {ds : List D} (i : Nat) {s : Sl}, RepM K mg G H ms vs ds → (slM ms ds)[i]? = some s → ∃ v d, vs[i]? = some v ∧ ((s = .sh d ∧ Rep K mg G v d) ∨ (s = .bo d ∧ RepB K mg G H v d))
  | _, _, _, _, _, .nil, e => by simp [slM] at e
  | _, _, _, 0, _, .sh h _, e => by simp [slM, mkS] at e; subst e; exact ⟨_, _, rfl, .inl ⟨rfl, h⟩⟩
  | _, _, _, 0, _, .bo h _, e => by simp [slM, mkS] at e; subst e; exact ⟨_, _, rfl, .inr ⟨rfl, h⟩⟩
  | _, _, _, i + 1, _, .sh _ r, e => by
    obtain ⟨v, d, h1, h2⟩ := r.get i (by simpa [slM] using e)
    exact ⟨v, d, by simpa using h1, h2⟩
  | _, _, _, i + 1, _, .bo _ r, e => by
    obtain ⟨v, d, h1, h2⟩ := r.get i (by simpa [slM] using e)
    exact ⟨v, d, by simpa using h1, h2⟩
theorem slM_len : ∀ {ms : List Bool} {ds : List D}, ds.length = ms.length → (slM ms ds).length = ms.length
  | [], [], _ => rfl
  | _ :: _, _ :: _, h => by simp [slM, slM_len (Nat.succ.inj h)]
  | [], _ :: _, h => by simp at h
  | _ :: _, [], h => by simp at h
end
def runK (ms : List Bool) (n : Nat) (F : Sm) : List D → Option D := fun ds => (F (slM ms ds ++ List.replicate (n - ms.length) .no)).bind fun r => match r with
  | .rt d => some d
  | .nx _ => some .non
  | _ => none
def spK (K : PySem.W.Frag) (mg : Str → Option Value) (ms : List Bool) (F : List D → Option D) : Sp := fun vs H Q _ =>
  ∃ G ds d, Same G H ∧ TC.ti.t G H ∧ RepM K mg G H ms vs ds ∧ F ds = some d ∧ ∀ G' H' v, Ext G H G' H' → Rep K mg G' v d → Q v H'
theorem startK_rel {K : PySem.W.Frag} {mg : Str → Option Value} {G H : Hp} {N : List Str} {ms : List Bool} {vs : List V} {ds : List D} (gh : Same G H) (tb : TC.ti.t G H) (r : RepM K mg G H ms vs ds) : Rel K mg G H ⟨TC.ti.tz, none, TC.ti⟩ (slM ms ds ++ List.replicate (N.length - ms.length) .no) (L2.start N vs) G H := by
  obtain ⟨hv, hd⟩ := r.len
  have hl := slM_len hd
  unfold L2.start
  refine ⟨by simp [hl, hv], gh, same_n (Same.refl _), Same.refl _, fun a h => .inl h, fun a z => (TC.ti.live tb a z).1, fun _ _ z => (by cases z), tb, fun _ h => h, rfl, fun _ h => h, fun _ _ => False, fun _ _ z => z.elim, fun _ _ _ z => z.elim, fun i s h => ?_⟩
  by_cases hi : i < ms.length
  · rw [List.getElem?_append_left (by omega)] at h
    obtain ⟨v, d, e1, e2⟩ := r.get i h
    have st : (vs.map some ++ List.replicate (N.length - vs.length) none)[i]? = some (some v) := by
      rw [List.getElem?_append_left (by simp; omega), List.getElem?_map, e1]
      rfl
    rcases e2 with ⟨rfl, e2⟩ | ⟨rfl, e2⟩
    · exact .inr (.inl ⟨v, st, .sh e2⟩)
    · exact .inr (.inr ⟨v, d, rfl, st, e2⟩)
  · rw [List.getElem?_append_right (by omega), List.getElem?_replicate] at h
    split at h
    · cases h; exact .inl rfl
    · cases h
section
variable {P : Program} {w : World} {K : PySem.W.Frag} {mg : Str → Option Value} {base : Heap}
theorem def_okK {x qual : Str} {st : Stmt} {f : Addr} {fd : FuncData} {N ps : List Str} {k : Nat} {B : Sm} {ms : List Bool} (F : Fun K x qual st f fd) (S : FnScope N ps (defScope st)) (hms : ms.length = ps.length)
    (hbody : ∀ (cdv : Value) (A : Around) (outer : List PySem.Env) (s : Shared) (H : Hp) (E : XK), Room k (A.deeper (PyProof.Rows.envOfC qual (defScope st) s.heap.objs.size f cdv)) →
      Ss (cxOf CX0 P w K mg base N qual (defScope st) f cdv A outer s H E).nox (defBody st) B) : FnOk P w K mg base CX0 (k + 1) f fd ps (spK K mg ms (runK ms N.length B)) := by
  refine F.ok S (fun vs H Q E h => ?_) (fun cdv A outer s H vs Q E hr h => ?_)
  · obtain ⟨G, ds, d, gh, _, r, _⟩ := h
    rw [r.len.1, hms]
  · obtain ⟨G, ds, d, gh, tb, r, hf, k'⟩ := h
    obtain ⟨t, h1, h2⟩ := (hbody cdv A outer s H E hr).ex
    refine ⟨t, h1, ?_⟩
    obtain ⟨r1, e1, hf⟩ := obind hf
    refine h2 G H _ _ _ G H _ r1 (startK_rel gh tb r) e1 ?_
    cases r1 with
    | rt d' => cases hf; exact fun G' H' v x r => k' G' H' v x r
    | nx Γ => cases hf; exact fun σ' G' H' R => k' G' H' _ R.end .non
    | rm d s => cases hf
    | ro s => cases hf
    | bk Γ => cases hf
    | ct Γ => cases hf
    | ra n => cases hf
end
structure CalK (P : Program) (w : World) (K : PySem.W.Frag) (mg : Str → Option Value) (base : Heap) (x : Str) (L : Nat) (ps : List Str) (ms : List Bool) (S : List D → Option D) : Prop where
  ex : ∃ f fd, FnOk P w K mg base CX0 L f fd ps (spK K mg ms S) ∧ mg x = some (.ref f) ∧ PySem.W.keepIn K (.ref f) = true ∧ Binds K fd ps []
structure MetK (P : Program) (w : World) (K : PySem.W.Frag) (mg : Str → Option Value) (base : Heap) (c : Nat) (m : Str) (L : Nat) (ps : List Str) (ms : List Bool) (S : List D → Option D) : Prop where
  ex : ∃ C f fd, CK K mg c C ∧ Meth K C m f ∧ FnOk P w K mg base CX0 L f fd ps (spK K mg ms S) ∧ Binds K fd ps []
structure AM (X : Cx) (es : List Expr) (ms : List Bool) (f : Ag) : Prop where
  ex : ∃ t, PA X es t ∧ ∀ G0 H0 Z Γ σ G H Q ds, Rel X.K X.mg G0 H0 Z Γ σ G H → f Γ = some ds → (∀ G' H' vs, Ext G H G' H' → RepM X.K X.mg G' H' ms vs ds → Q vs H') → t σ H Q
section
variable {X : Cx} {e a b o : Expr} {es : List Expr} {f g : Ex} {fs : Ag} {pos : Pos} {ms : List Bool}
theorem m_nil : AM X [] [] aN := ⟨⟨_, pa_nil, fun G0 H0 Z Γ σ G H Q ds R hf k => by cases hf; exact k G H _ (Ext.refl R.gh) .nil⟩⟩
theorem m_sh (he : E X e f) (hr : AM X es ms fs) (hs : starEach (e :: es) X.env = (false, eval e X.env) :: starEach es X.env := by rfl) : AM X (e :: es) (false :: ms) (aC f fs) := by
  obtain ⟨t, h1, h2⟩ := he.ex
  obtain ⟨u, q1, q2⟩ := hr.ex
  refine ⟨⟨_, pa_cons h1 q1 hs, fun G0 H0 Z Γ σ G H Q ds R hf k => ?_⟩⟩
  obtain ⟨d, e1, hf⟩ := obind hf
  obtain ⟨ds', e2, hf⟩ := obind hf
  cases hf
  refine h2 G0 H0 Z Γ σ G H _ d R e1 fun G1 H1 v x1 r1 => ?_
  refine q2 G0 H0 Z Γ σ G1 H1 _ ds' (R.ext x1) e2 fun G2 H2 vs x2 r2 => ?_
  exact k G2 H2 _ (x1.trans x2) (.sh (r1.mono x2.gg) r2)
theorem m_bo (he : B X e f) (hr : AM X es ms fs) (hs : starEach (e :: es) X.env = (false, eval e X.env) :: starEach es X.env := by rfl) : AM X (e :: es) (true :: ms) (aC f fs) := by
  obtain ⟨t, h1, h2⟩ := he.ex
  obtain ⟨u, q1, q2⟩ := hr.ex
  refine ⟨⟨_, pa_cons h1 q1 hs, fun G0 H0 Z Γ σ G H Q ds R hf k => ?_⟩⟩
  obtain ⟨d, e1, hf⟩ := obind hf
  obtain ⟨ds', e2, hf⟩ := obind hf
  cases hf
  refine h2 G0 H0 Z Γ σ G H _ d R e1 fun G1 H1 v x1 r1 => ?_
  refine q2 G0 H0 Z Γ σ G1 H1 _ ds' (R.ext x1) e2 fun G2 H2 vs x2 r2 => ?_
  exact k G2 H2 _ (x1.trans x2) (.bo (r1.ext x2) r2)
theorem e_callK {k L : Nat} {ps : List Str} {S : List D → Option D} {x : Str} {p : Pos} (c : CalK X.prog X.w X.K X.mg X.base x L ps ms S) (hr : Room k X.A) (hk : L ≤ k)
    (ha : AM X (a :: es) ms fs) (hg : Gl X x := by rfl) (hdb : (x == ("__debug__" : Str)) = false := by decide) (he : starEach (a :: es) X.env = (false, eval a X.env) :: starEach es X.env := by rfl) (hpl : (backTo pos (starEach es X.env)).any (·.1) = false := by rfl) :
    E X (.Call (.Name x p) (a :: es) [] pos) (gCall S fs) := by
  obtain ⟨f, fd, f1, f2, f3, f4⟩ := c.ex
  obtain ⟨t, h1, h2⟩ := ha.ex
  refine ⟨⟨_, pe_call f1 (hr.mono hk) hg f2 f3 f4 .nil pass0 h1 hdb he hpl, fun G0 H0 Z Γ σ G H Q d R hf k => ?_⟩⟩
  obtain ⟨ds, e1, hf⟩ := obind hf
  refine h2 G0 H0 Z Γ σ G H _ _ R e1 fun G1 H1 vs x1 r1 => ?_
  refine ⟨G1, ds, d, x1.gh, (R.ext x1).tbc, ?_, hf, fun G' H' v x2 r2 => k G' H' v (x1.trans x2) r2⟩
  rw [List.append_nil]; exact r1
/-- the object that a value is, where it is only looked at -/
theorem RepB.objAt {K : PySem.W.Frag} {mg : Str → Option Value} {G H : Hp} {v : V} {c : Nat} {ds : List D} (gh : Same G H) (r : RepB K mg G H v (.obj c ds)) : ∃ p C dx vs, v = .ref p ∧ mg (cN c) = some (.ref C) ∧ H p = some (.ins C dx ((cF c).zip vs)) ∧ RepBL K mg G H (vs.take ds.length) ds := by
  cases r with
  | sh r => cases r with
    | obj hm h r => exact ⟨_, _, _, _, rfl, hm, gh _ _ h, r.bo⟩
  | obj hm h r => exact ⟨_, _, _, _, rfl, hm, h, r⟩
theorem e_metK {pl : Sem Bool} {c k L : Nat} {ps : List Str} {S : List D → Option D} {m : Str} {apos : Pos} (mt : MetK X.prog X.w X.K X.mg X.base c m L ps (true :: ms) S) (hr : Room k X.A) (hk : L ≤ k)
    (ho : B X o f) (ha : AM X (a :: es) ms fs) (hno : m ∉ cF c := by decide +kernel)
    (hst : starEach (a :: es) X.env = (false, eval a X.env) :: starEach es X.env := by rfl) (hpl : (backTo pos (starEach es X.env)).any (·.1) = false := by rfl)
    (ht : eval (.Call (.Attribute o m apos) (a :: es) [] pos) X.env = (do
      let ov ← eval o X.env
      standAt apos.atName
      let (f, first) ← holding [ov] (getMethod ov m pl)
      callWith pos f first (backTo pos (starEach (a :: es) X.env)) (backToKw pos (keywordEach [] X.env))) := by rfl) : E X (.Call (.Attribute o m apos) (a :: es) [] pos) (gMeth c S f fs) := by
  obtain ⟨C, fa, fd, ck, hme, FO, hb⟩ := mt.ex
  obtain ⟨t, h1, h2⟩ := ha.ex
  obtain ⟨u, q1, q2⟩ := ho.ex
  refine ⟨⟨_, pe_meth q1 ck.cl hme FO (hr.mono hk) hb .nil pass0 h1 hst hpl ht, fun G0 H0 Z Γ σ G H Q d R hf k => ?_⟩⟩
  obtain ⟨y, e1, hv⟩ := obind hf
  cases y with
  | obj c' vs' =>
    replace hv : (if c' = c then (fs Γ).bind fun ds => S (.obj c' vs' :: ds) else none) = some d := hv
    split at hv
    · rename_i cz
      subst cz
      obtain ⟨ds, e2, hv⟩ := obind hv
      refine q2 G0 H0 Z Γ σ G H _ _ R e1 fun G1 H1 v x1 r1 => ?_
      obtain ⟨p, C', dx, ws, rfl, hm', hp, _⟩ := r1.objAt x1.gh
      rw [ck.hm] at hm'
      cases hm'
      refine ⟨_, _, _, rfl, hp, zip_lookup_none hno, ?_⟩
      refine h2 G0 H0 Z Γ σ G1 H1 _ _ (R.ext x1) e2 fun G2 H2 vs x2 r2 => ?_
      exact ⟨G2, _, d, x2.gh, ((R.ext x1).ext x2).tbc, .bo (r1.ext x2) (by rw [List.append_nil]; exact r2), hv, fun G' H' v x3 r3 => k G' H' v ((x1.trans x2).trans x3) r3⟩
    · cases hv
  | _ => cases hv
theorem e_metK0 {pl : Sem Bool} {c k L : Nat} {ps : List Str} {S : List D → Option D} {m : Str} {apos : Pos} (mt : MetK X.prog X.w X.K X.mg X.base c m L ps [true] S) (hr : Room k X.A) (hk : L ≤ k)
    (ho : B X o f) (hno : m ∉ cF c := by decide +kernel)
    (ht : eval (.Call (.Attribute o m apos) [] [] pos) X.env = (do
      let ov ← eval o X.env
      standAt apos.atName
      let (f, first) ← holding [ov] (getMethod ov m pl)
      callWith pos f first (backTo pos (starEach [] X.env)) (backToKw pos (keywordEach [] X.env))) := by rfl) : E X (.Call (.Attribute o m apos) [] [] pos) (gMeth c S f aN) := by
  obtain ⟨C, fa, fd, ck, hme, FO, hb⟩ := mt.ex
  obtain ⟨u, q1, q2⟩ := ho.ex
  refine ⟨⟨_, pe_meth0 q1 ck.cl hme FO (hr.mono hk) hb .nil pass0 ht, fun G0 H0 Z Γ σ G H Q d R hf k => ?_⟩⟩
  obtain ⟨y, e1, hv⟩ := obind hf
  cases y with
  | obj c' vs' =>
    replace hv : (if c' = c then (aN Γ).bind fun ds => S (.obj c' vs' :: ds) else none) = some d := hv
    split at hv
    · rename_i cz
      subst cz
      obtain ⟨ds, e2, hv⟩ := obind hv
      cases e2
      refine q2 G0 H0 Z Γ σ G H _ _ R e1 fun G1 H1 v x1 r1 => ?_
      obtain ⟨p, C', dx, ws, rfl, hm', hp, _⟩ := r1.objAt x1.gh
      rw [ck.hm] at hm'
      cases hm'
      refine ⟨_, _, _, rfl, hp, zip_lookup_none hno, ?_⟩
      exact ⟨G1, _, d, x1.gh, (R.ext x1).tbc, .bo r1 .nil, hv, fun G' H' v x3 r3 => k G' H' v (x1.trans x3) r3⟩
    · cases hv
  | _ => cases hv
/-- o.f of what is only looked at -/
theorem b_fld {c j : Nat} {C : Addr} {x : Str} (ck : CK X.K X.mg c C) (he : B X o f) (hj : (cF c)[j]? = some x := by rfl) (nd : (cF c).Nodup := by decide +kernel) (hb : attributeBase o x X.env (eval o X.env) = eval o X.env := by rfl) : B X (.Attribute o x pos) (gU (dFld c j) f) := by
  obtain ⟨t, h1, h2⟩ := he.ex
  refine ⟨⟨_, pe_fld h1 hb, fun G0 H0 Z Γ σ G H Q d R hf k => ?_⟩⟩
  obtain ⟨y, e1, hv⟩ := obind hf
  cases y with
  | obj c' vs =>
    replace hv : (if c' = c then vs[j]? else none) = some d := hv
    split at hv
    · rename_i cz
      subst cz
      refine h2 G0 H0 Z Γ σ G H _ _ R e1 fun G1 H1 v x1 r1 => ?_
      obtain ⟨p, C', dx, ws, rfl, hm', hp, rl⟩ := r1.objAt x1.gh
      rw [ck.hm] at hm'
      cases hm'
      obtain ⟨w, g1, g2⟩ := rl.getT j hv
      exact ⟨_, _, _, _, w, rfl, hp, ck.cl, ck.na x (List.mem_of_getElem? hj), zip_lookup nd hj g1, k G1 H1 w x1 g2⟩
    · cases hv
  | _ => cases hv
/-- neither a list nor an object: nothing can be changed in it -/
def isIm : D → Bool
  | .lst _ => false
  | .obj _ _ => false
  | .dic _ _ => false
  | .lls _ => false
  | .exc _ _ _ => false
  | _ => true
def gIm (f : Ex) : Ex := fun Γ => (f Γ).bind fun d => if isIm d then some d else none
theorem B.im (h : B X e f) : E X e (gIm f) := by
  obtain ⟨t, h1, h2⟩ := h.ex
  refine ⟨⟨t, h1, fun G0 H0 Z Γ σ G H Q d R hf k => ?_⟩⟩
  obtain ⟨y, e1, hv⟩ := obind hf
  split at hv
  · rename_i hi
    cases hv
    refine h2 G0 H0 Z Γ σ G H Q _ R e1 fun G1 H1 v x1 r1 => k G1 H1 v x1 ?_
    refine r1.flat (fun xs z => ?_) (fun c xs z => ?_) (fun ks xs z => ?_) fun xs z => ?_
    · subst z; cases hi
    · subst z; cases hi
    · subst z; cases hi
    · subst z; cases hi
  · cases hv
end

/-! ### calls that change a place of one's own -/
/-- an expression that changes slots' places (not the slots) and gives a datum -/
abbrev Mx := DEnv → Option (D × DEnv)
structure EM (X : Cx) (e : Expr) (f : Mx) : Prop where
  ex : ∃ t, PE X e t ∧ ∀ G0 H0 Z Γ σ G H Q d Γ', Rel X.K X.mg G0 H0 Z Γ σ G H → f Γ = some (d, Γ') → (∀ G' H' v, Rel X.K X.mg G0 H0 Z Γ' σ G' H' → Rep X.K X.mg G' v d → Q v H') → t σ H Q
structure CalM (P : Program) (w : World) (K : PySem.W.Frag) (mg : Str → Option Value) (base : Heap) (x : Str) (L : Nat) (ps : List Str) (S : Sl → List D → Option (D × Sl)) : Prop where
  ex : ∃ f fd n, ps.length = n + 1 ∧ FnOk P w K mg base CX0 L f fd ps (spM K mg n S) ∧ mg x = some (.ref f) ∧ PySem.W.keepIn K (.ref f) = true ∧ Binds K fd ps []
structure MetM (P : Program) (w : World) (K : PySem.W.Frag) (mg : Str → Option Value) (base : Heap) (c : Nat) (m : Str) (L : Nat) (ps : List Str) (S : Sl → List D → Option (D × Sl)) : Prop where
  ex : ∃ C f fd n, ps.length = n + 1 ∧ CK K mg c C ∧ Meth K C m f ∧ FnOk P w K mg base CX0 L f fd ps (spM K mg n S) ∧ Binds K fd ps []
/-- place i rp is changed by S -/
def gCM (i : Nat) (rp : Pth) (S : Sl → List D → Option (D × Sl)) (fs : Ag) : Mx := fun Γ => match gP i rp Γ with
  | some s1 => if isOwn s1 then (fs Γ).bind fun ds => (S s1 ds).bind fun r => (Γ[i]?).bind fun s => (setR rp r.2 s).bind fun s2 => some (r.1, Γ.set i s2) else none
  | none => none
theorem gCM_some {i : Nat} {rp : Pth} {S : Sl → List D → Option (D × Sl)} {fs : Ag} {Γ Γ' : DEnv} {d : D} (h : gCM i rp S fs Γ = some (d, Γ')) :
    ∃ s s1 ds s1' s2, Γ[i]? = some s ∧ getR rp s = some s1 ∧ SlP s ∧ SlP s1 ∧ isOwn s1 = true ∧ fs Γ = some ds ∧ S s1 ds = some (d, s1') ∧ setR rp s1' s = some s2 ∧ Γ' = Γ.set i s2 := by
  unfold gCM at h
  cases q : gP i rp Γ with
  | none => rw [q] at h; cases h
  | some s1 =>
    rw [q] at h
    replace h : (if isOwn s1 then (fs Γ).bind fun ds => (S s1 ds).bind fun r => (Γ[i]?).bind fun s => (setR rp r.2 s).bind fun s2 => some (r.1, Γ.set i s2) else none) = some (d, Γ') := h
    split at h
    · rename_i ho
      obtain ⟨ds, e1, h⟩ := obind h
      obtain ⟨⟨d', s1'⟩, e2, h⟩ := obind h
      obtain ⟨s, e3, h⟩ := obind h
      obtain ⟨s2, e4, h⟩ := obind h
      cases h
      have hP : SlP s1 := ⟨(fun z => by subst z; cases ho), (fun d z => by subst z; cases ho)⟩
      obtain ⟨s', b1, b2, b3⟩ := gP_some q hP
      rw [e3] at b1
      cases b1
      exact ⟨s, s1, ds, s1', s2, e3, b2, b3, hP, ho, e1, e2, e4, rfl⟩
    · cases h
section
variable {X : Cx} {e a b o : Expr} {es : List Expr} {f g : Ex} {fs : Ag} {pos : Pos} {n i : Nat} {rp : Pth} {S : Sl → List D → Option (D × Sl)} {mx : Mx}
/-- the callee's promise at a place -/
theorem change_ok {G0 H0 G H Hb : Hp} {Z : Zs} {Γ : DEnv} {σ : L2.St} {n : Nat} {Q : VK} {E : XK} {s s1 s1' s2 : Sl} {v : V} {F1 : Addr → Prop} {vs : List V} {ds : List D} {d : D} (P : Pack X.K X.mg G0 H0 Z Γ σ i rp s s1 v F1 Hb G H) (gh : Same G H) (hb : ∀ a, Hb a ≠ none → H a ≠ none) (r : RepL X.K X.mg G vs ds) (hn : ds.length = n) (ho : isOwn s1 = true)
    (hS : S s1 ds = some (d, s1')) (es : setR rp s1' s = some s2) (k : ∀ G' H' u, Rel X.K X.mg G0 H0 Z (Γ.set i s2) σ G' H' → Rep X.K X.mg G' u d → Q u H') : spM X.K X.mg n S (v :: vs) H Q E := by
  refine ⟨v, vs, G, s1, ds, d, s1', F1, rfl, by rw [r.length, hn], gh, P.tb, P.hd, fun a y => ⟨(P.fr a y).1, (P.fr a y).2.2.1, P.ntz a y⟩, r, hS, fun G' H' u Fp' gg gh' tb' hn' nw keep rv hd' fr => k G' H' u ?_ rv⟩
  have free : ∀ a, H a = none → Hb a = none := fun a z => by
    cases q : Hb a with
    | none => rfl
    | some o => exact absurd z (hb a (by rw [q]; simp))
  refine P.upC G' H' Fp' s1' s2 gg gh' tb' hn' (fun a q => ?_) keep hd' (fun a y => ?_) (fun _ => ho) es
  · rcases nw a q with z | z | z
    · exact .inl z
    · exact .inr (.inl (free a z))
    · exact .inr (.inr z)
  · obtain ⟨w1, w2, w3⟩ := fr a y
    exact ⟨w1, w2, w3.elim .inl fun z => .inr (free a z)⟩
theorem em_call {k L : Nat} {ps : List Str} {x : Str} {p : Pos} (c : CalM X.prog X.w X.K X.mg X.base x L ps S) (hr : Room k X.A) (hk : L ≤ k) (hp : PL X o i rp)
    (ha : AN X es n fs) (hn : ps.length = n + 1 := by rfl) (hg : Gl X x := by rfl) (hdb : (x == ("__debug__" : Str)) = false := by decide) (he : starEach (o :: es) X.env = (false, eval o X.env) :: starEach es X.env := by rfl) (hpl : (backTo pos (starEach es X.env)).any (·.1) = false := by rfl) :
    EM X (.Call (.Name x p) (o :: es) [] pos) (gCM i rp S fs) := by
  obtain ⟨f, fd, n', f0, f1, f2, f3, f4⟩ := c.ex
  have : n' = n := by omega
  subst this
  obtain ⟨t, t1, t2⟩ := ha.a.ex
  obtain ⟨u, u1, u2⟩ := hp.ex
  refine ⟨⟨_, pe_call f1 (hr.mono hk) hg f2 f3 f4 .nil pass0 (pa_cons u1 t1 he) hdb he hpl, fun G0 H0 Z Γ σ G H Q d Γ' R hf k => ?_⟩⟩
  obtain ⟨s, s1, ds, s1', s2, b1, b2, b3, b4, ho, e1, hS, es', rfl⟩ := gCM_some hf
  refine u2 G0 H0 Z Γ σ G H G H _ s s1 R (Ext.refl R.gh) b1 b2 b3 b4.1 fun v pk => ?_
  refine t2 G0 H0 Z Γ σ G H _ ds R e1 fun G1 H1 vs x1 r1 => ?_
  obtain ⟨F1, P⟩ := pk G1 H1 x1
  rw [List.append_nil]
  exact change_ok (E := E0) P x1.gh x1.hn r1 (ha.n Γ ds e1) ho hS es' k
theorem em_met {pl : Sem Bool} {c k L : Nat} {ps : List Str} {m : Str} {apos : Pos} (mt : MetM X.prog X.w X.K X.mg X.base c m L ps S) (hr : Room k X.A) (hk : L ≤ k) (hp : PL X o i rp)
    (ha : AN X (a :: es) n fs) (hn : ps.length = n + 1 := by rfl) (hno : m ∉ cF c := by decide +kernel)
    (hst : starEach (a :: es) X.env = (false, eval a X.env) :: starEach es X.env := by rfl) (hpl : (backTo pos (starEach es X.env)).any (·.1) = false := by rfl)
    (ht : eval (.Call (.Attribute o m apos) (a :: es) [] pos) X.env = (do
      let ov ← eval o X.env
      standAt apos.atName
      let (f, first) ← holding [ov] (getMethod ov m pl)
      callWith pos f first (backTo pos (starEach (a :: es) X.env)) (backToKw pos (keywordEach [] X.env))) := by rfl) :
    EM X (.Call (.Attribute o m apos) (a :: es) [] pos) (fun Γ => match gP i rp Γ with | some (.ob c' _) => if c' = c then gCM i rp S fs Γ else none | _ => none) := by
  obtain ⟨C, fa, fd, n', f0, ck, hme, FO, hb⟩ := mt.ex
  have : n' = n := by omega
  subst this
  obtain ⟨t, t1, t2⟩ := ha.a.ex
  obtain ⟨u, u1, u2⟩ := hp.ex
  refine ⟨⟨_, pe_meth u1 ck.cl hme FO (hr.mono hk) hb .nil pass0 t1 hst hpl ht, fun G0 H0 Z Γ σ G H Q d Γ' R hf k => ?_⟩⟩
  cases q : gP i rp Γ with
  | none => rw [q] at hf; cases hf
  | some s0 =>
    rw [q] at hf
    cases s0 with
    | ob c' fls =>
      replace hf : (if c' = c then gCM i rp S fs Γ else none) = some (d, Γ') := hf
      split at hf
      · rename_i cz
        subst cz
        obtain ⟨s, s1, ds, s1', s2, b1, b2, b3, b4, ho, e1, hS, es', rfl⟩ := gCM_some hf
        have e0 : s1 = .ob c' fls := by
          unfold gP at q
          rw [b1] at q
          exact Option.some.inj (b2.symm.trans q)
        subst e0
        refine u2 G0 H0 Z Γ σ G H G H _ s _ R (Ext.refl R.gh) b1 b2 b3 b4.1 fun v pk => ?_
        obtain ⟨F0, P0⟩ := pk G H (Ext.refl R.gh)
        have hd := P0.hd
        cases hd with
        | ob ff hm hh nn sF rr =>
          rw [ck.hm] at hm
          cases hm
          refine ⟨_, _, _, rfl, hh, zip_lookup_none hno, ?_⟩
          refine t2 G0 H0 Z Γ σ G H _ ds R e1 fun G1 H1 vs x1 r1 => ?_
          obtain ⟨F1, P⟩ := pk G1 H1 x1
          rw [List.append_nil]
          exact change_ok (E := E0) P x1.gh x1.hn r1 (ha.n Γ ds e1) ho hS es' k
      · cases hf
    | _ => cases hf
theorem em_met0 {pl : Sem Bool} {c k L : Nat} {ps : List Str} {m : Str} {apos : Pos} (mt : MetM X.prog X.w X.K X.mg X.base c m L ps S) (hr : Room k X.A) (hk : L ≤ k) (hp : PL X o i rp)
    (hn : ps.length = 1 := by rfl) (hno : m ∉ cF c := by decide +kernel)
    (ht : eval (.Call (.Attribute o m apos) [] [] pos) X.env = (do
      let ov ← eval o X.env
      standAt apos.atName
      let (f, first) ← holding [ov] (getMethod ov m pl)
      callWith pos f first (backTo pos (starEach [] X.env)) (backToKw pos (keywordEach [] X.env))) := by rfl) :
    EM X (.Call (.Attribute o m apos) [] [] pos) (fun Γ => match gP i rp Γ with | some (.ob c' _) => if c' = c then gCM i rp S aN Γ else none | _ => none) := by
  obtain ⟨C, fa, fd, n', f0, ck, hme, FO, hb⟩ := mt.ex
  have : n' = 0 := by omega
  subst this
  obtain ⟨u, u1, u2⟩ := hp.ex
  refine ⟨⟨_, pe_meth0 u1 ck.cl hme FO (hr.mono hk) hb .nil pass0 ht, fun G0 H0 Z Γ σ G H Q d Γ' R hf k => ?_⟩⟩
  cases q : gP i rp Γ with
  | none => rw [q] at hf; cases hf
  | some s0 =>
    rw [q] at hf
    cases s0 with
    | ob c' fls =>
      replace hf : (if c' = c then gCM i rp S aN Γ else none) = some (d, Γ') := hf
      split at hf
      · rename_i cz
        subst cz
        obtain ⟨s, s1, ds, s1', s2, b1, b2, b3, b4, ho, e1, hS, es', rfl⟩ := gCM_some hf
        have e0 : s1 = .ob c' fls := by
          unfold gP at q
          rw [b1] at q
          exact Option.some.inj (b2.symm.trans q)
        subst e0
        cases e1
        refine u2 G0 H0 Z Γ σ G H G H _ s _ R (Ext.refl R.gh) b1 b2 b3 b4.1 fun v pk => ?_
        obtain ⟨F0, P0⟩ := pk G H (Ext.refl R.gh)
        have hd := P0.hd
        cases hd with
        | ob ff hm hh nn sF rr =>
          rw [ck.hm] at hm
          cases hm
          refine ⟨_, _, _, rfl, hh, zip_lookup_none hno, ?_⟩
          obtain ⟨F1, P⟩ := pk G H (Ext.refl R.gh)
          exact change_ok (E := E0) (vs := []) (ds := []) P R.gh (fun _ h => h) .nil rfl ho hS es' k
      · cases hf
    | _ => cases hf
def gMM (i : Nat) (rp : Pth) (c : Nat) (S : Sl → List D → Option (D × Sl)) (fs : Ag) : Mx := fun Γ => match gP i rp Γ with | some (.ob c' _) => if c' = c then gCM i rp S fs Γ else none | _ => none
/-! statements of these -/
def sExpM (f : Mx) : Sm := fun Γ => (f Γ).bind fun r => some (.nx r.2)
theorem s_exprM (he : EM X e mx) (hs : swapsWith e none pos.line X.env = pure false := by rfl) : DL.S X (.Expr e pos) (sExpM mx) := by
  obtain ⟨t, h1, h2⟩ := he.ex
  refine ⟨⟨_, ps_expr h1 hs, fun G0 H0 Z Γ σ G H D r R hf k => ?_⟩⟩
  obtain ⟨⟨d, Γ'⟩, e1, hf⟩ := obind hf
  cases hf
  exact h2 G0 H0 Z Γ σ G H _ d Γ' R e1 fun G1 H1 v R1 r1 => k σ G1 H1 R1
def sSetM (j : Nat) (f : Mx) : Sm := fun Γ => (f Γ).bind fun r => some (.nx (r.2.set j (.sh r.1)))
theorem s_setM (j : Nat) {x : Str} {pos' : Pos} (hN : X.N.Nodup) (he : EM X e mx) (hi : X.N[j]? = some x := by rfl) (hx : Loc X.env.scope x := by first | exact Or.inl rfl | exact Or.inr rfl) (hs : swapsWith e (some (.Name x pos')) pos.line X.env = pure false := by rfl)
    (hf : X.fn x = true ∨ X.env.scope.names.lookup x = some .local := by first | exact .inl rfl | exact .inr rfl | assumption) : DL.S X (.Assign [.Name x pos'] e pos) (sSetM j mx) := by
  obtain ⟨t, h1, h2⟩ := he.ex
  refine ⟨⟨_, ps_set hN hi hx h1 hs hf, fun G0 H0 Z Γ σ G H D r R hf k => ?_⟩⟩
  obtain ⟨⟨d, Γ'⟩, e1, hf⟩ := obind hf
  cases hf
  exact h2 G0 H0 Z Γ σ G H _ d Γ' R e1 fun G1 H1 v R1 r1 => k _ G1 H1 (R1.set j r1)
def sRetCM (f : Mx) : Sm := fun Γ => (f Γ).bind fun r => (r.2[0]?).bind fun s => if isOwn s then some (.rm r.1 s) else none
theorem s_retCM (he : EM X e mx) : DL.S X (.Return (some e) pos) (sRetCM mx) := by
  obtain ⟨t, h1, h2⟩ := he.ex
  refine ⟨⟨_, ps_ret h1, fun G0 H0 Z Γ σ G H D r R hf k => ?_⟩⟩
  obtain ⟨⟨d, Γ'⟩, e1, hf⟩ := obind hf
  obtain ⟨s, e2, hf⟩ := obind hf
  split at hf
  · cases hf
    exact h2 G0 H0 Z Γ σ G H _ d Γ' R e1 fun G1 H1 v R1 r1 => k Γ' σ G1 H1 v R1 e2 r1
  · cases hf
/-- del P[k:] -/
def sDelF (i : Nat) (rp : Pth) (f : Ex) : Sm := fun Γ => match gP i rp Γ with
  | some (.ow xs) => (f Γ).bind fun d => match d with
    | .int k => if 0 ≤ k ∧ k.toNat ≤ xs.length then upP i rp (.ow (xs.take k.toNat)) Γ else none
    | _ => none
  | _ => none
theorem s_delF {sp tpos : Pos} (hp : PL X o i rp) (he : E X e f) : DL.S X (.Delete [.Subscript o (.Slice (some e) none none sp) tpos] pos) (sDelF i rp f) := by
  obtain ⟨t, t1, t2⟩ := he.ex
  obtain ⟨u, u1, u2⟩ := hp.ex
  refine ⟨⟨_, ps_delF u1 t1, fun G0 H0 Z Γ σ G H D r R hf k => ?_⟩⟩
  unfold sDelF at hf
  cases q : gP i rp Γ with
  | none => rw [q] at hf; cases hf
  | some par =>
    rw [q] at hf
    cases par with
    | ow xs =>
      obtain ⟨d, e1, hf⟩ := obind hf
      cases d with
      | int j =>
        replace hf : (if 0 ≤ j ∧ j.toNat ≤ xs.length then upP i rp (.ow (xs.take j.toNat)) Γ else none) = some r := hf
        split at hf
        · rename_i hj
          obtain ⟨s, s2, a1, a2, rfl⟩ := upP_some hf
          obtain ⟨s', b1, b2, b3⟩ := gP_some q (by simp [SlP])
          rw [a1] at b1
          cases b1
          refine u2 G0 H0 Z Γ σ G H G H _ s _ R (Ext.refl R.gh) a1 b2 b3 (by simp) fun v pk => ?_
          refine t2 G0 H0 Z Γ σ G H _ _ R e1 fun G1 H1 w x1 r1 => ?_
          obtain ⟨F1, p1⟩ := pk G1 H1 x1
          obtain ⟨l, vs, rfl, d1, d2, d3⟩ := p1.list x1.gh
          rw [r1.intv]
          refine ⟨l, vs, j.toNat, rfl, by rw [Int.toNat_of_nonneg hj.1], d1, by rw [d2.length]; exact hj.2, ?_⟩
          exact k σ G1 _ (d3 _ _ _ (d2.take _) a2)
        · cases hf
      | _ => cases hf
    | _ => cases hf
end
end DL

namespace DL
open PySem L2
variable [TC : TabCtx]

section
variable {X : Cx} {e a b o : Expr} {es : List Expr} {f g k : Ex} {fs : Ag} {pos pos' : Pos} {n i : Nat} {rp : Pth}
/-- a + b of lists that are looked at: a new list -/
def gCat (f g : Ex) : Ag := fun Γ => (f Γ).bind fun x => (g Γ).bind fun y => match x, y with
  | .lst xs, .lst ys => if xs.length + ys.length < 1000000 then some (xs ++ ys) else none
  | _, _ => none
theorem el_cat (ha : B X a f) (hb : B X b g) : EL X (.BinOp a .Add b pos) (gCat f g) := by
  obtain ⟨t, h1, h2⟩ := ha.ex
  obtain ⟨u, q1, q2⟩ := hb.ex
  refine ⟨⟨_, pe_op op_cat h1 q1, fun G0 H0 Z Γ σ G H Q ds R hf k => ?_⟩⟩
  obtain ⟨x, e1, hf⟩ := obind hf
  obtain ⟨y, e2, hf⟩ := obind hf
  cases x with
  | lst xs =>
    cases y with
    | lst ys =>
      replace hf : (if xs.length + ys.length < 1000000 then some (xs ++ ys) else none) = some ds := hf
      split at hf
      · rename_i hz
        cases hf
        refine h2 G0 H0 Z Γ σ G H _ _ R e1 fun G1 H1 v x1 r1 => ?_
        refine q2 G0 H0 Z Γ σ G1 H1 _ _ (R.ext x1) e2 fun G2 H2 w x2 r2 => ?_
        obtain ⟨p, vs, rfl, hp, rp⟩ := (r1.ext x2).lst x2.gh
        obtain ⟨q, ws, rfl, hq, rq⟩ := r2.lst x2.gh
        refine ⟨p, q, vs, ws, rfl, rfl, hp, hq, by rw [rp.length, rq.length]; exact Nat.le_trans (Nat.le_of_lt hz) line_big, fun l hl => ?_⟩
        exact k G2 _ l _ ((x1.trans x2).trans (Ext.own1 x2.gh hl)) ((x1.trans x2).hf hl) (x2.gh.free hl) upd_same (rp.append rq)
      · cases hf
    | _ => cases hf
  | _ => cases hf

/-! P.f += e -/
theorem Pack.setSh {K : PySem.W.Frag} {mg : Str → Option Value} {G0 H0 G H Hb : Hp} {Z : Zs} {Γ : DEnv} {σ : L2.St} {s s2 : Sl} {c j : Nat} {x : Str} {fs : List Sl} {v0 v : V} {F1 : Addr → Prop} {d : D} (P : Pack K mg G0 H0 Z Γ σ i rp s (.ob c fs) v0 F1 Hb G H) (gh : Same G H)
    (hj : (cF c)[j]? = some x) (nd : (cF c).Nodup) (r : Rep K mg G v d) (hl : j < fs.length) (es : setR rp (.ob c (fs.set j (.sh d))) s = some s2) :
    ∃ p C dx vs, v0 = .ref p ∧ mg (cN c) = some (.ref C) ∧ H p = some (.ins C dx ((cF c).zip vs)) ∧ Rel K mg G0 H0 Z (Γ.set i s2) σ G (upd H p (.ins C dx (putF x v ((cF c).zip vs)))) := by
  have hd := P.hd
  cases hd with
  | ob f hm ho n sF rr =>
    rename_i p C dx vs F'
    have gp := (P.fr p f).1
    have hlen := rr.length
    refine ⟨p, C, dx, vs, rfl, hm, ho, ?_⟩
    rw [putF_set nd hj (by rw [hlen]; exact hl)]
    have keep : ∀ (Y : Addr → Prop), ¬ Y p → ∀ a o, Y a → H a = some o → upd H p (.ins C dx ((cF c).zip (vs.set j v))) a = some o := fun Y hy a o ya q => by
      rw [upd_ne]
      · exact q
      · intro e; subst e; exact hy ya
    refine P.up G _ F1 (.ob c (fs.set j (.sh d))) s2 (Same.refl _) (fun a o q => ?_) (fun a q => .inl q) (fun a o nf q => ?_) ?_ (fun a y => ?_) (fun _ => rfl) es
    · rw [upd_ne (ne_of_none q gp)]; exact gh _ _ q
    · rw [upd_ne]
      · exact q
      · intro e; subst e; exact nf f
    · have hs := (rr.mono (H' := upd H p (.ins C dx ((cF c).zip (vs.set j v)))) (Same.refl _) (fun a o y q _ => keep F' n a o y q)).setv j (F1 := fun _ => False) (Hd.sh r) (fun _ z => z.elim)
      exact .ob f hm upd_same (F' := fun a => F' a ∨ False) (fun y => y.elim n id) (fun a y => y.elim (sF a) False.elim) hs
    · refine ⟨(P.fr a y).1, ?_, .inl y⟩
      by_cases e : a = p
      · subst e; rw [upd_same]; simp
      · rw [upd_ne e]; exact (P.fr a y).2.2.1
def sAugF (i : Nat) (rp : Pth) (c j : Nat) (f : Ex) : Sm := fun Γ => match gP i rp Γ with
  | some (.ob c' fs) => if c' = c then (match fs[j]? with
    | some (.sh (.int a)) => (f Γ).bind fun d => match d with
      | .int b => upP i rp (.ob c (fs.set j (.sh (.int (a + b))))) Γ
      | _ => none
    | _ => none) else none
  | _ => none
theorem s_augF {c j : Nat} {C : Addr} {x : Str} {tpos : Pos} (ck : CK X.K X.mg c C) (hp : PL X o i rp) (he : E X e f) (hj : (cF c)[j]? = some x := by rfl) (nd : (cF c).Nodup := by decide +kernel) :
    S X (.AugAssign (.Attribute o x tpos) .Add e pos) (sAugF i rp c j f) := by
  obtain ⟨t, t1, t2⟩ := he.ex
  obtain ⟨u, u1, u2⟩ := hp.ex
  refine ⟨⟨_, ps_fldaug u1 t1 in_add, fun G0 H0 Z Γ σ G H D r R hf k => ?_⟩⟩
  unfold sAugF at hf
  cases q : gP i rp Γ with
  | none => rw [q] at hf; cases hf
  | some par =>
    rw [q] at hf
    cases par with
    | ob c' fls =>
      replace hf : (if c' = c then (match fls[j]? with
        | some (.sh (.int a)) => (f Γ).bind fun d => match d with
          | .int b => upP i rp (.ob c (fls.set j (.sh (.int (a + b))))) Γ
          | _ => none
        | _ => none) else none) = some r := hf
      split at hf
      · rename_i hc
        subst hc
        split at hf
        · rename_i a0 hfa
          obtain ⟨d, e1, hf⟩ := obind hf
          cases d with
          | int b0 =>
            replace hf : upP i rp (.ob c' (fls.set j (.sh (.int (a0 + b0))))) Γ = some r := hf
            obtain ⟨s, s2, a1, a2, rfl⟩ := upP_some hf
            obtain ⟨s', b1, b2, b3⟩ := gP_some q (by simp [SlP])
            rw [a1] at b1
            cases b1
            refine u2 G0 H0 Z Γ σ G H G H _ s _ R (Ext.refl R.gh) a1 b2 b3 (by simp) fun v0 pk => ?_
            obtain ⟨F0, P0⟩ := pk G H (Ext.refl R.gh)
            obtain ⟨p, C1, dx, vs, v1, F2, rfl, hm, ho, e2, P1⟩ := P0.fld b2 hfa
            rw [ck.hm] at hm
            cases hm
            have hv1 := P1.hd
            cases hv1 with
            | sh rv =>
              rw [rv.intv] at e2
              refine ⟨p, _, dx, _, .int a0, rfl, ho, ck.cl, ck.na x (List.mem_of_getElem? hj), zip_lookup nd hj e2, ?_⟩
              refine t2 G0 H0 Z Γ σ G H _ _ R e1 fun G1 H1 w x1 r1 => ?_
              rw [r1.intv]
              refine ⟨a0, b0, rfl, rfl, ?_⟩
              obtain ⟨F3, P3⟩ := pk G1 H1 x1
              obtain ⟨p', C2, dx2, vs2, ep, hm2, ho2, RR⟩ := P3.setSh x1.gh hj nd (v := .int (a0 + b0)) (.int _) ((List.getElem?_eq_some_iff.mp hfa).1) a2
              cases ep
              rw [ck.hm] at hm2
              cases hm2
              exact ⟨dx2, _, ho2, zip_short, k σ G1 _ RR⟩
          | _ => cases hf
        · cases hf
      · cases hf
    | _ => cases hf

/-! del P[k] -/
def sDelI (i : Nat) (rp : Pth) (f : Ex) : Sm := fun Γ => match gP i rp Γ with
  | some (.ow xs) => (f Γ).bind fun d => match d with
    | .int k => if -(2 ^ 63) ≤ k ∧ k < 2 ^ 63 then (seqIndex? k xs.length).bind fun m => upP i rp (.ow (xs.eraseIdx m)) Γ else none
    | _ => none
  | _ => none
theorem RepL.eraseIdx {K : PySem.W.Frag} {mg : Str → Option Value} {G : Hp} : ∀ (i : Nat) {vs : List V} {ds : List D}, RepL K mg G vs ds → RepL K mg G (vs.eraseIdx i) (ds.eraseIdx i)
  | _, _, _, .nil => .nil
  | 0, _, _, .cons _ r => r
  | i + 1, _, _, .cons h r => .cons h (r.eraseIdx i)
theorem s_delI {tpos : Pos} (hp : PL X o i rp) (he : E X e f) : S X (.Delete [.Subscript o e tpos] pos) (sDelI i rp f) := by
  obtain ⟨t, t1, t2⟩ := he.ex
  obtain ⟨u, u1, u2⟩ := hp.ex
  refine ⟨⟨_, ps_delL u1 t1, fun G0 H0 Z Γ σ G H D r R hf k => ?_⟩⟩
  unfold sDelI at hf
  cases q : gP i rp Γ with
  | none => rw [q] at hf; cases hf
  | some par =>
    rw [q] at hf
    cases par with
    | ow xs =>
      obtain ⟨d, e1, hf⟩ := obind hf
      cases d with
      | int j =>
        replace hf : (if -(2 ^ 63) ≤ j ∧ j < 2 ^ 63 then (seqIndex? j xs.length).bind fun m => upP i rp (.ow (xs.eraseIdx m)) Γ else none) = some r := hf
        split at hf
        · rename_i hj
          obtain ⟨m, e3, hf⟩ := obind hf
          obtain ⟨s, s2, a1, a2, rfl⟩ := upP_some hf
          obtain ⟨s', b1, b2, b3⟩ := gP_some q (by simp [SlP])
          rw [a1] at b1
          cases b1
          refine u2 G0 H0 Z Γ σ G H G H _ s _ R (Ext.refl R.gh) a1 b2 b3 (by simp) fun v pk => ?_
          refine t2 G0 H0 Z Γ σ G H _ _ R e1 fun G1 H1 w x1 r1 => ?_
          obtain ⟨F1, p1⟩ := pk G1 H1 x1
          obtain ⟨l, vs, rfl, d1, d2, d3⟩ := p1.list x1.gh
          rw [r1.intv]
          refine ⟨l, vs, j, m, rfl, rfl, d1, hj.1, hj.2, by rw [d2.length]; exact e3, ?_⟩
          exact k σ G1 _ (d3 _ _ _ (RepL.eraseIdx m d2) a2)
        · cases hf
      | _ => cases hf
    | _ => cases hf

/-! P.insert(k, e), P.extend(e) -/
def sIns (i : Nat) (rp : Pth) (k f : Ex) : Sm := fun Γ => (k Γ).bind fun j => (f Γ).bind fun d => match gP i rp Γ, j with
  | some (.ow xs), .int j => if xs.length < 1000000 ∧ 0 ≤ j ∧ j < 2 ^ 63 then upP i rp (.ow (xs.take j.toNat ++ [d] ++ xs.drop j.toNat)) Γ else none
  | _, _ => none
theorem s_ins {ap : Pos} (hp : PL X o i rp) (hk : E X a k) (he : E X e f) (hst : starEach [a, e] X.env = (false, eval a X.env) :: starEach [e] X.env := by rfl) (hst2 : starEach [e] X.env = (false, eval e X.env) :: starEach [] X.env := by rfl)
    (hpe : ∀ {r : V → List V → Hp → VK → Prop} {to : TE} {ta : TA}, MtR X "list.insert" r → PE X o to → PA X [a, e] ta → PE X (.Call (.Attribute o "insert" ap) [a, e] [] pos) (tBM X.K "list" r to ta) := by intro r to ta hm ho hp; exact pe_bm PySem.F.plainAttrs_list PySem.F.slot_list_insert PySem.F.type_list_insert hm ho hp)
    (hs : swapsWith (.Call (.Attribute o "insert" ap) [a, e] [] pos) none pos'.line X.env = pure false := by rfl) : S X (.Expr (.Call (.Attribute o "insert" ap) [a, e] [] pos) pos') (sIns i rp k f) := by
  obtain ⟨t, h1, h2⟩ := he.ex
  obtain ⟨w, w1, w2⟩ := hk.ex
  obtain ⟨u, u1, u2⟩ := hp.ex
  refine ⟨⟨_, ps_expr (hpe mt_insert u1 (pa_cons w1 (pa_cons h1 pa_nil hst2) hst)) hs, fun G0 H0 Z Γ σ G H D r R hf kk => ?_⟩⟩
  obtain ⟨j, e1, hf⟩ := obind hf
  obtain ⟨d, e2, hf⟩ := obind hf
  cases q : gP i rp Γ with
  | none => rw [q] at hf; cases hf
  | some s1 =>
    rw [q] at hf
    cases s1 with
    | ow xs =>
      cases j with
      | int j =>
        replace hf : (if xs.length < 1000000 ∧ 0 ≤ j ∧ j < 2 ^ 63 then upP i rp (.ow (xs.take j.toNat ++ [d] ++ xs.drop j.toNat)) Γ else none) = some r := hf
        split at hf
        · rename_i hl
          obtain ⟨s, s2, a1, a2, rfl⟩ := upP_some hf
          obtain ⟨s', b1, b2, b3⟩ := gP_some q (by simp [SlP])
          rw [a1] at b1
          cases b1
          refine u2 G0 H0 Z Γ σ G H G H _ s _ R (Ext.refl R.gh) a1 b2 b3 (by simp) fun v pk => ?_
          obtain ⟨F0, p0⟩ := pk G H (Ext.refl R.gh)
          obtain ⟨l0, vs0, rfl, c1, c2, _⟩ := p0.list R.gh
          refine ⟨.inl ⟨rfl, _, SqL.of c1⟩, ?_⟩
          refine w2 G0 H0 Z Γ σ G H _ _ R e1 fun G1 H1 z x1 r1 => ?_
          refine h2 G0 H0 Z Γ σ G1 H1 _ _ (R.ext x1) e2 fun G2 H2 y x2 r2 => ?_
          obtain ⟨F1, p1⟩ := pk G2 H2 (x1.trans x2)
          obtain ⟨l, vs, el, d1, d2, d3⟩ := p1.list x2.gh
          cases el
          rw [r1.intv]
          refine ⟨_, vs, j, y, rfl, rfl, d1, by rw [d2.length]; exact Nat.lt_of_lt_of_le hl.1 line_big, hl.2.1, hl.2.2, ?_⟩
          exact kk σ G2 _ (d3 _ _ _ (((d2.take _).append (.cons r2 .nil)).append (d2.drop _)) a2)
        · cases hf
      | _ => cases hf
    | _ => cases hf
def sExt (i : Nat) (rp : Pth) (f : Ag) : Sm := fun Γ => (f Γ).bind fun ds => match gP i rp Γ with
  | some (.ow xs) => if xs.length + ds.length < 1000000 then upP i rp (.ow (xs ++ ds)) Γ else none
  | _ => none
theorem s_ext {ap : Pos} (hp : PL X o i rp) (he : EL X e fs) (hst : starEach [e] X.env = (false, eval e X.env) :: starEach [] X.env := by rfl)
    (hpe : ∀ {r : V → List V → Hp → VK → Prop} {to te : TE}, MtR X "list.extend" r → PE X o to → PE X e te → PE X (.Call (.Attribute o "extend" ap) [e] [] pos) (tBM X.K "list" r to (tCons te tNil)) := by intro r to te hm ho hp; exact pe_bm PySem.F.plainAttrs_list PySem.F.slot_list_extend PySem.F.type_list_extend hm ho (pa_cons hp pa_nil))
    (hs : swapsWith (.Call (.Attribute o "extend" ap) [e] [] pos) none pos'.line X.env = pure false := by rfl) : S X (.Expr (.Call (.Attribute o "extend" ap) [e] [] pos) pos') (sExt i rp fs) := by
  obtain ⟨t, h1, h2⟩ := he.ex
  obtain ⟨u, u1, u2⟩ := hp.ex
  refine ⟨⟨_, ps_expr (hpe mt_extend u1 h1) hs, fun G0 H0 Z Γ σ G H D r R hf k => ?_⟩⟩
  obtain ⟨ds, e1, hf⟩ := obind hf
  cases q : gP i rp Γ with
  | none => rw [q] at hf; cases hf
  | some s1 =>
    rw [q] at hf
    cases s1 with
    | ow xs =>
      replace hf : (if xs.length + ds.length < 1000000 then upP i rp (.ow (xs ++ ds)) Γ else none) = some r := hf
      split at hf
      · rename_i hl
        obtain ⟨s, s2, a1, a2, rfl⟩ := upP_some hf
        obtain ⟨s', b1, b2, b3⟩ := gP_some q (by simp [SlP])
        rw [a1] at b1
        cases b1
        refine u2 G0 H0 Z Γ σ G H G H _ s _ R (Ext.refl R.gh) a1 b2 b3 (by simp) fun v pk => ?_
        obtain ⟨F0, p0⟩ := pk G H (Ext.refl R.gh)
        obtain ⟨l0, vs0, rfl, c1, c2, _⟩ := p0.list R.gh
        refine ⟨.inl ⟨rfl, _, SqL.of c1⟩, ?_⟩
        refine h2 G0 H0 Z Γ σ G H _ _ R e1 fun G1 H1 q vs x1 hq gq hv rv => ?_
        obtain ⟨F1, p1⟩ := pk G1 H1 x1
        obtain ⟨l, ws, el, d1, d2, d3⟩ := p1.list x1.gh
        cases el
        refine ⟨_, q, ws, vs, rfl, rfl, d1, hv, by rw [d2.length, rv.length]; exact Nat.le_trans (Nat.le_of_lt hl) line_big, ?_⟩
        exact k σ G1 _ (d3 _ _ _ (d2.append rv) a2)
      · cases hf
    | _ => cases hf
end
end DL

namespace DL
open PySem L2
variable [TC : TabCtx]
/-- isinstance(x, C), C a class of the program -/
structure CI (K : PySem.W.Frag) (mg : Str → Option Value) (c : Nat) (C : Addr) : Prop where
  hm : mg (cN c) = some (.ref C)
  cl : Cls K C
  ha : PySem.W.findIn K (.ref C) "__class__" = some (some (.builtin "object.__class__"))
  hn : PySem.W.specialIn K (.builtin "object.__class__") "__get__" = some (some (.builtin "getset_descriptor.__get__"))
  ht : PySem.W.takesIn K (.builtin "object.__class__") = some true
  hr : PySem.W.mroIn K C (.type "object") = some true
def dIsiC (c : Nat) : D → Option D
  | .obj c' _ => if c' = c then some (.bl true) else none
  | _ => none
section
variable {X : Cx} {a : Expr} {f : Ex} {pos : Pos}
theorem e_isiC {c : Nat} {C : Addr} {x : Str} {p p2 : Pos} (ci : CI X.K X.mg c C) (hg : Gl X x) (hm : X.mg x = none) (hv : bootBuiltins x = some (.builtin "isinstance")) (ha : B X a f)
    (hgy : Gl X (cN c) := by rfl) (hn : x ≠ "__name__" := by decide) (hdb : (x == ("__debug__" : Str)) = false := by decide) (hdby : (cN c == ("__debug__" : Str)) = false := by decide)
    (he : starEach [a, .Name (cN c) p2] X.env = (false, eval a X.env) :: starEach [.Name (cN c) p2] X.env := by rfl) (hpl : (backTo pos (starEach [.Name (cN c) p2] X.env)).any (·.1) = false := by rfl) (he2 : starEach [.Name (cN c) p2] X.env = (false, eval (.Name (cN c) p2) X.env) :: starEach [] X.env := by rfl) :
    E X (.Call (.Name x p) [a, .Name (cN c) p2] [] pos) (gU (dIsiC c) f) := by
  obtain ⟨t, h1, h2⟩ := ha.ex
  refine ⟨⟨_, pe_callB call_isi hg hm hv (pa_cons h1 (pa_cons (pe_glob (v := .ref C) hgy ci.hm rfl hdby) pa_nil he2) he) hn hdb he hpl, fun G0 H0 Z Γ σ G H Q d R hf k => ?_⟩⟩
  obtain ⟨y, e1, hv'⟩ := obind hf
  clear hf
  refine h2 G0 H0 Z Γ σ G H _ y R e1 fun G1 H1 v x1 r1 => ?_
  cases y with
  | obj c' ds =>
    replace hv' : (if c' = c then some (D.bl true) else none) = some d := hv'
    split at hv'
    · rename_i cz
      subst cz
      cases hv'
      obtain ⟨q, C', dx, vs, rfl, hm', hp, _⟩ := r1.objAt x1.gh
      rw [ci.hm] at hm'
      cases hm'
      refine ⟨_, _, .ref C, .ref C, true, rfl, .own C, .base (.ins hp ci.cl ci.ha ci.hn ci.ht ci.hr), ?_, k G1 H1 _ x1 (.bl true)⟩
      unfold PySem.W.kitOne
      rw [if_pos (beq_self_eq_true _)]
    · cases hv'
  | _ => cases hv'
end
end DL

namespace DL
open PySem L2
variable [TC : TabCtx]

/-! ### objects that are made of things that are only looked at -/
open Classical in
noncomputable abbrev maskH (Fp : Addr → Prop) (H : Hp) : Hp := fun a => if Fp a then none else H a
def spMK (K : PySem.W.Frag) (mg : Str → Option Value) (ms : List Bool) (F : Sl → List D → Option (D × Sl)) : Sp := fun vs H Q _ =>
  ∃ v0 args G s ds d s' Fp, vs = v0 :: args ∧ Same G H ∧ TC.ti.t G H ∧ Hd K mg G H v0 Fp s ∧ (∀ a, Fp a → G a = none ∧ H a ≠ none ∧ ¬ TC.ti.tz a) ∧ RepM K mg G (maskH Fp H) ms args ds ∧ F s ds = some (d, s') ∧
    ∀ G' H' v Fp', Same G G' → Same G' H' → TC.ti.t G' H' → (∀ a, ¬ Fp a → H a ≠ none → H' a ≠ none) → (∀ a, G' a ≠ none → G a ≠ none ∨ H a = none ∨ Fp a) → (∀ a o, ¬ Fp a → H a = some o → NT o → H' a = some o) → Rep K mg G' v d → Hd K mg G' H' v0 Fp' s' → (∀ a, Fp' a → G' a = none ∧ H' a ≠ none ∧ (Fp a ∨ H a = none)) → Q v H'
def runMK (ms : List Bool) (n : Nat) (B : Sm) : Sl → List D → Option (D × Sl) := fun s ds => (B (s :: slM ms ds ++ List.replicate (n - (ms.length + 1)) .no)).bind fun r => match r with
  | .rm d s' => if isOwn s' then some (d, s') else none
  | .nx Γ => (Γ[0]?).bind fun s' => if isOwn s' then some (.non, s') else none
  | _ => none
section
variable {P : Program} {w : World} {K : PySem.W.Frag} {mg : Str → Option Value} {base : Heap}
theorem startMK_rel {G H : Hp} {N : List Str} {v0 : V} {vs : List V} {s : Sl} {ds : List D} {ms : List Bool} {Fp : Addr → Prop} (gh : Same G H) (tb : TC.ti.t G H) (hd : Hd K mg G H v0 Fp s) (fr : ∀ a, Fp a → G a = none ∧ H a ≠ none ∧ ¬ TC.ti.tz a) (r : RepM K mg G (maskH Fp H) ms vs ds) :
    Rel K mg G (maskH Fp H) ⟨TC.ti.tz, some v0, TC.ti⟩ (s :: slM ms ds ++ List.replicate (N.length - (ms.length + 1)) .no) (L2.start N (v0 :: vs)) G H := by
  obtain ⟨hv, hdl⟩ := r.len
  have hl := slM_len hdl
  unfold L2.start
  refine ⟨by simp [hl, hv], gh, fun a o q _ => ?_, Same.refl _, fun a h => .inl h, fun a z => (TC.ti.live tb a z).1, fun v s' e1 _ _ => by cases e1; simp, tb, fun _ h => h, rfl, fun a h => by
    by_cases x : Fp a
    · simp [maskH, x] at h
    · simpa [maskH, x] using h, fun i a => i = 0 ∧ Fp a, fun i a z => ⟨(fr a z.2).1, by simp [maskH, z.2], (fr a z.2).2.1, (fr a z.2).2.2⟩, fun i j a z1 z2 => z1.1.trans z2.1.symm, fun i s' h => ?_⟩
  · unfold maskH at q
    split at q
    · cases q
    · exact q
  · cases i with
    | zero =>
      simp at h
      subst h
      exact .inr (.inl ⟨v0, by simp, hd.wide fun a x => ⟨rfl, x⟩⟩)
    | succ i =>
      have e : N.length - (ms.length + 1) = (N.length - 1) - ms.length := by omega
      rw [List.cons_append, List.getElem?_cons_succ, e] at h
      by_cases hi : i < ms.length
      · rw [List.getElem?_append_left (by omega)] at h
        obtain ⟨v, d, e1, e2⟩ := r.get i h
        have st : ((v0 :: vs).map some ++ List.replicate (N.length - (v0 :: vs).length) none)[i + 1]? = some (some v) := by
          rw [List.map_cons, List.cons_append, List.getElem?_cons_succ, List.getElem?_append_left (by simp; omega), List.getElem?_map, e1]
          rfl
        rcases e2 with ⟨rfl, e2⟩ | ⟨rfl, e2⟩
        · exact .inr (.inl ⟨v, st, .sh e2⟩)
        · exact .inr (.inr ⟨v, d, rfl, st, e2⟩)
      · rw [List.getElem?_append_right (by omega), List.getElem?_replicate] at h
        split at h
        · cases h; exact .inl rfl
        · cases h
open Classical in
theorem def_okMK {x qual : Str} {st : Stmt} {f : Addr} {fd : FuncData} {N ps : List Str} {k : Nat} {B : Sm} {ms : List Bool} (F : Fun K x qual st f fd) (S : FnScope N ps (defScope st)) (hps : ps.length = ms.length + 1)
    (hbody : ∀ (cdv : Value) (A : Around) (outer : List PySem.Env) (s : Shared) (H : Hp) (E : XK), Room k (A.deeper (PyProof.Rows.envOfC qual (defScope st) s.heap.objs.size f cdv)) →
      Ss (cxOf CX0 P w K mg base N qual (defScope st) f cdv A outer s H E).nox (defBody st) B) : FnOk P w K mg base CX0 (k + 1) f fd ps (spMK K mg ms (runMK ms N.length B)) := by
  refine F.ok S (fun vs H Q E h => ?_) (fun cdv A outer s H vs Q E hr h => ?_)
  · obtain ⟨v0, args, G, s, ds, d, s', Fp, rfl, _, _, _, _, r, _⟩ := h
    simp [r.len.1, hps]
  · obtain ⟨v0, args, G, sl, ds, d, s', Fp, rfl, gh, tb, hd, fr, r, hf, kk⟩ := h
    obtain ⟨t, h1, h2⟩ := (hbody cdv A outer s H E hr).ex
    refine ⟨t, h1, ?_⟩
    obtain ⟨r1, e1, hf⟩ := obind hf
    have R := startMK_rel (N := N) gh tb hd fr r
    have fin : ∀ (Γ : DEnv) (σ : L2.St) (G' H' : Hp) (v : V), Rel K mg G (maskH Fp H) ⟨TC.ti.tz, some v0, TC.ti⟩ Γ σ G' H' → Γ[0]? = some s' → isOwn s' = true → Rep K mg G' v d → Q v H' := fun Γ σ G' H' v R' e0 ns rv => by
      have es := R'.an v0 s' rfl e0 (keepS_own ns)
      obtain ⟨own, o1, o2, o3⟩ := R'.own
      rcases o3 0 s' e0 with z | ⟨v', z1, z2⟩ | ⟨_, _, z, _⟩
      · rw [z] at ns; cases ns
      rotate_left
      · rw [z] at ns; cases ns
      · rw [es] at z1
        cases z1
        refine kk G' H' v (own 0) R'.gg R'.gh R'.tbc (fun a nf h => R'.hn a (by simpa [nf] using h)) (fun a q => ?_) (fun a o nf q n => R'.hh a o (by simp [nf, q]) n) rv z2 fun a y => ?_
        · rcases R'.new a q with z | z
          · exact .inl z
          · by_cases fa : Fp a
            · exact .inr (.inr fa)
            · simp [fa] at z
              exact .inr (.inl z)
        · obtain ⟨w1, w2, w3, w4⟩ := o1 0 a y
          refine ⟨w1, w3, ?_⟩
          by_cases fa : Fp a
          · exact .inl fa
          · simp [fa] at w2
            exact .inr w2
    refine h2 G _ _ _ _ G H _ r1 R e1 ?_
    cases r1 with
    | rm d' s2 =>
      replace hf : (if isOwn s2 then some (d', s2) else none) = some (d, s') := hf
      split at hf
      · rename_i ns
        cases hf
        exact fun Γ σ G' H' v R' e0 rv => fin Γ σ G' H' v R' e0 ns rv
      · cases hf
    | nx Γ =>
      obtain ⟨s2, e2, hf⟩ := obind hf
      split at hf
      · rename_i ns
        cases hf
        exact fun σ' G' H' R' => fin Γ σ' G' H' _ R' e2 ns .non
      · cases hf
    | rt d => cases hf
    | ro s => cases hf
    | bk Γ => cases hf
    | ct Γ => cases hf
    | ra n => cases hf
end
structure MakK (P : Program) (w : World) (K : PySem.W.Frag) (mg : Str → Option Value) (base : Heap) (c L : Nat) (ps : List Str) (ms : List Bool) (S : Sl → List D → Option (D × Sl)) : Prop where
  ex : ∃ C f fd p0 ps', ps = p0 :: ps' ∧ mg (cN c) = some (.ref C) ∧ Mk K C f ∧ FnOk P w K mg base CX0 L f fd ps (spMK K mg ms S) ∧ Binds K fd ps []
section
variable {X : Cx} {a : Expr} {es : List Expr} {fs : Ag} {pos p : Pos}
theorem make_okK {c : Nat} {C : Addr} {ms : List Bool} {S : Sl → List D → Option (D × Sl)} {t : TA} (hm : X.mg (cN c) = some (.ref C))
    (h2 : ∀ (G0 H0 : Hp) (Z : Zs) (Γ : DEnv) (σ : L2.St) (G H : Hp) (Q : List V → Hp → Prop) (ds : List D), Rel X.K X.mg G0 H0 Z Γ σ G H → fs Γ = some ds → (∀ G' H' vs, Ext G H G' H' → RepM X.K X.mg G' H' ms vs ds → Q vs H') → t σ H Q) :
    ∀ (G0 H0 : Hp) (Z : Zs) (Γ : DEnv) (σ : L2.St) (G H : Hp) (Q : VK) (s : Sl), Rel X.K X.mg G0 H0 Z Γ σ G H → gMk c S fs Γ = some s → (∀ G' H' v F, Ext G H G' H' → Hd X.K X.mg G' H' v F s → (∀ a, F a → G' a = none ∧ H a = none ∧ H' a ≠ none) → Q v H') → tMake C (spMK X.K X.mg ms S) [] E0 t σ H Q := by
  intro G0 H0 Z Γ σ G H Q s R hf k
  obtain ⟨ds, e1, hf⟩ := obind hf
  obtain ⟨⟨d, s'⟩, e2, hf⟩ := obind hf
  have hd : d = .non ∧ s' = s := by
    cases d with
    | non => cases hf; exact ⟨rfl, rfl⟩
    | _ => cases hf
  obtain ⟨rfl, rfl⟩ := hd
  refine h2 G0 H0 Z Γ σ G H _ ds R e1 fun G1 H1 vs x1 r1 => ?_
  intro x dx nx ndx ne
  have gx : G1 x = none := x1.gh.free nx
  have Hx : H x = none := x1.hf nx
  have T1 := (R.ext x1).tbc
  have keep : ∀ b o, H1 b = some o → upd (upd H1 dx (.own x)) x (.ins C dx []) b = some o := fun b o q => by
    rw [upd_ne (ne_of_none q nx), upd_ne (ne_of_none q ndx)]; exact q
  refine ⟨.ref x, vs, G1, .ob c [], ds, .non, s', fun b => b = x, by rw [List.append_nil], fun b o q => keep b o (x1.gh _ _ q), TC.ti.keep T1 (Same.refl _) (fun a h => same_at (fun b o q => keep b o q) (TC.ti.live T1 a h).1) (fun _ _ g => g), ?_, fun b e => by subst e; exact ⟨gx, by rw [upd_same]; simp, fun z => (TC.ti.live T1 _ z).1 nx⟩, r1.ext (Ext.same (Same.refl _) (fun b o q => ?_) (fun b o q => ?_) fun b q => .inl q), e2, ?_⟩
  · exact .ob (F' := fun _ => False) (dx := dx) (vs := []) rfl hm (by rw [upd_same, List.zip_nil_right]) (fun z => z) (fun _ z => z.elim) .nil
  · unfold maskH
    rw [if_neg (fun e => by subst e; rw [nx] at q; cases q)]
    exact keep b o q
  · unfold maskH
    rw [if_neg (fun e => by subst e; rw [gx] at q; cases q)]
    exact keep b o (x1.gh _ _ q)
  · intro G' H' v Fp' gg gh tb' hn' nw kp rv hv fr
    cases rv
    have keep' : ∀ b o, H b = some o → NT o → upd (upd H1 dx (.own x)) x (.ins C dx []) b = some o := fun b o q n => keep b o (x1.hh b o q n)
    have kn : ∀ b, H1 b ≠ none → upd (upd H1 dx (.own x)) x (.ins C dx []) b ≠ none := fun b h => nn (fun b o q => keep b o q) h
    refine ⟨rfl, k G' H' (.ref x) Fp' ⟨x1.gg.trans gg, fun b o q n => ?_, gh, fun b q => ?_, fun b h => hn' b (fun e => by subst e; exact h Hx) (kn b (x1.hn b h)), fun _ => tb'⟩ hv fun b y => ?_⟩
    · exact kp b o (fun e => by subst e; rw [Hx] at q; cases q) (keep' b o q n) n
    · rcases nw b q with z | z | z
      · exact x1.new b z
      · refine .inr ?_
        cases e : H b with
        | none => rfl
        | some o => exact absurd z (kn b (x1.hn b (by rw [e]; simp)))
      · subst z; exact .inr Hx
    · obtain ⟨w1, w2, w3⟩ := fr b y
      refine ⟨w1, ?_, w2⟩
      rcases w3 with z | z
      · subst z; exact Hx
      · cases e : H b with
        | none => rfl
        | some o => exact absurd z (kn b (x1.hn b (by rw [e]; simp)))
theorem e_mkCK {c k L : Nat} {ps : List Str} {ms : List Bool} {S : Sl → List D → Option (D × Sl)} (m : MakK X.prog X.w X.K X.mg X.base c L ps ms S) (hr : Room k X.A) (hk : L + 1 ≤ k)
    (ha : AM X (a :: es) ms fs) (hg : Gl X (cN c) := by rfl) (hdb : (cN c == ("__debug__" : Str)) = false := by decide) (he : starEach (a :: es) X.env = (false, eval a X.env) :: starEach es X.env := by rfl) (hpl : (backTo pos (starEach es X.env)).any (·.1) = false := by rfl) :
    EN X (.Call (.Name (cN c) p) (a :: es) [] pos) (gMk c S fs) := by
  obtain ⟨C, f, fd, q0, ps', rfl, h1, h2, h3, h4⟩ := m.ex
  obtain ⟨t, t1, t2⟩ := ha.ex
  exact ⟨⟨_, pe_make h2 h3 (hr.mono hk) hg h1 h4 .nil pass0 t1 hdb he hpl, make_okK h1 t2⟩⟩
end
end DL

namespace DL
open PySem PySem.Spec PyProof.Rows L2
variable [TC : TabCtx]

/-! ### list(enumerate(xs)) -/
def EnumAt (h : Heap) (e it : Addr) (i : Nat) : Prop := (∃ old, IsEnum h e it ((i : Nat) : Int) old) ∨ ∃ old T f oT, IsEnumHeld h e it ((i : Nat) : Int) old T f ∧ h.get? T = some oT ∧ T ≠ e ∧ T ≠ it
/-- the pairs that are made so far, in the list at q -/
structure Built (K : PySem.W.Frag) (H0 : Hp) (a q : Addr) (xs : List V) (i : Nat) (Ts : List Addr) (H : Hp) : Prop where
  len : Ts.length = i
  lst : H q = some (.lst (Ts.map V.ref))
  keep : ∀ b o, H0 b = some o → H b = some o
  new : ∀ b, H b ≠ none → H0 b ≠ none ∨ b = q ∨ b ∈ Ts
  tup : ∀ j T, Ts[j]? = some T → H0 T = none ∧ T ≠ q ∧ ∃ x, xs[j]? = some x ∧ H T = some (.tup [.int (j : Nat), x])
  q0 : H0 q = none
  src : SqL K H0 a xs
section
variable {X : Cx} {pins : List (Addr × Obj)} {σ : L2.St} {A1 : Around} {H0 : Hp} {a q e it : Addr} {xs : List V} {Rs : Result → Shared → Prop}
theorem enum_loop (hh : A1.in1.handled = none) (hne : e ≠ it) (hdone : ∀ Ts H s, Inv X pins σ H s → Built X.K H0 a q xs xs.length Ts H → Rs (.ok (.ret .none)) s) :
    ∀ (m i : Nat) (Ts : List Addr) (H : Hp) (s : Shared), i + m = xs.length → Inv X pins σ H s → Built X.K H0 a q xs i Ts H → EnumAt s.heap e it i → s.heap.IsListIter it a i → (∀ b ∈ [e, it], FpOk X pins H b) →
      codeAny (model X.prog X.w) A1 (.builtin "list.extend.loop" ⟨[.ref q, .ref e, .none], []⟩) Rs s := by
  intro m
  induction m with
  | zero =>
    intro i Ts H s hi I B st hit hf
    obtain ⟨its, rv, pl, hz⟩ := I.list ((show Same H0 H from B.keep).seq B.src)
    have hl := rv.length
    have hx : its.toArray[i]? = none := by rw [Array.getElem?_eq_none (by simp; omega)]
    obtain ⟨f0, f1, f2, f3, f4, f5⟩ := hf it (by simp)
    refine codeAny_builtin PySem.F.entry_extend_loop ?_
    rw [Around.under_plainId PySem.F.plain_extend_loop _]
    show wpAny _ A1.in1 (pyNext (.ref e) >>= _) _ _ s
    have fin : ∀ h' : Heap, Heap.ExtBut it s.heap h' → Rs (.ok (.ret .none)) { s with heap := h' } := fun h' eb => by
      have I1 := I.turned (t' := s.toks) (fun b o hb k => eb b o hb k) f0 f1 f3 f4 f5
      have e2 : i = xs.length := by omega
      rw [e2] at B
      exact hdone Ts H _ I1 B
    rcases st with ⟨old, he⟩ | ⟨old, T, f, oT, he, hT, r1, r2⟩
    · exact wpAny_bind (wpAny_pyNext_enum_end hh he hit pl.isList hx fun h' eb => wpAny_pure (fin h' eb))
    · exact wpAny_bind (wpAny_pyNext_enum_end_held hh he hit pl.isList hx fun h' eb => wpAny_pure (fin h' eb))
  | succ m ih =>
    intro i Ts H s hi I B st hit hf
    obtain ⟨its, rv, pl, hz⟩ := I.list ((show Same H0 H from B.keep).seq B.src)
    have hl := rv.length
    obtain ⟨x, hx⟩ : ∃ x, xs[i]? = some x := ⟨_, List.getElem?_eq_getElem (by omega)⟩
    obtain ⟨u, hu, ru⟩ := rv.get hx
    have hil : it < s.heap.objs.size := by obtain ⟨_, k, _⟩ := hit; exact Heap.lt_size k
    refine codeAny_builtin PySem.F.entry_extend_loop ?_
    rw [Around.under_plainId PySem.F.plain_extend_loop _]
    show wpAny _ A1.in1 (pyNext (.ref e) >>= _) _ _ s
    have go : ∀ h' : Heap, EnumAt h' e it (i + 1) → h'.IsListIter it a (i + 1) → h'.get? s.heap.objs.size = some { cls := .type "tuple", data := .seq #[.int i s.toks, u] } → e < s.heap.objs.size →
        (∀ b o, b ≠ e → b ≠ it → s.heap.get? b = some o → h'.get? b = some o) →
        wpAny (model X.prog X.w) A1.in1 (updateSeq q (·.push (.ref s.heap.objs.size)) >>= fun _ => again (.builtin "list.extend.loop" ⟨[.ref q, .ref e, .none], []⟩)) (fun fin s' => match fin with | .done f => Rs (.ok f) s' | .again c' => c'.quiet = true ∧ codeAny (model X.prog X.w) A1 c' Rs s') (fun e s' => Rs (.error e) s') { s with heap := h', toks := s.toks + 1 } := fun h' st' hit' hT hel hk => by
      have fr : H s.heap.objs.size = none := I.hok.fresh (Nat.le_refl _)
      have new : ObjOk X.prog X.w (upd H s.heap.objs.size (.tup [.int (i : Nat), x])) h' s.heap.objs.size (.tup [.int (i : Nat), x]) :=
        ⟨by show 2 ≤ sizeLine; decide, [.int i s.toks, u], .cons ⟨_, rfl⟩ (.cons ru .nil), ⟨_, hT, rfl, _, rfl⟩⟩
      have I1 : Inv X pins σ (upd H s.heap.objs.size (.tup [.int (i : Nat), x])) { s with heap := h', toks := s.toks + 1 } :=
        I.turnedNew (ch := [e, it]) (fun b ob hb k => hk b ob (fun z => hb (by simp [z])) (fun z => hb (by simp [z])) k) hf (Nat.le_refl _) new
      have qne : q ≠ s.heap.objs.size := ne_of_none B.lst fr
      have hq1 : upd H s.heap.objs.size (.tup [.int (i : Nat), x]) q = some (.lst (Ts.map V.ref)) := by rw [upd_ne qne]; exact B.lst
      obtain ⟨z, its2, k2, r2, hl2, e2⟩ := I1.lstM hq1
      have l2 : its2.length = i := by rw [← hl2, List.length_map, B.len]
      refine wpAny_bind (wpAny_updateSeq e2 rfl (wpAny_pure ⟨plainId_quiet PySem.F.plain_extend_loop _, ?_⟩) (by show (its2.toArray).size ≤ sizeLine; rw [List.size_toArray]; omega) (by show (its2.toArray.push _).size ≤ sizeLine + 1; rw [Array.size_push, List.size_toArray]; omega))
      have I2 := I1.lset (f := (·.push (Value.ref s.heap.objs.size))) (its' := its2 ++ [.ref s.heap.objs.size]) (ys := Ts.map V.ref ++ [V.ref s.heap.objs.size]) (t' := s.toks + 1) hq1 e2 (by simp) (r2.append (.cons (show L2.RelV (V.ref s.heap.objs.size) (Value.ref s.heap.objs.size) from rfl) .nil)) (by rw [List.length_append, List.length_singleton, List.length_map, B.len]; omega)
      refine ih (i + 1) (Ts ++ [s.heap.objs.size]) _ _ (by omega) I2 ?_ ?_ ?_ ?_
      · refine ⟨by simp [B.len], by rw [upd_same, List.map_append]; rfl, fun b o k => ?_, fun b k => ?_, fun j T k => ?_, B.q0, B.src⟩
        · rw [upd_ne (ne_of_none k B.q0), upd_ne (ne_of_none (B.keep b o k) fr)]
          exact B.keep b o k
        · by_cases c1 : b = q
          · exact .inr (.inl c1)
          · rw [upd_ne c1] at k
            by_cases c2 : b = s.heap.objs.size
            · exact .inr (.inr (by simp [c2]))
            · rw [upd_ne c2] at k
              rcases B.new b k with z | z | z
              · exact .inl z
              · exact .inr (.inl z)
              · exact .inr (.inr (by simp [z]))
        · by_cases c : j < Ts.length
          · rw [List.getElem?_append_left c] at k
            obtain ⟨t1, t2, y, t3, t4⟩ := B.tup j T k
            refine ⟨t1, t2, y, t3, ?_⟩
            rw [upd_ne t2, upd_ne (ne_of_none t4 fr)]
            exact t4
          · rw [List.getElem?_append_right (by omega)] at k
            have e3 : j - Ts.length = 0 := by
              have := (List.getElem?_eq_some_iff.mp k).1
              simp at this
              omega
            rw [e3] at k
            have e4 : T = s.heap.objs.size := by simpa using k.symm
            have e5 : j = i := by rw [← B.len]; omega
            subst e4
            subst e5
            refine ⟨?_, Ne.symm qne, x, hx, by rw [upd_ne (Ne.symm qne), upd_same]⟩
            cases w : H0 s.heap.objs.size with
            | none => rfl
            | some o => rw [B.keep _ _ w] at fr; cases fr
      · have keepq : ∀ b o, b ≠ q → h'.get? b = some o → (h'.update q (Obj.mapSeq (·.push (Value.ref s.heap.objs.size)))).get? b = some o := fun b o hb k => (Heap.get?_update_other h' _ (Ne.symm hb)).trans k
        have eq : e ≠ q := fun z => by have := (hf e (by simp)).1; rw [z, B.lst] at this; cases this
        rcases st' with ⟨old, he⟩ | ⟨old, T, f, oT, he, hTT, r1, r2⟩
        · exact .inl ⟨old, keepq _ _ eq he⟩
        · by_cases c : T = q
          · exact .inr ⟨old, T, f, _, keepq _ _ eq he, by rw [c]; exact PySem.IsL.update e2 _, r1, r2⟩
          · exact .inr ⟨old, T, f, oT, keepq _ _ eq he, keepq _ _ c hTT, r1, r2⟩
      · have iq : it ≠ q := fun z => by have := (hf it (by simp)).1; rw [z, B.lst] at this; cases this
        exact hit'.at fun o k => (Heap.get?_update_other h' _ (Ne.symm iq)).trans k
      · intro b hb
        obtain ⟨f0, f1, f2, f3, f4, f5⟩ := hf b hb
        have hbl : b < s.heap.objs.size := by
          have e' : b = e ∨ b = it := by simpa using hb
          rcases e' with z | z
          · rw [z]; exact hel
          · rw [z]; exact hil
        refine ⟨?_, f1, f2, f3, f4, f5⟩
        rw [upd_ne (fun z => by rw [z, B.lst] at f0; cases f0), upd_ne (Nat.ne_of_lt hbl)]
        exact f0
    have nit : s.heap.objs.size ≠ it := Nat.ne_of_gt hil
    have ec : ((i + 1 : Nat) : Int) = (i : Int) + 1 := by omega
    have hu' : its.toArray[i]? = some u := by simpa using hu
    rcases st with ⟨old, he⟩ | ⟨old, T, f, oT, he, hT, r1, r2⟩
    · have hel := Heap.lt_size he
      exact wpAny_bind (wpAny_pyNext_enum_item he hit pl.isList hu' hne fun h' ho hit' hT hsz hk => go h' (.inr ⟨_, s.heap.objs.size, false, _, by rw [ec]; exact ho, hT, Nat.ne_of_gt hel, nit⟩) hit' hT hel hk)
    · have hel := Heap.lt_size he
      exact wpAny_bind (wpAny_pyNext_enum_item_held he hT r1 r2 hit pl.isList hu' hne fun h' ho hit' hT' hsz hk => go h' (.inr ⟨old, T, true, oT, by rw [ec]; exact ho, hk _ _ r1 r2 hT, r1, r2⟩) hit' hT' hel hk)
theorem hint_enum {prog : Program} {w : World} {A : Around} {E : Value → Shared → Prop} {s : Shared} {r : Addr} {Q : Bool → Shared → Prop} (hT : s.TypeIs (.ref r) "enumerate") (h : Q true s) :
    wpAny (model prog w) A (Builtin.List.listLengthHint (.ref r)) Q E s := by
  have hl : typeLookup (.type "enumerate") "__len__" = pure none := by rw [typeLookup_type, builtinLookup_eq_fast]; kernel_rfl
  have hn0 : typeLookup (.type "enumerate") "__length_hint__" = pure none := by rw [typeLookup_type, builtinLookup_eq_fast]; kernel_rfl
  unfold Builtin.List.listLengthHint
  refine wpAny_bind (wpAny_specialOf hT hl ?_)
  show wpAny _ A (specialOf (Value.ref r) (Str.ofString "__length_hint__") >>= _) _ _ _
  refine wpAny_bind (wpAny_specialOf hT hn0 ?_)
  exact wpAny_pure h
/-- what list(enumerate(xs)) gives -/
def tLE (ta : TA) (K : PySem.W.Frag) : TE := fun σ H Q => ta σ H fun vs H1 => ∃ a xs, vs = [.ref a] ∧ SqL K H1 a xs ∧ ∀ q Ts H', Built K H1 a q xs xs.length Ts H' → Q (.ref q) H'
theorem pe_listEnum {o : Expr} {ta : TA} {p p2 pos pos2 : Pos} (hcm : X.calm = true) (hg : Gl X "list") (hm : X.mg "list" = none) (hge : Gl X "enumerate") (hme : X.mg "enumerate" = none) (ha : PA X [o] ta)
    (hs : starEach [o] X.env = [(false, eval o X.env)] := by rfl) (na : starEach [.Call (.Name "enumerate" p2) [o] [] pos2] X.env = (false, eval (.Call (.Name "enumerate" p2) [o] [] pos2) X.env) :: starEach [] X.env := by rfl) :
    PE X (.Call (.Name "list" p) [.Call (.Name "enumerate" p2) [o] [] pos2] [] pos) (tLE ta X.K) := by
  refine ⟨fun pins s σ H Q I h => ?_⟩
  refine Call_ (ld_blt I hg hm boot_list (PyProof.Rows.callWith_type1 (args_cons (Call_ (ld_blt I hge hme boot_enumerate (PyProof.Rows.callWith_type1 (thn (ha.run pos2 pins s σ H _ I h) fun us s1 ⟨vs, H1, I1, r1, q1⟩ => ?_) hs rfl))) na) na))
  obtain ⟨a, xs, ex, hq, q⟩ := q1
  subst ex
  cases r1 with
  | cons r rr =>
    cases rr
    cases r
    obtain ⟨its, rv, p', hz⟩ := I1.list hq
    refine call_enumerate_list p'.isList fun h' he hit hsz hk => args_nil ?_
    have I2 : Inv X pins σ H1 { s1 with heap := h' } := I1.kept (t' := s1.toks) hk
    have hfp : ∀ b ∈ [s1.heap.objs.size + 1, s1.heap.objs.size], FpOk X pins H1 b := fun b hb => by
      have e' : b = s1.heap.objs.size + 1 ∨ b = s1.heap.objs.size := by simpa using hb
      have hle : s1.heap.objs.size ≤ b := by
        rcases e' with z | z
        · rw [z]; exact Nat.le_add_right _ _
        · rw [z]; exact Nat.le_refl _
      exact I1.fpOk hle (I1.hok.fresh hle)
    -- list(..)
    refine callType_codes (Q₁ := fun obj s₁ => obj = .ref h'.objs.size ∧ s₁ = { s1 with heap := h'.push { cls := .type "list", data := .seq #[] } }) PySem.F.called_list (PySem.F.typeCall_list_1 _) PySem.F.entry_list_init
      (code_list_new _ ⟨rfl, rfl⟩) fun obj s₁ h₁ => ?_
    obtain ⟨rfl, rfl⟩ := h₁
    have hS : (h'.push { cls := .type "list", data := .seq #[] }).get? h'.objs.size = some { cls := .type "list", data := .seq #[] } := Heap.get?_push_size _ rfl
    refine ⟨⟨_, hS, rfl⟩, PySem.F.args_list_init_2 _ _, ?_⟩
    have fr : H1 h'.objs.size = none := I2.hok.fresh (Nat.le_refl _)
    have J1 : Inv X pins σ (upd H1 h'.objs.size (.lst [])) { s1 with heap := h'.push { cls := .type "list", data := .seq #[] } } := I2.lnew (its := []) (t' := s1.toks) .nil (Nat.zero_le _)
    show wpAny _ _ (do let old ← Builtin.List.listItems (.ref h'.objs.size); Builtin.List.listUpdate (.ref h'.objs.size) (fun _ => #[]); letGo old.toList.reverse; Builtin.List.listExtendWith (.ref h'.objs.size) (.ref (s1.heap.objs.size + 1)) .none) _ _ _
    refine wpAny_bind ?_
    unfold Builtin.List.listItems
    refine wpAny_bind (wpAny_seqItems hS rfl (wpAny_pure ?_))
    show wpAny _ _ (updateSeq h'.objs.size (fun _ => #[]) >>= fun _ => letGo (#[] : Array Value).toList.reverse >>= fun _ => Builtin.List.listExtendWith (.ref h'.objs.size) (.ref (s1.heap.objs.size + 1)) .none) _ _ _
    refine wpAny_bind (wpAny_updateSeq hS rfl ?_)
    have J2 := J1.lset (f := fun _ => #[]) (its := []) (its' := []) (ys := []) (t' := s1.toks) upd_same hS rfl .nil (Nat.zero_le _)
    rw [upd_upd] at J2
    refine wpAny_bind (wpAny_letGo ?_)
    have qe : h'.objs.size ≠ s1.heap.objs.size + 1 := by rw [hsz]; omega
    have qi : h'.objs.size ≠ s1.heap.objs.size := by rw [hsz]; omega
    have stay : ∀ b o, h'.get? b = some o → ((h'.push { cls := .type "list", data := .seq #[] }).update h'.objs.size (Obj.mapSeq fun _ => #[])).get? b = some o := fun b o k =>
      (Heap.get?_update_other _ _ (Nat.ne_of_gt (Heap.lt_size k))).trans (Heap.get?_push_of_some _ k)
    have he2 := stay _ _ he
    unfold Builtin.List.listExtendWith
    refine wpAny_bind (wpAny_typeOf (T := "enumerate") ⟨_, he2, rfl⟩ ?_)
    have h1 : Builtin.List.listSameRef (.ref h'.objs.size) (.ref (s1.heap.objs.size + 1)) = false := by simp [Builtin.List.listSameRef, qe]
    have h2 : (Value.type "enumerate" == Value.type "list") = false := by decide
    have h3 : (Value.type "enumerate" == Value.type "tuple") = false := by decide
    simp only [h1, h2, h3, Bool.or_false, Bool.false_eq_true, if_false]
    refine wpAny_bind (wpAny_pyIter_enum he2 ?_)
    refine wpAny_bind (wpAny_holding (hint_enum ⟨_, he2, rfl⟩ ?_))
    have B0 : Built X.K H1 a h'.objs.size xs 0 [] (upd H1 h'.objs.size (.lst [])) := ⟨rfl, upd_same, fun b o k => by rw [upd_ne (ne_of_none k fr)]; exact k, fun b k => by
      by_cases c : b = h'.objs.size
      · exact .inr (.inl c)
      · rw [upd_ne c] at k; exact .inl k, fun j T k => by simp at k, fr, hq⟩
    have fin := fun (Rs : Result → Shared → Prop) (J : Inv X pins σ (upd H1 h'.objs.size (.lst [])) { s1 with heap := ((h'.push { cls := .type "list", data := .seq #[] }).update h'.objs.size (Obj.mapSeq fun _ => #[])) }) (hd : ∀ Ts H s, Inv X pins σ H s → Built X.K H1 a h'.objs.size xs xs.length Ts H → Rs (.ok (.ret .none)) s) =>
      enum_loop (A1 := X.A.in1) (Rs := Rs) (I1.ok.hd hcm) (show s1.heap.objs.size + 1 ≠ s1.heap.objs.size by omega) hd xs.length 0 [] _ _ (by omega) J B0 (.inl ⟨_, he2⟩) (hit.at fun o k => stay _ o k) (fun b hb => by
        obtain ⟨f0, f1, f2, f3, f4, f5⟩ := hfp b hb
        refine ⟨?_, f1, f2, f3, f4, f5⟩
        have e' : b = s1.heap.objs.size + 1 ∨ b = s1.heap.objs.size := by simpa using hb
        have hbn : b ≠ h'.objs.size := by
          rw [hsz]
          rcases e' with z | z
          · rw [z]; exact Nat.ne_of_lt (Nat.lt_succ_self _)
          · rw [z]; exact Nat.ne_of_lt (Nat.lt_succ_of_lt (Nat.lt_succ_self _))
        rw [upd_ne hbn]
        exact f0)
    refine wpAny_ite_split (fun _ => ?_) (fun _ => wpAny_pure ⟨plainId_quiet PySem.F.plain_extend_loop _, fin _ J2 fun Ts H' s' I' B' => ⟨rfl, .ref h'.objs.size, H', I', rfl, q _ Ts H' B'⟩⟩)
    refine wpAny_bind (wpAny_rule ?_)
    refine wpAny_bind ?_
    show wpAny _ _ (updateSeq h'.objs.size (·.push .none) >>= fun _ => updateSeq h'.objs.size (·.pop)) _ _ _
    obtain ⟨z, its3, k3, r3, hl3, e3⟩ := J2.lstM upd_same
    cases r3
    refine wpAny_bind (wpAny_updateSeq e3 rfl ?_)
    have J3 := J2.lset (f := (·.push Value.none)) (its' := [Value.none]) (ys := [.non]) (t' := s1.toks) upd_same e3 (by simp) (.cons rfl .nil) (by rw [List.length_singleton, sizeLine_eq]; decide)
    obtain ⟨z4, its4, k4, r4, hl4, e4⟩ := J3.lstM upd_same
    obtain ⟨u4, rfl, ru4⟩ := r4.one
    refine wpAny_updateSeq e4 rfl ?_ (by show 1 ≤ sizeLine; rw [sizeLine_eq]; decide) (by show 0 ≤ sizeLine + 1; exact Nat.zero_le _)
    have J4 := J3.lset (f := (·.pop)) (its := [u4]) (its' := []) (ys := []) (t' := s1.toks) upd_same e4 (by rfl) .nil (Nat.zero_le _)
    rw [upd_upd, upd_upd] at J4
    refine wpAny_pure ⟨plainId_quiet PySem.F.plain_extend_loop _, ?_⟩
    have stay2 : ∀ (h2 : Heap) (f : Array Value → Array Value) b o, b ≠ h'.objs.size → h2.get? b = some o → (h2.update h'.objs.size (Obj.mapSeq f)).get? b = some o := fun h2 f b o hb k => (Heap.get?_update_other _ _ (Ne.symm hb)).trans k
    exact enum_loop (A1 := X.A.in1) (I1.ok.hd hcm) (show s1.heap.objs.size + 1 ≠ s1.heap.objs.size by omega) (fun Ts H' s' I' B' => ⟨rfl, .ref h'.objs.size, H', I', rfl, q _ Ts H' B'⟩) xs.length 0 [] _ _ (by omega) J4 B0
      (.inl ⟨_, stay2 _ _ _ _ (Ne.symm qe) (stay2 _ _ _ _ (Ne.symm qe) he2)⟩) (hit.at fun o k => stay2 _ _ _ o (Ne.symm qi) (stay2 _ _ _ o (Ne.symm qi) (stay _ o k))) (fun b hb => by
        obtain ⟨f0, f1, f2, f3, f4, f5⟩ := hfp b hb
        refine ⟨?_, f1, f2, f3, f4, f5⟩
        have e' : b = s1.heap.objs.size + 1 ∨ b = s1.heap.objs.size := by simpa using hb
        have hbn : b ≠ h'.objs.size := by
          rw [hsz]
          rcases e' with z | z
          · rw [z]; exact Nat.ne_of_lt (Nat.lt_succ_self _)
          · rw [z]; exact Nat.ne_of_lt (Nat.lt_succ_of_lt (Nat.lt_succ_self _))
        rw [upd_ne hbn]
        exact f0)
/-- list(enumerate(xs)), a new list -/
theorem el_enum {o : Expr} {fs : Ag} {p p2 pos pos2 : Pos} (hcm : X.calm = true) (hg : Gl X "list") (hm : X.mg "list" = none) (hge : Gl X "enumerate") (hme : X.mg "enumerate" = none) (ha : AN X [o] 1 fs)
    (hs : starEach [o] X.env = [(false, eval o X.env)] := by rfl) (na : starEach [.Call (.Name "enumerate" p2) [o] [] pos2] X.env = (false, eval (.Call (.Name "enumerate" p2) [o] [] pos2) X.env) :: starEach [] X.env := by rfl) :
    EL X (.Call (.Name "list" p) [.Call (.Name "enumerate" p2) [o] [] pos2] [] pos) (gEnum fs) := by
  obtain ⟨t, h1, h2⟩ := ha.a.ex
  refine ⟨⟨_, pe_listEnum hcm hg hm hge hme h1 hs na, fun G0 H0 Z Γ σ G H Q ds R hf k => ?_⟩⟩
  obtain ⟨xs, e1, hf⟩ := obind hf
  have hl := ha.n Γ xs e1
  refine h2 G0 H0 Z Γ σ G H _ _ R e1 fun G1 H1 vs x1 r1 => ?_
  match xs, hl, hf, r1 with
  | [x], _, hf, .cons r .nil =>
    replace hf : ((dItems x).bind fun xs => some (enumD 0 xs)) = some ds := hf
    obtain ⟨as, a1, hf⟩ := obind hf
    cases hf
    obtain ⟨p1, vs1, rfl, s1, r1⟩ := r.items a1
    refine ⟨p1, vs1, rfl, x1.gh.seq s1, fun q Ts H' B => ?_⟩
    have lv := r1.length
    -- what is known now: the pairs too
    have hmem : ∀ T, T ∈ Ts → ∃ j, Ts[j]? = some T := fun T hT => List.mem_iff_getElem?.mp hT
    classical
    let G2 : Hp := fun b => if b ∈ Ts then H' b else G1 b
    have gT : ∀ T, T ∈ Ts → H1 T = none ∧ T ≠ q ∧ H' T ≠ none := fun T hT => by
      obtain ⟨j, hj⟩ := hmem T hT
      obtain ⟨t1, t2, y, t3, t4⟩ := B.tup j T hj
      exact ⟨t1, t2, by rw [t4]; simp⟩
    have qT : q ∉ Ts := fun z => (gT q z).2.1 rfl
    have sg : Same G1 G2 := fun b u z => by
      show (if b ∈ Ts then H' b else G1 b) = some u
      rw [if_neg (fun w => by have := (gT b w).1; rw [x1.gh b u z] at this; cases this)]
      exact z
    have e : Ext G1 H1 G2 H' := Ext.same sg B.keep (fun b u z => by
      have z : (if b ∈ Ts then H' b else G1 b) = some u := z
      split at z
      · exact z
      · exact B.keep _ _ (x1.gh b u z)) fun b z => by
      have z : (if b ∈ Ts then H' b else G1 b) ≠ none := z
      split at z
      · rename_i w; exact .inr (gT b w).1
      · exact .inl z
    have q2 : G2 q = none := by
      show (if q ∈ Ts then H' q else G1 q) = none
      rw [if_neg qT]
      exact x1.gh.free B.q0
    refine k G2 H' q _ (x1.trans e) (x1.hf B.q0) q2 B.lst ?_
    -- the items
    have items : ∀ (Us : List Addr) (vs2 : List V) (ds2 : List D) (j : Nat), Us.length = vs2.length → RepL X.K X.mg G1 vs2 ds2 → (∀ i T, Us[i]? = some T → ∃ x, vs2[i]? = some x ∧ G2 T = some (.tup [.int ((j + i : Nat) : Int), x])) → RepL X.K X.mg G2 (Us.map V.ref) (enumD j ds2) := by
      intro Us
      induction Us with
      | nil =>
        intro vs2 ds2 j hl hr _
        cases vs2 with
        | nil => cases hr; exact .nil
        | cons => simp at hl
      | cons U Us ih =>
        intro vs2 ds2 j hl hr hg
        cases hr with
        | nil => simp at hl
        | cons h r =>
          obtain ⟨y, y1, y2⟩ := hg 0 U rfl
          cases y1
          refine .cons (.tup (SqT.of y2) (.cons (.int _) (.cons (h.mono sg) .nil))) (ih _ _ (j + 1) (by simpa using hl) r fun i T hT => ?_)
          obtain ⟨w, w1, w2⟩ := hg (i + 1) T (by simpa using hT)
          refine ⟨w, by simpa using w1, ?_⟩
          have e5 : j + 1 + i = j + (i + 1) := by omega
          rw [e5]
          exact w2
    refine items Ts vs1 as 0 B.len r1 fun i T hT => ?_
    obtain ⟨t1, t2, y, t3, t4⟩ := B.tup i T hT
    refine ⟨y, t3, ?_⟩
    show (if T ∈ Ts then H' T else G1 T) = _
    rw [if_pos (List.mem_of_getElem? hT), t4]
    simp
end
end DL

namespace DL
open PySem L2
variable [TC : TabCtx]

def dShl : D → D → Option D
  | .int i, .int j => if 0 ≤ j ∧ j ≤ 1000000 ∧ i.natAbs < 2 ^ 64 then some (.int (i * 2 ^ j.toNat)) else none
  | _, _ => none
section
variable {X : Cx} {e a b o : Expr} {f g k : Ex} {fs : Ag} {pos pos' : Pos} {n i : Nat} {rp : Pth}
theorem od_shl : OpD X (binaryOp .LShift) dShl := opd_i op_shl fun x y d e => by
  unfold dShl at e
  split at e
  · split at e
    · cases e; rename_i z; exact ⟨_, _, rfl, rfl, z, fun _ _ _ => .int _⟩
    · cases e
  · cases e
/-- a global name that is an int -/
def GlI (mg : Str → Option Value) (x : Str) (n : Int) : Prop := ∃ t, mg x = some (.int n t)
theorem e_gint {x : Str} {n : Int} (hm : GlI X.mg x n) (hg : Gl X x := by rfl) (hd : (x == ("__debug__" : Str)) = false := by decide) : E X (.Name x pos) (gI n) := by
  obtain ⟨t, hm⟩ := hm
  exact ⟨⟨_, pe_glob hg hm (v := .int n) ⟨t, rfl⟩ hd, fun G0 H0 Z Γ σ G H Q d R hf k => by cases hf; exact k G H _ (Ext.refl R.gh) (.int n)⟩⟩
/-- xs[::-1] -/
def gRevL (f : Ex) : Ag := fun Γ => (f Γ).bind fun x => match x with
  | .lst xs => some xs.reverse
  | _ => none
theorem el_revL {kk : Nat} {p1 p2 p3 : Pos} (he : B X e f) : EL X (.Subscript e (.Slice none none (some (.UnaryOp .USub (.Constant (.int 1) kk p1) p2)) p3) pos) (gRevL f) := by
  obtain ⟨t, h1, h2⟩ := he.ex
  refine ⟨⟨_, pe_revL h1, fun G0 H0 Z Γ σ G H Q ds R hf k => ?_⟩⟩
  obtain ⟨x, e1, hf⟩ := obind hf
  cases x with
  | lst xs =>
    cases hf
    refine h2 G0 H0 Z Γ σ G H _ _ R e1 fun G1 H1 v x1 r1 => ?_
    obtain ⟨p, vs, rfl, hp, rp⟩ := r1.lst x1.gh
    refine ⟨p, vs, rfl, SqL.of hp, fun q hq => ?_⟩
    exact k G1 _ q _ (x1.trans (Ext.own1 x1.gh hq)) (x1.hf hq) (x1.gh.free hq) upd_same rp.reverse
  | _ => cases hf
/-- P.pop() -/
def sPop (i : Nat) (rp : Pth) : Sm := fun Γ => match gP i rp Γ with
  | some (.ow xs) => if xs = [] then none else upP i rp (.ow xs.dropLast) Γ
  | _ => none
theorem RepL.dropLast {K : PySem.W.Frag} {mg : Str → Option Value} {G : Hp} {vs : List V} {ds : List D} (r : RepL K mg G vs ds) : RepL K mg G vs.dropLast ds.dropLast := by
  rw [List.dropLast_eq_take, List.dropLast_eq_take, r.length]
  exact r.take _
theorem s_pop {ap : Pos} (hp : PL X o i rp)
    (hpe : ∀ {r : V → List V → Hp → VK → Prop} {to : TE}, MtR X "list.pop" r → PE X o to → PE X (.Call (.Attribute o "pop" ap) [] [] pos) (tBM0 X.K "list" r to) := by intro r to hm ho; exact pe_bm0 PySem.F.plainAttrs_list PySem.F.slot_list_pop PySem.F.type_list_pop hm ho)
    (hs : swapsWith (.Call (.Attribute o "pop" ap) [] [] pos) none pos'.line X.env = pure false := by rfl) : S X (.Expr (.Call (.Attribute o "pop" ap) [] [] pos) pos') (sPop i rp) := by
  obtain ⟨u, u1, u2⟩ := hp.ex
  refine ⟨⟨_, ps_expr (hpe mt_pop u1) hs, fun G0 H0 Z Γ σ G H D r R hf k => ?_⟩⟩
  unfold sPop at hf
  cases q : gP i rp Γ with
  | none => rw [q] at hf; cases hf
  | some s1 =>
    rw [q] at hf
    cases s1 with
    | ow xs =>
      replace hf : (if xs = [] then none else upP i rp (.ow xs.dropLast) Γ) = some r := hf
      split at hf
      · cases hf
      · rename_i hl
        obtain ⟨s, s2, a1, a2, rfl⟩ := upP_some hf
        obtain ⟨s', b1, b2, b3⟩ := gP_some q (by simp [SlP])
        rw [a1] at b1
        cases b1
        refine u2 G0 H0 Z Γ σ G H G H _ s _ R (Ext.refl R.gh) a1 b2 b3 (by simp) fun v pk => ?_
        obtain ⟨F0, p0⟩ := pk G H (Ext.refl R.gh)
        obtain ⟨l, ws, rfl, d1, d2, d3⟩ := p0.list R.gh
        refine ⟨.inl ⟨rfl, _, SqL.of d1⟩, ?_⟩
        have hlen := d2.length
        have hpos : 0 < xs.length := List.length_pos_iff.mpr hl
        refine ⟨_, ws, ws[ws.length - 1]'(by omega), rfl, rfl, d1, List.getElem?_eq_getElem _, ?_⟩
        exact k σ G _ (d3 _ _ _ d2.dropLast a2)
    | _ => cases hf
end
end DL

namespace DL
open PySem L2
variable [TC : TabCtx]
/-! ### P.f, a, b = e -/
/-- an attribute as a target -/
def gAttr (K : PySem.W.Frag) (ta : TE) (f : Str) : TG := fun v σ H Q => ta σ H fun x H1 => ∃ a C dx fs, x = .ref a ∧ H1 a = some (.ins C dx fs) ∧ Cls K C ∧ NoAttr K C f ∧ fs.length < 1000 ∧ Q σ (L2.upd H1 a (.ins C dx (putF f v fs)))
theorem pg_attr {X : Cx} {o : Expr} {ta : TE} {f : Str} {pos : Pos} (ha : PE X o ta) : PG X (.Attribute o f pos) (gAttr X.K ta f) := by
  refine ⟨fun pins s σ H v u Q I r h => ?_⟩
  rw [PySem.assign_Attribute]
  refine wpAny_bind (wpAny_holding (thn (ha.run pins s σ H _ I h) fun ov s1 ⟨x, H1, I1, rx, a, C, dx, fs, ex, ea, c, n, l, q⟩ => ?_))
  subst ex
  obtain rfl : ov = Value.ref a := rx
  refine wpAny_bind (wpAny_standAt (wpAny_bind (wpAny_holding (setattr_ok I1 ea c n l r fun s3 I3 => ?_))))
  exact wpAny_release ⟨σ, _, I3, q⟩
def sUnpF (i : Nat) (rp : Pth) (c j n : Nat) (gs : Gss) (f : Ex) : Sm := fun Γ => (f Γ).bind fun d => match d with
  | .tup (d0 :: ds) => if ds.length + 1 = n then (DL.sFld i rp c j (fun _ => some (.sh d0)) Γ).bind fun r => match r with
      | .nx Γ1 => (gs ds Γ1).bind fun Γ' => some (.nx Γ')
      | _ => none
    else none
  | _ => none
section
variable {X : Cx} {e o : Expr} {es : List Expr} {f : Ex} {pos pos' pt : Pos} {n k : Nat} {ix : List Nat} {gs : Gss}
theorem s_unpF {i : Nat} {rp : Pth} {c j : Nat} {C : Addr} {x : Str} (ck : CK X.K X.mg c C) (hp : PL X o i rp) (he : E X e f) (hl : GL X es ix gs) (hc : X.calm = true) (hj : (cF c)[j]? = some x := by rfl) (nd : (cF c).Nodup := by decide +kernel)
    (hn : (assignEach (.Attribute o x pos' :: es) X.env).length = n := by rfl) (hst : (assignEach (.Attribute o x pos' :: es) X.env).findIdx? (·.1) = none := by rfl)
    (hcs : (assignEach (.Attribute o x pos' :: es) X.env).map (·.2) = assign (.Attribute o x pos') X.env :: (assignEach es X.env).map (·.2) := by rfl)
    (hs : swapsWithSole [.Tuple (.Attribute o x pos' :: es) k pt] e pos.line X.env = pure false := by rfl) (hw : swappedStores [.Tuple (.Attribute o x pos' :: es) k pt] e X.env = pure none := by rfl)
    (h1 : (assignEach [.Tuple (.Attribute o x pos' :: es) k pt] X.env).map (·.2) = [assign (.Tuple (.Attribute o x pos' :: es) k pt) X.env] := by rfl) :
    S X (.Assign [.Tuple (.Attribute o x pos' :: es) k pt] e pos) (sUnpF i rp c j n gs f) := by
  obtain ⟨t, t1, t2⟩ := he.ex
  obtain ⟨u, u1, u2⟩ := hp.ex
  obtain ⟨w, w1, w2⟩ := hl.ex
  refine ⟨⟨_, ps_asg t1 (pg_tup hc (pgs_cons (pg_attr u1) w1 hcs) hn hst) hs hw h1, fun G0 H0 Z Γ σ G H D r R hf kk => ?_⟩⟩
  obtain ⟨d, e1, hf⟩ := obind hf
  refine t2 G0 H0 Z Γ σ G H _ d R e1 fun G1 H1 v x1 hd => ?_
  cases d with
  | tup dd =>
    cases dd with
    | nil => cases hf
    | cons d0 ds =>
      replace hf : (if ds.length + 1 = n then (DL.sFld i rp c j (fun _ => some (.sh d0)) Γ).bind fun r => match r with
        | .nx Γ1 => (gs ds Γ1).bind fun Γ' => some (.nx Γ')
        | _ => none else none) = some r := hf
      split at hf
      · rename_i hlen
        obtain ⟨r1, e2, hf⟩ := obind hf
        cases hd with
        | tup hT rr =>
          have hvl := rr.length
          cases rr with
          | cons r0 rr =>
            rename_i pa v0 vs
            refine ⟨_, _, rfl, sqt_same x1.gh hT, by rw [hvl]; simpa using hlen, _, _, rfl, ?_⟩
            have go : ∀ Γ1 H', Rel X.K X.mg G0 H0 Z Γ1 σ G1 H' → r1 = .nx Γ1 → w vs σ H' D.nx := fun Γ1 H' R1 e3 => by
              subst e3
              obtain ⟨Γ', e4, hf⟩ := obind hf
              cases hf
              exact w2 G0 H0 Z Γ1 σ G1 H' _ ds vs Γ' R1 rr e4 fun σ' R' _ => kk σ' G1 H' R'
            clear hf
            replace e2 : (match gP i rp Γ with
              | some (.ob c' fs) => if c' = c then (if j < fs.length then upP i rp (.ob c (fs.set j (.sh d0))) Γ else if j = fs.length then upP i rp (.ob c (fs ++ [.sh d0])) Γ else none) else none
              | _ => none) = some r1 := e2
            cases q : gP i rp Γ with
            | none => rw [q] at e2; cases e2
            | some par =>
              rw [q] at e2
              cases par with
              | ob c' fs =>
                replace e2 : (if c' = c then (if j < fs.length then upP i rp (.ob c (fs.set j (.sh d0))) Γ else if j = fs.length then upP i rp (.ob c (fs ++ [.sh d0])) Γ else none) else none) = some r1 := e2
                split at e2
                · rename_i hcc
                  subst hcc
                  obtain ⟨s, b1, b2, b3⟩ := gP_some q (by simp [SlP])
                  refine u2 G0 H0 Z Γ σ G H G1 H1 _ s _ R x1 b1 b2 b3 (by simp) fun vq pk => ?_
                  obtain ⟨F1, P⟩ := pk G1 H1 x1
                  have hdP := P.hd
                  cases hdP with
                  | ob f hm ho nn sF rs =>
                    rename_i p C' dx vf F'
                    rw [ck.hm] at hm
                    cases hm
                    refine ⟨p, C, dx, _, rfl, ho, ck.cl, ck.na x (List.mem_of_getElem? hj), zip_short, ?_⟩
                    have gp := (P.fr p f).1
                    have hlen2 := rs.length
                    have fin : ∀ (vs' : List V) (fs' : List Sl) (s2 : Sl), putF x v0 ((cF c').zip vf) = (cF c').zip vs' → (∀ {Hx : Hp}, HdL X.K X.mg G1 Hx vf F' fs → Hd X.K X.mg G1 Hx v0 (fun _ => False) (.sh d0) → HdL X.K X.mg G1 Hx vs' (fun a => F' a ∨ False) fs') → setR rp (.ob c' fs') s = some s2 →
                        Rel X.K X.mg G0 H0 Z (Γ.set i s2) σ G1 (upd H1 p (.ins C dx (putF x v0 ((cF c').zip vf)))) := fun vs' fs' s2 ez mk es => by
                      rw [ez]
                      have keep : ∀ (Y : Addr → Prop), ¬ Y p → ∀ a o, Y a → H1 a = some o → upd H1 p (.ins C dx ((cF c').zip vs')) a = some o := fun Y hy a o ya q => by
                        rw [upd_ne]
                        · exact q
                        · intro e; subst e; exact hy ya
                      refine P.up G1 _ (fun a => F1 a ∨ False) (.ob c' fs') s2 (Same.refl _) (fun a o q => ?_) (fun a q => .inl q) (fun a o nf q => ?_) ?_ (fun a y => ?_) (fun _ => rfl) es
                      · rw [upd_ne (ne_of_none q gp)]; exact x1.gh _ _ q
                      · rw [upd_ne]
                        · exact q
                        · intro e; subst e; exact nf f
                      · refine .ob (.inl f) ck.hm upd_same (F' := fun a => F' a ∨ False) (fun y => y.elim nn (fun y => y.elim)) (fun a y => y.elim (fun y => .inl (sF a y)) .inr) ?_
                        exact mk (rs.mono (Same.refl _) (fun a o y q _ => keep F' nn a o y q)) (.sh r0)
                      · have up : H1 a ≠ none → upd H1 p (.ins C dx ((cF c').zip vs')) a ≠ none := fun q => by
                          by_cases e : a = p
                          · subst e; rw [upd_same]; simp
                          · rw [upd_ne e]; exact q
                        rcases y with y | y
                        · exact ⟨(P.fr a y).1, up (P.fr a y).2.2.1, .inl y⟩
                        · exact y.elim
                    have djL : ∀ a, (fun _ : Addr => False) a → ¬ F' a := fun a y _ => y.elim
                    split at e2
                    · rename_i hjl
                      obtain ⟨s', s2, a1, a2, rfl⟩ := upP_some e2
                      rw [b1] at a1
                      cases a1
                      exact go _ _ (fin (vf.set j v0) _ s2 (putF_set nd hj (by rw [hlen2]; exact hjl)) (fun r h => r.setv j h djL) a2) rfl
                    · split at e2
                      · rename_i hjl
                        obtain ⟨s', s2, a1, a2, rfl⟩ := upP_some e2
                        rw [b1] at a1
                        cases a1
                        exact go _ _ (fin (vf ++ [v0]) _ s2 (putF_snoc nd (by rw [hlen2, ← hjl]; exact hj)) (fun r h => r.snoc h djL) a2) rfl
                      · cases e2
                · cases e2
              | _ => cases e2
      · cases hf
  | _ => cases hf
end
end DL

namespace DL
open PySem L2
variable [TC : TabCtx]
/-! ### an object that is new is written, and forgotten -/
theorem Ext.put {G H G1 H1 : Hp} {p : Addr} {o : HO} (x : Ext G H G1 H1) (hp : H p = Option.none) (gp : G1 p = Option.none) : Ext G H G1 (upd H1 p o) :=
  ⟨x.gg, fun a u q n => by rw [upd_ne (ne_of_none q hp)]; exact x.hh a u q n, fun a u q => by rw [upd_ne (ne_of_none q gp)]; exact x.gh a u q, x.new, fun a h => by
    by_cases z : a = p
    · subst z; rw [upd_same]; simp
    · rw [upd_ne z]; exact x.hn a h, fun t => TC.ti.keep (x.tb t) (Same.refl _) (fun a h => upd_ne (fun z => (TC.ti.live t a h).1 (by rw [z]; exact hp))) (fun _ _ g => g)⟩
section
variable {K : PySem.W.Frag} {mg : Str → Option Value} {G H : Hp}
theorem HdL.get : ∀ {vs : List V} {F : Addr → Prop} {ss : List Sl} (i : Nat) {s : Sl}, HdL K mg G H vs F ss → ss[i]? = some s → ∃ v F1, vs[i]? = some v ∧ Hd K mg G H v F1 s ∧ ∀ a, F1 a → F a
  | _, _, _, _, _, .nil, h => by simp at h
  | _, _, _, 0, _, .cons h r s1 s2 d, e => by simp at e; subst e; exact ⟨_, _, rfl, h, s1⟩
  | _, _, _, i + 1, _, .cons h r s1 s2 d, e => by
    obtain ⟨v, F1, e1, e2, e3⟩ := HdL.get i r (by simpa using e)
    exact ⟨v, F1, by simpa using e1, e2, fun a x => s2 a (e3 a x)⟩
theorem HdL.snocU : ∀ {vs : List V} {F F1 : Addr → Prop} {ss : List Sl} {v : V} {s : Sl}, HdL K mg G H vs F ss → Hd K mg G H v F1 s → (∀ a, F1 a → ¬ F a) → HdL K mg G H (vs ++ [v]) (fun a => F a ∨ F1 a) (ss ++ [s])
  | _, _, _, _, _, _, .nil, q, _ => .cons q (HdL.nil (F := fun _ => False)) (fun _ x => .inr x) (fun _ x => x.elim) (fun _ _ x => x)
  | _, _, _, _, _, _, .cons h r s1 s2 d, q, dj => by
    refine .cons h (HdL.snocU r q fun a x y => dj a x (s2 a y)) (fun a x => .inl (s1 a x)) (fun a x => ?_) fun a x y => ?_
    · rcases x with x | x
      · exact .inl (s2 a x)
      · exact .inr x
    · rcases y with y | y
      · exact d a x y
      · exact dj a y (s1 a x)
end
section
variable {X : Cx} {e o : Expr} {f : Ex} {sx : Sx} {pos pos' : Pos}
def sAppX (sx : Sx) (f : Ex) : Sm := fun Γ => (sx Γ).bind fun s => match s with
  | .ow xs => (f Γ).bind fun _ => if xs.length < 1000000 then some (.nx Γ) else none
  | _ => none
/-- o.append(e), o being new -/
theorem s_appX {ap : Pos} (ho : EN X o sx) (he : E X e f) (hst : starEach [e] X.env = (false, eval e X.env) :: starEach [] X.env := by rfl)
    (hpe : ∀ {r : V → List V → Hp → VK → Prop} {to te : TE}, MtR X "list.append" r → PE X o to → PE X e te → PE X (.Call (.Attribute o "append" ap) [e] [] pos) (tBM X.K "list" r to (tCons te tNil)) := by intro r to te hm ho hp; exact pe_bm PySem.F.plainAttrs_list PySem.F.slot_list_append PySem.F.type_list_append hm ho (pa_cons hp pa_nil))
    (hs : swapsWith (.Call (.Attribute o "append" ap) [e] [] pos) none pos'.line X.env = pure false := by rfl) : S X (.Expr (.Call (.Attribute o "append" ap) [e] [] pos) pos') (sAppX sx f) := by
  obtain ⟨t, h1, h2⟩ := he.ex
  obtain ⟨u, u1, u2⟩ := ho.ex
  refine ⟨⟨_, ps_expr (hpe mt_append u1 h1) hs, fun G0 H0 Z Γ σ G H D r R hf k => ?_⟩⟩
  obtain ⟨s, e1, hf⟩ := obind hf
  cases s with
  | ow xs =>
    obtain ⟨d, e2, hf⟩ := obind hf
    split at hf
    · rename_i hl
      cases hf
      refine u2 G0 H0 Z Γ σ G H _ _ R e1 fun G1 H1 v F x1 r1 fr => ?_
      cases r1 with
      | ow fp hp rl =>
        rename_i p vs
        obtain ⟨g1, g2, g3⟩ := fr p fp
        refine ⟨.inl ⟨rfl, _, SqL.of hp⟩, ?_⟩
        refine h2 G0 H0 Z Γ σ G1 H1 _ d (R.ext x1) e2 fun G2 H2 w x2 r2 => ?_
        refine ⟨p, vs, w, rfl, rfl, x2.hh _ _ hp nofun, ?_, ?_⟩
        · rw [rl.length]; exact Nat.lt_of_lt_of_le hl line_big
        · exact k σ G2 _ (R.ext ((x1.trans x2).put g2 (x2.none g1 g3)))
    · cases hf
  | _ => cases hf
def sAppXi (sx : Sx) (i : Int) (f : Ex) : Sm := fun Γ => (sx Γ).bind fun s => match s with
  | .ol ss => (atI ss i).bind fun s => match s with
    | .ow xs => (f Γ).bind fun _ => if xs.length < 1000000 then some (.nx Γ) else none
    | _ => none
  | _ => none
theorem atI_nth {α β : Type} {xs : List α} {ys : List β} (hl : xs.length = ys.length) {i : Int} {y : β} (h : atI ys i = some y) : ∃ n : Nat, ys[n]? = some y ∧ atI xs i = xs[n]? := by
  unfold atI at h ⊢
  rw [← hl] at h
  obtain ⟨n, e, h⟩ := obind h
  exact ⟨n, h, by rw [e]; rfl⟩
/-- o[i].append(e), o being new -/
theorem s_appXi {ap sp : Pos} {i : Int} {b : Expr} (ho : EN X o sx) (hb : E X b (gI i)) (he : E X e f) (hs2 : PlainIx b := by exact fun _ _ => rfl) (hst : starEach [e] X.env = (false, eval e X.env) :: starEach [] X.env := by rfl)
    (hpe : ∀ {r : V → List V → Hp → VK → Prop} {to te : TE}, MtR X "list.append" r → PE X (.Subscript o b sp) to → PE X e te → PE X (.Call (.Attribute (.Subscript o b sp) "append" ap) [e] [] pos) (tBM X.K "list" r to (tCons te tNil)) := by intro r to te hm ho hp; exact pe_bm PySem.F.plainAttrs_list PySem.F.slot_list_append PySem.F.type_list_append hm ho (pa_cons hp pa_nil))
    (hs : swapsWith (.Call (.Attribute (.Subscript o b sp) "append" ap) [e] [] pos) none pos'.line X.env = pure false := by rfl) : S X (.Expr (.Call (.Attribute (.Subscript o b sp) "append" ap) [e] [] pos) pos') (sAppXi sx i f) := by
  obtain ⟨t, h1, h2⟩ := he.ex
  obtain ⟨u, u1, u2⟩ := ho.ex
  obtain ⟨y, y1, y2⟩ := hb.ex
  refine ⟨⟨_, ps_expr (hpe mt_append (pe_ix ix_seq u1 y1 hs2) h1) hs, fun G0 H0 Z Γ σ G H D r R hf k => ?_⟩⟩
  obtain ⟨s, e1, hf⟩ := obind hf
  cases s with
  | ol ss =>
    obtain ⟨s1, e3, hf⟩ := obind hf
    cases s1 with
    | ow xs =>
      obtain ⟨d, e2, hf⟩ := obind hf
      split at hf
      · rename_i hl
        cases hf
        refine u2 G0 H0 Z Γ σ G H _ _ R e1 fun G1 H1 v F x1 r1 fr => ?_
        cases r1 with
        | ol fp hp n sF rl =>
          rename_i p vs F'
          refine y2 G0 H0 Z Γ σ G1 H1 _ _ (R.ext x1) rfl fun G2 H2 w x2 r2 => ?_
          have ew : w = .int i := by cases r2; rfl
          subst ew
          obtain ⟨n, n1, n2⟩ := atI_nth rl.length e3
          obtain ⟨v1, F1, w1, w2, w3⟩ := rl.get n n1
          have hp2 := x2.hh _ _ hp nofun
          refine .inl ⟨p, vs, i, v1, rfl, rfl, SqL.of hp2, n2.trans w1, ?_⟩
          have w2' := w2.mono x2.gg (fun a o _ q n => x2.hh a o q n)
          cases w2' with
          | ow fq hq rq =>
            rename_i q ws
            obtain ⟨g1, g2, g3⟩ := fr q (sF q (w3 q fq))
            have g1' := x2.none g1 g3
            refine ⟨.inl ⟨rfl, _, SqL.of hq⟩, ?_⟩
            refine h2 G0 H0 Z Γ σ G2 H2 _ d ((R.ext x1).ext x2) e2 fun G3 H3 w x3 r3 => ?_
            refine ⟨q, ws, w, rfl, rfl, x3.hh _ _ hq nofun, ?_, ?_⟩
            · rw [rq.length]; exact Nat.lt_of_lt_of_le hl line_big
            · exact k σ G3 _ (R.ext (((x1.trans x2).trans x3).put g2 (x3.none g1' (by rw [hq]; simp))))
      · cases hf
    | _ => cases hf
  | _ => cases hf
end
/-! ### methods that give a new thing; their arguments looked at or data -/
def spKN (K : PySem.W.Frag) (mg : Str → Option Value) (ms : List Bool) (F : List D → Option Sl) : Sp := fun vs H Q _ =>
  ∃ G ds s, Same G H ∧ TC.ti.t G H ∧ RepM K mg G H ms vs ds ∧ F ds = some s ∧ ∀ G' H' v F', Ext G H G' H' → Hd K mg G' H' v F' s → (∀ a, F' a → G' a = none ∧ H a = none ∧ H' a ≠ none) → Q v H'
def runKN (ms : List Bool) (n : Nat) (F : Sm) : List D → Option Sl := fun ds => (F (slM ms ds ++ List.replicate (n - ms.length) .no)).bind fun r => match r with
  | .rt d => some (.sh d)
  | .ro s => some s
  | .nx _ => some (.sh .non)
  | _ => none
section
variable {P : Program} {w : World} {K : PySem.W.Frag} {mg : Str → Option Value} {base : Heap}
theorem def_okKN {x qual : Str} {st : Stmt} {f : Addr} {fd : FuncData} {N ps : List Str} {k : Nat} {B : Sm} {ms : List Bool} (F : Fun K x qual st f fd) (S : FnScope N ps (defScope st)) (hms : ms.length = ps.length)
    (hbody : ∀ (cdv : Value) (A : Around) (outer : List PySem.Env) (s : Shared) (H : Hp) (E : XK), Room k (A.deeper (PyProof.Rows.envOfC qual (defScope st) s.heap.objs.size f cdv)) →
      Ss (cxOf CX0 P w K mg base N qual (defScope st) f cdv A outer s H E).nox (defBody st) B) : FnOk P w K mg base CX0 (k + 1) f fd ps (spKN K mg ms (runKN ms N.length B)) := by
  refine F.ok S (fun vs H Q E h => ?_) (fun cdv A outer s H vs Q E hr h => ?_)
  · obtain ⟨G, ds, d, gh, _, r, _⟩ := h
    rw [r.len.1, hms]
  · obtain ⟨G, ds, sl, gh, tb, r, hf, k'⟩ := h
    obtain ⟨t, h1, h2⟩ := (hbody cdv A outer s H E hr).ex
    refine ⟨t, h1, ?_⟩
    obtain ⟨r1, e1, hf⟩ := obind hf
    refine h2 G H _ _ _ G H _ r1 (startK_rel gh tb r) e1 ?_
    cases r1 with
    | rt d' => cases hf; exact fun G' H' v x r => k' G' H' v (fun _ => False) x (.sh r) fun _ z => z.elim
    | ro s' => cases hf; exact fun G' H' v F' x h f => k' G' H' v F' x h f
    | nx Γ => cases hf; exact fun σ' G' H' R => k' G' H' _ (fun _ => False) R.end (.sh .non) fun _ z => z.elim
    | rm d s => cases hf
    | bk Γ => cases hf
    | ct Γ => cases hf
    | ra n => cases hf
end
structure MetKN (P : Program) (w : World) (K : PySem.W.Frag) (mg : Str → Option Value) (base : Heap) (c : Nat) (m : Str) (L : Nat) (ps : List Str) (ms : List Bool) (S : List D → Option Sl) : Prop where
  ex : ∃ C f fd, CK K mg c C ∧ Meth K C m f ∧ FnOk P w K mg base CX0 L f fd ps (spKN K mg ms S) ∧ Binds K fd ps []
def gMethN (c : Nat) (F : List D → Option Sl) (f : Ex) (fs : Ag) : Sx := fun Γ => (f Γ).bind fun d => match d with
  | .obj c' vs => if c' = c then (fs Γ).bind fun ds => F (.obj c' vs :: ds) else none
  | _ => none
section
variable {X : Cx} {e a b o : Expr} {es : List Expr} {f g : Ex} {fs : Ag} {pos : Pos} {ms : List Bool}
theorem e_metKN {pl : Sem Bool} {c k L : Nat} {ps : List Str} {S : List D → Option Sl} {m : Str} {apos : Pos} (mt : MetKN X.prog X.w X.K X.mg X.base c m L ps (true :: ms) S) (hr : Room k X.A) (hk : L ≤ k)
    (ho : B X o f) (ha : AM X (a :: es) ms fs) (hno : m ∉ cF c := by decide +kernel)
    (hst : starEach (a :: es) X.env = (false, eval a X.env) :: starEach es X.env := by rfl) (hpl : (backTo pos (starEach es X.env)).any (·.1) = false := by rfl)
    (ht : eval (.Call (.Attribute o m apos) (a :: es) [] pos) X.env = (do
      let ov ← eval o X.env
      standAt apos.atName
      let (f, first) ← holding [ov] (getMethod ov m pl)
      callWith pos f first (backTo pos (starEach (a :: es) X.env)) (backToKw pos (keywordEach [] X.env))) := by rfl) : EN X (.Call (.Attribute o m apos) (a :: es) [] pos) (gMethN c S f fs) := by
  obtain ⟨C, fa, fd, ck, hme, FO, hb⟩ := mt.ex
  obtain ⟨t, h1, h2⟩ := ha.ex
  obtain ⟨u, q1, q2⟩ := ho.ex
  refine ⟨⟨_, pe_meth q1 ck.cl hme FO (hr.mono hk) hb .nil pass0 h1 hst hpl ht, fun G0 H0 Z Γ σ G H Q d R hf k => ?_⟩⟩
  obtain ⟨y, e1, hv⟩ := obind hf
  cases y with
  | obj c' vs' =>
    replace hv : (if c' = c then (fs Γ).bind fun ds => S (.obj c' vs' :: ds) else none) = some d := hv
    split at hv
    · rename_i cz
      subst cz
      obtain ⟨ds, e2, hv⟩ := obind hv
      refine q2 G0 H0 Z Γ σ G H _ _ R e1 fun G1 H1 v x1 r1 => ?_
      obtain ⟨p, C', dx, ws, rfl, hm', hp, _⟩ := r1.objAt x1.gh
      rw [ck.hm] at hm'
      cases hm'
      refine ⟨_, _, _, rfl, hp, zip_lookup_none hno, ?_⟩
      refine h2 G0 H0 Z Γ σ G1 H1 _ _ (R.ext x1) e2 fun G2 H2 vs x2 r2 => ?_
      refine ⟨G2, _, d, x2.gh, ((R.ext x1).ext x2).tbc, .bo (r1.ext x2) (by rw [List.append_nil]; exact r2), hv, fun G' H' v F' x3 r3 f3 => k G' H' v F' ((x1.trans x2).trans x3) r3 fun b y => ?_⟩
      obtain ⟨w1, w2, w3⟩ := f3 b y
      exact ⟨w1, (x1.trans x2).hf w2, w3⟩
    · cases hv
  | _ => cases hv
theorem e_metKN0 {pl : Sem Bool} {c k L : Nat} {ps : List Str} {S : List D → Option Sl} {m : Str} {apos : Pos} (mt : MetKN X.prog X.w X.K X.mg X.base c m L ps [true] S) (hr : Room k X.A) (hk : L ≤ k)
    (ho : B X o f) (hno : m ∉ cF c := by decide +kernel)
    (ht : eval (.Call (.Attribute o m apos) [] [] pos) X.env = (do
      let ov ← eval o X.env
      standAt apos.atName
      let (f, first) ← holding [ov] (getMethod ov m pl)
      callWith pos f first (backTo pos (starEach [] X.env)) (backToKw pos (keywordEach [] X.env))) := by rfl) : EN X (.Call (.Attribute o m apos) [] [] pos) (gMethN c S f aN) := by
  obtain ⟨C, fa, fd, ck, hme, FO, hb⟩ := mt.ex
  obtain ⟨u, q1, q2⟩ := ho.ex
  refine ⟨⟨_, pe_meth0 q1 ck.cl hme FO (hr.mono hk) hb .nil pass0 ht, fun G0 H0 Z Γ σ G H Q d R hf k => ?_⟩⟩
  obtain ⟨y, e1, hv⟩ := obind hf
  cases y with
  | obj c' vs' =>
    replace hv : (if c' = c then (aN Γ).bind fun ds => S (.obj c' vs' :: ds) else none) = some d := hv
    split at hv
    · rename_i cz
      subst cz
      obtain ⟨ds, e2, hv⟩ := obind hv
      cases e2
      refine q2 G0 H0 Z Γ σ G H _ _ R e1 fun G1 H1 v x1 r1 => ?_
      obtain ⟨p, C', dx, ws, rfl, hm', hp, _⟩ := r1.objAt x1.gh
      rw [ck.hm] at hm'
      cases hm'
      refine ⟨_, _, _, rfl, hp, zip_lookup_none hno, ?_⟩
      refine ⟨G1, _, d, x1.gh, (R.ext x1).tbc, .bo r1 .nil, hv, fun G' H' v F' x3 r3 f3 => k G' H' v F' (x1.trans x3) r3 fun b y => ?_⟩
      obtain ⟨w1, w2, w3⟩ := f3 b y
      exact ⟨w1, x1.hf w2, w3⟩
    · cases hv
  | _ => cases hv
end
/-! ### a list of new things -/
def tNx (K : PySem.W.Frag) (mg : Str → Option Value) (f : Sx) : TE := fun σ H Q => ∃ G0 H0 Z Γ G s, Rel K mg G0 H0 Z Γ σ G H ∧ f Γ = some s ∧ ∀ G' H' v F, Ext G H G' H' → Hd K mg G' H' v F s → (∀ a, F a → G' a = none ∧ H a = none ∧ H' a ≠ none) → Q v H'
theorem EN.pe {X : Cx} {e : Expr} {f : Sx} (h : EN X e f) : PE X e (tNx X.K X.mg f) := by
  obtain ⟨t, h1, h2⟩ := h.ex
  exact ⟨fun pins s σ H Q I ⟨G0, H0, Z, Γ, G, d, R, hf, k⟩ => h1.run pins s σ H Q I (h2 G0 H0 Z Γ σ G H Q d R hf k)⟩
def compLN (g : Gs) (t : Te) (e : Sx) : List D → DEnv → Option (List Sl)
  | [], _ => some []
  | d :: ds, Γ => (g d Γ).bind fun Γ1 => (t Γ1).bind fun b => if b then (e Γ1).bind fun y => (compLN g t e ds Γ).bind fun r => some (y :: r) else compLN g t e ds Γ
def gLcN (own : List Nat) (it : Ag) (g : Gs) (t : Te) (e : Sx) : Sx := fun Γ => (it Γ).bind fun ds => if ds.length < 1000000 then (compLN g t e ds (wipeE Γ own)).bind fun ss => some (.ol ss) else none
theorem lc_runN {K : PySem.W.Frag} {mg : Str → Option Value} {own : List (Str × Nat)} {it : Ag} {p : Te} {wi : TI} {ix : List Nat} {g : Gs} {f : Sx} (hix : ∀ i ∈ ix, i ∈ own.map (·.2))
    (hw : ∀ G0 H0 Z Γ σ G H R ds, Rel K mg G0 H0 Z Γ σ G H → it Γ = some ds → (∀ G' H' J, Ext G H G' H' → ItmB K mg J G' H' ds → R J H') → wi σ H R)
    {G0 H0 : Hp} {Z : Zs} {Γ : DEnv} {σ : L2.St} {G H : Hp} {Q : VK} {sl : Sl} (R : Rel K mg G0 H0 Z Γ σ G H) (hf : gLcN (own.map (·.2)) it g p f Γ = some sl)
    (k : ∀ G' H' v F, Ext G H G' H' → Hd K mg G' H' v F sl → (∀ a, F a → G' a = none ∧ H a = none ∧ H' a ≠ none) → Q v H') :
    tLc wi (tGx K mg ix g) (tTx K mg p) (tNx K mg f) (own.map (·.2)) σ H Q := by
  obtain ⟨items, e1, hf⟩ := obind hf
  split at hf
  · rename_i hlen
    obtain ⟨ds, hf2, es⟩ := obind hf
    cases es
    refine hw G0 H0 Z Γ σ G H _ items R e1 fun G1 H1 J x1 hJ D hD => ?_
    have R1 := R.ext x1
    have ntD : ¬ Z.t.tz D := fun h => R1.zz _ (R1.tz _ h) hD
    refine ⟨fun i m Hc => m = items.length - i ∧ i ≤ items.length ∧ ∃ Gc acc dacc rest Fa, Ext G1 H1 Gc Hc ∧ Gc D = none ∧ Hc D = some (.lst acc) ∧ acc.length ≤ i ∧ HdL K mg Gc Hc acc Fa dacc ∧ (∀ a, Fa a → Gc a = none ∧ H1 a = none ∧ Hc a ≠ none ∧ a ≠ D) ∧ Rel K mg G0 H0 ⟨fun a => Z.z a ∨ a = D, Z.a, Z.t⟩ (wipeE Γ (own.map (·.2))) (L2.wipe σ (own.map (·.2))) Gc Hc ∧
      compLN g p f (items.drop i) (wipeE Γ (own.map (·.2))) = some rest ∧ dacc ++ rest = ds, ⟨items.length, ?_⟩, ?_⟩
    · exact ⟨by simp, Nat.zero_le _, G1, [], [], ds, fun _ => False, Ext.own1 x1.gh hD, x1.gh.free hD, upd_same, Nat.le_refl _, .nil, fun _ z => z.elim, (R1.wipe (own.map (·.2))).zput hD, by simpa using hf2, rfl⟩
    · rintro i m Hc ⟨rfl, hi, Gc, acc, dacc, rest, Fa, xc, gD, hcD, la, ra, fa, Rc, hr, hds⟩
      obtain ⟨st, go⟩ := hJ i Gc Hc xc.gg xc.gh xc.hh
      have nn : ∀ {H : Hp}, H D = some (.lst acc) → H D ≠ none := fun e => by rw [e]; simp
      by_cases hlt : i < items.length
      · have hd : items.drop i = items[i] :: items.drop (i + 1) := List.drop_eq_getElem_cons hlt
        obtain ⟨g1, g2⟩ := go items[i] (List.getElem?_eq_getElem hlt)
        rw [hd] at hr
        obtain ⟨Γ1, c1, hr⟩ := obind hr
        obtain ⟨b, c2, hr⟩ := obind hr
        refine .inr ⟨g1, fun H' => ∃ m', (m' = items.length - (i + 1) ∧ i + 1 ≤ items.length ∧ ∃ Gc acc dacc rest Fa, Ext G1 H1 Gc H' ∧ Gc D = none ∧ H' D = some (.lst acc) ∧ acc.length ≤ i + 1 ∧ HdL K mg Gc H' acc Fa dacc ∧ (∀ a, Fa a → Gc a = none ∧ H1 a = none ∧ H' a ≠ none ∧ a ≠ D) ∧ Rel K mg G0 H0 ⟨fun a => Z.z a ∨ a = D, Z.a, Z.t⟩ (wipeE Γ (own.map (·.2))) (L2.wipe σ (own.map (·.2))) Gc H' ∧
          compLN g p f (items.drop (i + 1)) (wipeE Γ (own.map (·.2))) = some rest ∧ dacc ++ rest = ds), fun H' ⟨m', h⟩ => ⟨m', by have := h.1; omega, h⟩, fun x H2 y => ?_⟩
        obtain ⟨G2, x2, r2⟩ := g2 x H2 y
        have xc2 := xc.trans x2
        have R2 := Rc.ext x2
        have gD2 : G2 D = none := x2.none gD (nn hcD)
        have hD2 := x2.hh _ _ hcD nofun
        have step : ∀ {Ga Ha Gb Hb : Hp}, Ext Ga Ha Gb Hb → (∀ a, Fa a → Ga a = none ∧ H1 a = none ∧ Ha a ≠ none ∧ a ≠ D) → HdL K mg Ga Ha acc Fa dacc → (∀ a, Fa a → Gb a = none ∧ H1 a = none ∧ Hb a ≠ none ∧ a ≠ D) ∧ HdL K mg Gb Hb acc Fa dacc := fun x fa ra =>
          ⟨fun a y => by
            obtain ⟨z1, z2, z3, z4⟩ := fa a y
            exact ⟨x.none z1 z3, z2, x.hn _ z3, z4⟩, ra.mono x.gg fun a o _ q n => x.hh a o q n⟩
        obtain ⟨fa2, ra2⟩ := step x2 fa ra
        refine ⟨G0, H0, _, _, G2, items[i], Γ1, R2, r2, c1, fun σ3 R3 w3 => ⟨(w3 _ hix).trans (wipe_sub _ fun _ h => h), ?_⟩⟩
        refine ⟨G0, H0, _, Γ1, G2, b, R3, c2, fun G4 H4 x4 => ?_⟩
        have gD4 : G4 D = none := x4.none gD2 (nn hD2)
        have hD4 := x4.hh _ _ hD2 nofun
        obtain ⟨fa4, ra4⟩ := step x4 fa2 ra2
        cases b with
        | false =>
          refine iteF ⟨_, rfl, hlt, G4, acc, dacc, rest, Fa, xc2.trans x4, gD4, hD4, by omega, ra4, fa4, R2.ext x4, hr, hds⟩
        | true =>
          refine iteT ⟨G0, H0, ⟨fun a => Z.z a ∨ a = D, Z.a, Z.t⟩, Γ1, G4, ?_⟩
          replace hr : ((f Γ1).bind fun y => (compLN g p f (items.drop (i + 1)) (wipeE Γ (own.map (·.2)))).bind fun r => some (y :: r)) = some rest := hr
          obtain ⟨yv, c3, hr⟩ := obind hr
          obtain ⟨rr, c4, hr⟩ := obind hr
          cases hr
          refine ⟨yv, R3.ext x4, c3, fun G5 H5 v Fv x5 r5 f5 => ?_⟩
          have gD5 : G5 D = none := x5.none gD4 (nn hD4)
          have hD5 : H5 D = some (.lst acc) := x5.hh _ _ hD4 nofun
          obtain ⟨fa5, ra5⟩ := step x5 fa4 ra4
          have nD : ∀ a, Fv a → a ≠ D := fun a y z => by
            subst z
            have := (f5 a y).2.1
            rw [hD4] at this
            cases this
          have dj : ∀ a, Fv a → ¬ Fa a := fun a y z => (fa4 a z).2.2.1 (f5 a y).2.1
          have up : ∀ a, H5 a ≠ none → upd H5 D (.lst (acc ++ [v])) a ≠ none := fun a h => by
            by_cases z : a = D
            · subst z; rw [upd_same]; simp
            · rw [upd_ne z]; exact h
          have xx := (xc2.trans x4).trans x5
          refine ⟨acc, hD5, Nat.lt_of_lt_of_le (Nat.lt_of_le_of_lt la (Nat.lt_trans hlt hlen)) line_big, _, rfl, hlt, G5, acc ++ [v], dacc ++ [yv], rr, fun a => Fa a ∨ Fv a, ?_, gD5, upd_same, by simp; omega, ?_, ?_, ((R2.ext x4).ext x5).aside (.inr rfl) ntD gD5 (R1.hf hD), c4, by rw [← hds]; simp⟩
          · exact xx.put hD gD5
          · refine (ra5.snocU r5 dj).mono (Same.refl _) fun a o h q _ => ?_
            rw [upd_ne]
            · exact q
            · rcases h with h | h
              · exact (fa5 a h).2.2.2
              · exact nD a h
          · intro a h
            rcases h with h | h
            · obtain ⟨z1, z2, z3, z4⟩ := fa5 a h
              exact ⟨z1, z2, up a z3, z4⟩
            · obtain ⟨z1, z2, z3⟩ := f5 a h
              exact ⟨z1, (xc2.trans x4).hf z2, up a z3, nD a h⟩
      · have e : i = items.length := by omega
        subst e
        refine .inl ⟨st (Nat.le_refl _), ?_⟩
        rw [List.drop_length] at hr
        cases hr
        rw [List.append_nil] at hds
        subst hds
        refine k Gc Hc (.ref D) (fun a => a = D ∨ Fa a) (x1.trans xc) (.ol (F' := Fa) (.inl rfl) hcD (fun y => (fa D y).2.2.2 rfl) (fun a y => .inr y) ra) fun a y => ?_
        rcases y with y | y
        · subst y; exact ⟨gD, x1.hf hD, nn hcD⟩
        · obtain ⟨z1, z2, z3, z4⟩ := fa a y
          exact ⟨z1, x1.hf z2, z3⟩
  · cases hf
theorem en_lc {X : Cx} {elt tg iter : Expr} {ifs : List Expr} {scope : Scope} {own : List (Str × Nat)} {it : Ag} {p : Te} {ix : List Nat} {g : Gs} {f : Sx} {pos : Pos} (hc : X.calm = true) (hN : X.N.Nodup) (hi : IC X tg iter it) (ok : BlkOk X.N X.env.scope scope own) (hix : ∀ i ∈ ix, i ∈ own.map (·.2))
    (hg : ∀ (s : Shared) (H : Hp) (C : Addr) (cl : List (Str × Addr)) (fp : List Addr), G (X.blk s H scope (compEnvC scope cl C X.env) fp) tg ix g)
    (ht : ∀ (s : Shared) (H : Hp) (C : Addr) (cl : List (Str × Addr)) (fp : List Addr), Ts (X.blk s H scope (compEnvC scope cl C X.env) fp) ifs p)
    (he : ∀ (s : Shared) (H : Hp) (C : Addr) (cl : List (Str × Addr)) (fp : List Addr), EN (X.blk s H scope (compEnvC scope cl C X.env) fp) elt f)
    (hs : ∀ x, foldedSetIterable iter X.env x = pure x := by intro _; rfl) : EN X (.ListComp elt [⟨tg, iter, ifs, 0⟩] scope pos) (gLcN (own.map (·.2)) it g p f) := by
  obtain ⟨wi, w1, w2⟩ := hi.ex
  exact ⟨⟨_, pe_lc hc hN w1 ok (fun s H C cl fp => (hg s H C cl fp).pg) (fun s H C cl fp => (ht s H C cl fp).pt) (fun s H C cl fp => (he s H C cl fp).pe) hs, fun G0 H0 Z Γ σ G H Q ds R hf k => lc_runN hix w2 R hf k⟩⟩
end DL

namespace DL
open PySem L2
variable [TC : TabCtx]
/-! ### a comprehension of two walks -/
def tIx (K : PySem.W.Frag) (mg : Str → Option Value) (it : Ag) : TI := fun σ H R => ∃ G0 H0 Z Γ G ds, Rel K mg G0 H0 Z Γ σ G H ∧ it Γ = some ds ∧ ∀ G' H' J, Ext G H G' H' → Itm K mg J G' ds → R J H'
theorem I.pi {X : Cx} {tg iter : Expr} {it : Ag} (h : I X tg iter it) : PI X tg iter (tIx X.K X.mg it) := by
  obtain ⟨t, h1, h2⟩ := h.ex
  exact ⟨fun pins s σ H R I ⟨G0, H0, Z, Γ, G, ds, Rl, hf, k⟩ => h1.run pins s σ H R I (h2 G0 H0 Z Γ σ G H R ds Rl hf k)⟩
def compL2 (g : Gs) (t : Te) (it1 : Ag) (g1 : Gs) (t1 : Te) (e : Ex) (vs1 : List Nat) : List D → DEnv → Option (List D)
  | [], _ => some []
  | d :: ds, Γ => (g d Γ).bind fun Γ1 => (t Γ1).bind fun b => if b then (it1 Γ1).bind fun ds1 => (compL g1 t1 e ds1 (wipeE Γ1 vs1)).bind fun r1 => (compL2 g t it1 g1 t1 e vs1 ds Γ).bind fun r => some (r1 ++ r) else compL2 g t it1 g1 t1 e vs1 ds Γ
def gLc2 (own vs1 : List Nat) (it : Ag) (g : Gs) (t : Te) (it1 : Ag) (g1 : Gs) (t1 : Te) (e : Ex) : Ag := fun Γ => (it Γ).bind fun ds => (compL2 g t it1 g1 t1 e vs1 ds (wipeE Γ own)).bind fun r => if r.length < 1000000 then some r else none
theorem lc_run2 {K : PySem.W.Frag} {mg : Str → Option Value} {own : List (Str × Nat)} {vs1 ix ix1 : List Nat} {it it1 : Ag} {p p1 : Te} {g g1 : Gs} {f : Ex} {wi : TI} (hix : ∀ i ∈ ix, i ∈ own.map (·.2)) (hv : ∀ i ∈ vs1, i ∈ own.map (·.2)) (hix1 : ∀ i ∈ ix1, i ∈ vs1)
    (hw : ∀ G0 H0 Z Γ σ G H R ds, Rel K mg G0 H0 Z Γ σ G H → it Γ = some ds → (∀ G' H' J, Ext G H G' H' → ItmB K mg J G' H' ds → R J H') → wi σ H R)
    {G0 H0 : Hp} {Z : Zs} {Γ : DEnv} {σ : L2.St} {G H : Hp} {Q : VK} {ds : List D} (R : Rel K mg G0 H0 Z Γ σ G H) (hf : gLc2 (own.map (·.2)) vs1 it g p it1 g1 p1 f Γ = some ds)
    (k : ∀ G' H' D vs, Ext G H G' H' → H D = none → G' D = none → H' D = some (.lst vs) → RepL K mg G' vs ds → Q (.ref D) H') :
    tLc2 wi (tGx K mg ix g) (tTx K mg p) (tIx K mg it1) (tGx K mg ix1 g1) (tTx K mg p1) (tEx K mg f) (own.map (·.2)) vs1 σ H Q := by
  obtain ⟨items, e1, hf⟩ := obind hf
  obtain ⟨r0, hf2, hf⟩ := obind hf
  split at hf
  · rename_i hlen
    cases hf
    refine hw G0 H0 Z Γ σ G H _ items R e1 fun G1 H1 J x1 hJ D hD => ?_
    have R1 := R.ext x1
    have ntD : ¬ Z.t.tz D := fun h => R1.zz _ (R1.tz _ h) hD
    -- the state within: the list so far at D
    let St : Hp → List DL.D → Prop := fun Hc rest => ∃ Gc acc dacc, Ext G1 H1 Gc Hc ∧ Gc D = none ∧ Hc D = some (.lst acc) ∧ RepL K mg Gc acc dacc ∧ Rel K mg G0 H0 ⟨fun a => Z.z a ∨ a = D, Z.a, Z.t⟩ (wipeE Γ (own.map (·.2))) (L2.wipe σ (own.map (·.2))) Gc Hc ∧ dacc ++ rest = ds
    refine ⟨fun i m Hc => m = items.length - i ∧ i ≤ items.length ∧ ∃ rest, St Hc rest ∧ compL2 g p it1 g1 p1 f vs1 (items.drop i) (wipeE Γ (own.map (·.2))) = some rest, ⟨items.length, ?_⟩, ?_⟩
    · exact ⟨by simp, Nat.zero_le _, ds, ⟨G1, [], [], Ext.own1 x1.gh hD, x1.gh.free hD, upd_same, .nil, (R1.wipe (own.map (·.2))).zput hD, rfl⟩, by simpa using hf2⟩
    · rintro i m Hc ⟨rfl, hi, rest, ⟨Gc, acc, dacc, xc, gD, hcD, ra, Rc, hds⟩, hr⟩
      obtain ⟨st, go⟩ := hJ i Gc Hc xc.gg xc.gh xc.hh
      have nn : ∀ {H : Hp} {acc : List V}, H D = some (.lst acc) → H D ≠ none := fun e => by rw [e]; simp
      by_cases hlt : i < items.length
      · have hd : items.drop i = items[i] :: items.drop (i + 1) := List.drop_eq_getElem_cons hlt
        obtain ⟨g1', g2⟩ := go items[i] (List.getElem?_eq_getElem hlt)
        rw [hd] at hr
        obtain ⟨Γ1, c1, hr⟩ := obind hr
        obtain ⟨b, c2, hr⟩ := obind hr
        refine .inr ⟨g1', fun H' => ∃ m', (m' = items.length - (i + 1) ∧ i + 1 ≤ items.length ∧ ∃ rest, St H' rest ∧ compL2 g p it1 g1 p1 f vs1 (items.drop (i + 1)) (wipeE Γ (own.map (·.2))) = some rest), fun H' ⟨m', h⟩ => ⟨m', by have := h.1; omega, h⟩, fun x H2 y => ?_⟩
        obtain ⟨G2, x2, r2⟩ := g2 x H2 y
        have xc2 := xc.trans x2
        have R2 := Rc.ext x2
        have gD2 : G2 D = none := x2.none gD (nn hcD)
        have hD2 := x2.hh _ _ hcD nofun
        refine ⟨G0, H0, _, _, G2, items[i], Γ1, R2, r2, c1, fun σ3 R3 w3 => ⟨(w3 _ hix).trans (wipe_sub _ fun _ h => h), ?_⟩⟩
        refine ⟨G0, H0, _, Γ1, G2, b, R3, c2, fun G4 H4 x4 => ?_⟩
        have gD4 : G4 D = none := x4.none gD2 (nn hD2)
        have hD4 := x4.hh _ _ hD2 nofun
        cases b with
        | false =>
          exact iteF ⟨_, rfl, hlt, rest, ⟨G4, acc, dacc, xc2.trans x4, gD4, hD4, (ra.mono x2.gg).mono x4.gg, R2.ext x4, hds⟩, hr⟩
        | true =>
          replace hr : ((it1 Γ1).bind fun ds1 => (compL g1 p1 f ds1 (wipeE Γ1 vs1)).bind fun r1 => (compL2 g p it1 g1 p1 f vs1 (items.drop (i + 1)) (wipeE Γ (own.map (·.2)))).bind fun r => some (r1 ++ r)) = some rest := hr
          obtain ⟨ds1, d1, hr⟩ := obind hr
          obtain ⟨r1, d2, hr⟩ := obind hr
          obtain ⟨rr, d3, hr⟩ := obind hr
          cases hr
          refine iteT ⟨G0, H0, ⟨fun a => Z.z a ∨ a = D, Z.a, Z.t⟩, Γ1, G4, ds1, R3.ext x4, d1, fun G5 H5 J1 x5 hJ1 => ?_⟩
          have gD5 : G5 D = none := x5.none gD4 (nn hD4)
          have hD5 := x5.hh _ _ hD4 nofun
          have xc5 := (xc2.trans x4).trans x5
          have Ra5 := (R2.ext x4).ext x5
          have Rb5 := ((R3.ext x4).ext x5).wipe vs1
          have ra5 := ((ra.mono x2.gg).mono x4.gg).mono x5.gg
          refine ⟨fun j k Hc => k = ds1.length - j ∧ j ≤ ds1.length ∧ ∃ Gc acc dacc rest1, Same G5 Gc ∧ Ext G1 H1 Gc Hc ∧ Gc D = none ∧ Hc D = some (.lst acc) ∧ RepL K mg Gc acc dacc ∧
            Rel K mg G0 H0 ⟨fun a => Z.z a ∨ a = D, Z.a, Z.t⟩ (wipeE Γ (own.map (·.2))) (L2.wipe σ (own.map (·.2))) Gc Hc ∧ Rel K mg G0 H0 ⟨fun a => Z.z a ∨ a = D, Z.a, Z.t⟩ (wipeE Γ1 vs1) (L2.wipe σ3 vs1) Gc Hc ∧
            compL g1 p1 f (ds1.drop j) (wipeE Γ1 vs1) = some rest1 ∧ dacc ++ (rest1 ++ rr) = ds, ⟨ds1.length, ?_⟩, ?_⟩
          · exact ⟨by simp, Nat.zero_le _, G5, acc, dacc, r1, Same.refl _, xc5, gD5, hD5, ra5, Ra5, Rb5, by simpa using d2, hds⟩
          · rintro j k1 Hj ⟨rfl, hj, Gj, accj, daccj, restj, sG, xj, gDj, hDj, raj, Raj, Rbj, hrj, hdj⟩
            obtain ⟨st1, go1⟩ := hJ1 j Gj Hj sG xj.gh
            by_cases hlt1 : j < ds1.length
            · have hd1 : ds1.drop j = ds1[j] :: ds1.drop (j + 1) := List.drop_eq_getElem_cons hlt1
              obtain ⟨q1, q2⟩ := go1 ds1[j] (List.getElem?_eq_getElem hlt1)
              rw [hd1] at hrj
              obtain ⟨Γ2, y1, hrj⟩ := obind hrj
              obtain ⟨b1, y2, hrj⟩ := obind hrj
              refine .inr ⟨q1, fun H' => ∃ k', (k' = ds1.length - (j + 1) ∧ j + 1 ≤ ds1.length ∧ ∃ Gc acc dacc rest1, Same G5 Gc ∧ Ext G1 H1 Gc H' ∧ Gc D = none ∧ H' D = some (.lst acc) ∧ RepL K mg Gc acc dacc ∧
                Rel K mg G0 H0 ⟨fun a => Z.z a ∨ a = D, Z.a, Z.t⟩ (wipeE Γ (own.map (·.2))) (L2.wipe σ (own.map (·.2))) Gc H' ∧ Rel K mg G0 H0 ⟨fun a => Z.z a ∨ a = D, Z.a, Z.t⟩ (wipeE Γ1 vs1) (L2.wipe σ3 vs1) Gc H' ∧
                compL g1 p1 f (ds1.drop (j + 1)) (wipeE Γ1 vs1) = some rest1 ∧ dacc ++ (rest1 ++ rr) = ds), fun H' ⟨k', h⟩ => ⟨k', by have := h.1; omega, h⟩, fun x H6 y6 => ?_⟩
              obtain ⟨G6, x6, r6⟩ := q2 x H6 y6
              have gD6 : G6 D = none := x6.none gDj (nn hDj)
              have hD6 := x6.hh _ _ hDj nofun
              have Ra6 := Raj.ext x6
              have Rb6 := Rbj.ext x6
              refine ⟨G0, H0, _, _, G6, ds1[j], Γ2, Rb6, r6, y1, fun σ4 R4 w4 => ⟨(w4 _ hix1).trans (wipe_sub _ fun _ h => h), ?_⟩⟩
              refine ⟨G0, H0, _, Γ2, G6, b1, R4, y2, fun G7 H7 x7 => ?_⟩
              have gD7 : G7 D = none := x7.none gD6 (nn hD6)
              have hD7 := x7.hh _ _ hD6 nofun
              have x67 := (xj.trans x6).trans x7
              cases b1 with
              | false =>
                exact iteF ⟨_, rfl, hlt1, G7, accj, daccj, restj, (sG.trans x6.gg).trans x7.gg, x67, gD7, hD7, (raj.mono x6.gg).mono x7.gg, Ra6.ext x7, Rb6.ext x7, hrj, hdj⟩
              | true =>
                refine iteT ⟨G0, H0, ⟨fun a => Z.z a ∨ a = D, Z.a, Z.t⟩, Γ2, G7, ?_⟩
                replace hrj : ((f Γ2).bind fun y => (compL g1 p1 f (ds1.drop (j + 1)) (wipeE Γ1 vs1)).bind fun r => some (y :: r)) = some restj := hrj
                obtain ⟨yv, c3, hrj⟩ := obind hrj
                obtain ⟨rj, c4, hrj⟩ := obind hrj
                cases hrj
                refine ⟨yv, R4.ext x7, c3, fun G8 H8 v x8 r8 => ?_⟩
                have gD8 : G8 D = none := x8.none gD7 (nn hD7)
                have hD8 := x8.hh _ _ hD7 nofun
                have la : accj.length < sizeLine := by
                  rw [raj.length]
                  refine Nat.lt_of_lt_of_le ?_ line_big
                  have := congrArg List.length hdj
                  simp at this
                  omega
                refine ⟨accj, hD8, la, _, rfl, hlt1, G8, accj ++ [v], daccj ++ [yv], rj, ((sG.trans x6.gg).trans x7.gg).trans x8.gg, (x67.trans x8).put hD gD8, gD8, upd_same, (((raj.mono x6.gg).mono x7.gg).mono x8.gg).append (.cons r8 .nil), ((Ra6.ext x7).ext x8).aside (.inr rfl) ntD gD8 (R1.hf hD), ((Rb6.ext x7).ext x8).aside (.inr rfl) ntD gD8 (R1.hf hD), c4, by rw [← hdj]; simp⟩
            · have e : j = ds1.length := by omega
              subst e
              refine .inl ⟨st1 (Nat.le_refl _), ?_⟩
              rw [List.drop_length] at hrj
              cases hrj
              exact ⟨_, rfl, hlt, rr, ⟨Gj, accj, daccj, xj, gDj, hDj, raj, Raj, by simpa using hdj⟩, d3⟩
      · have e : i = items.length := by omega
        subst e
        refine .inl ⟨st (Nat.le_refl _), ?_⟩
        rw [List.drop_length] at hr
        cases hr
        rw [List.append_nil] at hds
        subst hds
        exact k Gc Hc D acc (x1.trans xc) (x1.hf hD) gD hcD ra
  · cases hf
theorem el_lc2 {X : Cx} {elt tg iter tg1 iter1 : Expr} {ifs ifs1 : List Expr} {scope : Scope} {own : List (Str × Nat)} {vs1 ix ix1 : List Nat} {it it1 : Ag} {p p1 : Te} {g g1 : Gs} {f : Ex} {pos : Pos} (hc : X.calm = true) (hN : X.N.Nodup) (hi : IC X tg iter it) (ok : BlkOk X.N X.env.scope scope own) (hv : ∀ i ∈ vs1, i ∈ own.map (·.2)) (hix : ∀ i ∈ ix, i ∈ own.map (·.2)) (hix1 : ∀ i ∈ ix1, i ∈ vs1)
    (hg : ∀ (s : Shared) (H : Hp) (C : Addr) (cl : List (Str × Addr)) (fp : List Addr), G (X.blk s H scope (compEnvC scope cl C X.env) fp) tg ix g)
    (ht : ∀ (s : Shared) (H : Hp) (C : Addr) (cl : List (Str × Addr)) (fp : List Addr), Ts (X.blk s H scope (compEnvC scope cl C X.env) fp) ifs p)
    (hi1 : ∀ (s : Shared) (H : Hp) (C : Addr) (cl : List (Str × Addr)) (fp : List Addr), I (X.blk s H scope (compEnvC scope cl C X.env) fp) tg1 iter1 it1)
    (hg1 : ∀ (s : Shared) (H : Hp) (C : Addr) (cl : List (Str × Addr)) (fp : List Addr), G (X.blk s H scope (compEnvC scope cl C X.env) fp) tg1 ix1 g1)
    (ht1 : ∀ (s : Shared) (H : Hp) (C : Addr) (cl : List (Str × Addr)) (fp : List Addr), Ts (X.blk s H scope (compEnvC scope cl C X.env) fp) ifs1 p1)
    (he : ∀ (s : Shared) (H : Hp) (C : Addr) (cl : List (Str × Addr)) (fp : List Addr), E (X.blk s H scope (compEnvC scope cl C X.env) fp) elt f)
    (hs : ∀ x, foldedSetIterable iter X.env x = pure x := by intro _; rfl) (hs1 : ∀ env x, foldedSetIterable iter1 env x = pure x := by intro _ _; rfl) : EL X (.ListComp elt [⟨tg, iter, ifs, 0⟩, ⟨tg1, iter1, ifs1, 0⟩] scope pos) (gLc2 (own.map (·.2)) vs1 it g p it1 g1 p1 f) := by
  obtain ⟨wi, w1, w2⟩ := hi.ex
  exact ⟨⟨_, pe_lc2 hc hN w1 ok hv (fun s H C cl fp => (hg s H C cl fp).pg) (fun s H C cl fp => (ht s H C cl fp).pt) (fun s H C cl fp => (hi1 s H C cl fp).pi) (fun s H C cl fp => (hg1 s H C cl fp).pg) (fun s H C cl fp => (ht1 s H C cl fp).pt) (fun s H C cl fp => (he s H C cl fp).pe) hs hs1, fun G0 H0 Z Γ σ G H Q ds R hf k => lc_run2 hix hv hix1 w2 R hf k⟩⟩
end DL

/-! DL23: x in l, x not in l, for data without objects -/
namespace DL
open PySem L2
variable [TC : TabCtx]
theorem _root_.L2.Room.u65 {k : Nat} {A : Around} (r : Room k A) : A.units + 65 < cLine := by have := r.un; omega
section
variable {X : Cx}
/-- x in l, l a list -/
def dIn (x y : D) : Option D := match y with
  | .lst ds => if eqOk x && eqOk (.lst ds) then some (.bl (ds.any fun z => eqd z x)) else none
  | _ => none
def dNIn (x y : D) : Option D := match y with
  | .lst ds => if eqOk x && eqOk (.lst ds) then some (.bl (!ds.any fun z => eqd z x)) else none
  | _ => none
theorem any_toPys (x : D) : ∀ ds : List D, ((toPys ds).any fun z => PyData.eqv z (toPy x)) = ds.any fun z => eqd z x
  | [] => by rw [toPys]; rfl
  | d :: ds => by
    rw [toPys, List.any_cons, List.any_cons, any_toPys x ds]
    rfl
theorem ob_in (hu : X.A.units + 65 < cLine) : OpB X (compareOp .In) dIn := by
  refine ⟨_, op_inD hu, fun x y d v w G H Q gh e rx ry k => ?_⟩
  unfold dIn at e
  split at e
  · rename_i ds
    split at e
    · rename_i z
      cases e
      simp only [eqOk, Bool.and_eq_true] at z
      have ry' := ry.dp gh z.2.1
      have s2 := z.2.2
      rw [toPy] at ry' s2
      refine ⟨_, _, rx.dp gh z.1.1, ry', z.1.2, s2, ?_⟩
      rw [any_toPys]
      exact k G H _ (Ext.refl gh) (.bl _)
    · cases e
  · cases e
theorem ob_nin (hu : X.A.units + 65 < cLine) : OpB X (compareOp .NotIn) dNIn := by
  refine ⟨_, op_notInD hu, fun x y d v w G H Q gh e rx ry k => ?_⟩
  unfold dNIn at e
  split at e
  · rename_i ds
    split at e
    · rename_i z
      cases e
      simp only [eqOk, Bool.and_eq_true] at z
      have ry' := ry.dp gh z.2.1
      have s2 := z.2.2
      rw [toPy] at ry' s2
      refine ⟨_, _, rx.dp gh z.1.1, ry', z.1.2, s2, ?_⟩
      rw [any_toPys]
      exact k G H _ (Ext.refl gh) (.bl _)
    · cases e
  · cases e
end
end DL

/-! DL24: a loop over a display of new lists that appends to each -/
namespace DL
open PySem L2
variable [TC : TabCtx]
theorem Rel.dropV {K : PySem.W.Frag} {mg : Str → Option Value} {G0 H0 : Hp} {Z : Zs} {Γ : DEnv} {σ : L2.St} {G H : Hp} (r : Rel K mg G0 H0 Z Γ σ G H) (i : Nat) (v : Option V) : Rel K mg G0 H0 Z (Γ.set i .no) (σ.set i v) G H := by
  obtain ⟨own, o1, o2, o3⟩ := r.own
  refine ⟨by simpa using r.len, r.gh, r.hh, r.gg, r.new, r.zz, fun w s' e1 e2 e3 => ?_, r.tb, r.tz, r.tc, r.hn, own, o1, o2, fun j s q => ?_⟩
  · rcases set_get e2 with ⟨ei, hl, rfl⟩ | ⟨ei, q⟩
    · cases e3
    · rw [List.getElem?_set_ne ei]
      exact r.an w s' e1 q e3
  rcases set_get q with ⟨ei, hl, rfl⟩ | ⟨ei, q⟩
  · exact .inl rfl
  · rw [List.getElem?_set_ne ei]
    exact o3 j s q
/-- new things, one after another -/
abbrev Nx := DEnv → Option (List Sl)
def nxNil : Nx := fun _ => some []
def nxCons (f : Sx) (fs : Nx) : Nx := fun Γ => (f Γ).bind fun s => (fs Γ).bind fun ss => some (s :: ss)
structure NN (X : Cx) (es : List Expr) (n : Nat) (fs : Nx) : Prop where
  ex : ∃ t, PA X es t ∧ ∀ G0 H0 Z Γ σ G H (Q : List V → Hp → Prop) ss, Rel X.K X.mg G0 H0 Z Γ σ G H → fs Γ = some ss → (∀ G' H' vs F, Ext G H G' H' → HdL X.K X.mg G' H' vs F ss → vs.length = ss.length → (∀ a, F a → G' a = none ∧ H a = none ∧ H' a ≠ none) → Q vs H') → t σ H Q
  n : ∀ Γ ss, fs Γ = some ss → ss.length = n
section
variable {X : Cx} {e : Expr} {es : List Expr} {f : Ex} {sx : Sx} {fs : Nx} {n : Nat} {pos pos' : Pos}
theorem nn_nil : NN X [] 0 nxNil := ⟨⟨_, pa_nil, fun G0 H0 Z Γ σ G H Q ss R hf k => by
  cases hf
  exact k G H [] (fun _ => False) (Ext.refl R.gh) .nil rfl fun _ z => z.elim⟩, fun Γ ss h => by cases h; rfl⟩
theorem nn_cons (he : EN X e sx) (hr : NN X es n fs) (hs : starEach (e :: es) X.env = (false, eval e X.env) :: starEach es X.env := by rfl) : NN X (e :: es) (n + 1) (nxCons sx fs) := by
  obtain ⟨t, h1, h2⟩ := he.ex
  obtain ⟨u, u1, u2⟩ := hr.ex
  refine ⟨⟨_, pa_cons h1 u1 hs, fun G0 H0 Z Γ σ G H Q ss R hf k => ?_⟩, fun Γ ss hf => ?_⟩
  · obtain ⟨s, e1, hf⟩ := obind hf
    obtain ⟨sr, e2, hf⟩ := obind hf
    cases hf
    refine h2 G0 H0 Z Γ σ G H _ s R e1 fun G1 H1 v F1 x1 r1 f1 => ?_
    refine u2 G0 H0 Z Γ σ G1 H1 _ sr (R.ext x1) e2 fun G2 H2 vs F2 x2 r2 l2 f2 => ?_
    have r1' := r1.mono x2.gg (fun a o _ q n => x2.hh a o q n)
    refine k G2 H2 (v :: vs) (fun a => F1 a ∨ F2 a) (x1.trans x2) (.cons r1' r2 (fun _ => .inl) (fun _ => .inr) fun a q1 q2 => (f1 a q1).2.2 (f2 a q2).2.1) (by simp [l2]) fun a q => ?_
    rcases q with q | q
    · obtain ⟨g1, g2, g3⟩ := f1 a q
      exact ⟨x2.none g1 g3, g2, x2.hn a g3⟩
    · obtain ⟨g1, g2, g3⟩ := f2 a q
      exact ⟨g1, x1.hf g2, g3⟩
  · obtain ⟨s, e1, hf⟩ := obind hf
    obtain ⟨sr, e2, hf⟩ := obind hf
    cases hf
    simp [hr.n Γ sr e2]
/-- for x in [n1, n2, ..]: x.append(e): x is forgotten -/
def isOwS : Sl → Bool
  | .ow xs => decide (xs.length < 1000000)
  | _ => false
def sForNA (i : Nat) (fs : Nx) (f : Ex) : Sm := fun Γ => (fs Γ).bind fun ss => (f (Γ.set i .no)).bind fun _ => if i < Γ.length ∧ 0 < ss.length ∧ ss.all isOwS = true then some (.nx (Γ.set i .no)) else none
theorem s_forNA {x : Str} {i : Nat} {tp xp ap cp ep lp : Pos} (hp : PassesOwn (model X.prog X.w) X.A X.env X.xe) (hc : X.calm = true) (hn : NN X es n fs) (hN : X.N.Nodup) (he : E X e f) (h1000 : n ≤ 1000 := by decide)
    (hi : X.N[i]? = some x := by rfl) (hx : Loc X.env.scope x := by first | exact Or.inl rfl | exact Or.inr rfl) (hv : Vis X.env.scope x := by first | exact Or.inl rfl | exact Or.inr (Or.inl rfl) | exact Or.inr (Or.inr rfl)) (hd : (x == ("__debug__" : Str)) = false := by decide)
    (hcd : (x == ("__classdict__" : Str)) = false := by decide) (hf : X.fn x = true ∨ X.env.scope.names.lookup x = some .local := by first | exact .inl rfl | exact .inr rfl | assumption)
    (hst : starEach [e] X.env = (false, eval e X.env) :: starEach [] X.env := by rfl)
    (hpe : ∀ {r : V → List V → Hp → VK → Prop} {to te : TE}, MtR X "list.append" r → PE X (.Name x xp) to → PE X e te → PE X (.Call (.Attribute (.Name x xp) "append" ap) [e] [] cp) (tBM X.K "list" r to (tCons te tNil)) := by intro r to te hm ho hp; exact pe_bm PySem.F.plainAttrs_list PySem.F.slot_list_append PySem.F.type_list_append hm ho (pa_cons hp pa_nil))
    (hs : swapsWith (.Call (.Attribute (.Name x xp) "append" ap) [e] [] cp) none ep.line X.env = pure false := by rfl)
    (hs2 : ∀ y, foldedSetIterable (.List es lp) X.env y = pure y := by intro _; rfl) :
    S X (.For (.Name x tp) (.List es lp) [.Expr (.Call (.Attribute (.Name x xp) "append" ap) [e] [] cp) ep] [] pos) (sForNA i fs f) := by
  obtain ⟨t, t1, t2⟩ := hn.ex
  obtain ⟨u, u1, u2⟩ := he.ex
  refine ⟨⟨_, ps_for hp hc (pi_list (pe_lst t1)) (pg_name hN hi hx hf) (pss_one (ps_expr (hpe mt_append (pe_var hi hv hd hcd) u1) hs)) hs2, fun G0 H0 Z Γ σ G H D r R hr k => ?_⟩⟩
  obtain ⟨ss, e1, hr⟩ := obind hr
  obtain ⟨d, e2, hr⟩ := obind hr
  split at hr
  · rename_i hall
    cases hr
    obtain ⟨hil, hpos, hall⟩ := hall
    refine t2 G0 H0 Z Γ σ G H _ ss R e1 fun G1 H1 vs F x1 r1 l1 f1 => ⟨?_, fun P hP => ?_⟩
    · rw [l1, hn.n Γ ss e1]; exact Nat.le_of_lt (small1000 h1000)
    · refine ⟨P, rfl, ⟨vs, SqL.of upd_same⟩, fun j m σ' H' => m = ss.length - j ∧ j ≤ ss.length ∧ ∃ Γ' G', Rel X.K X.mg G0 H0 Z Γ' σ' G H ∧ Γ'.length = Γ.length ∧ Γ'.set i .no = Γ.set i .no ∧ (0 < j → Γ' = Γ.set i .no) ∧ Ext G H G' H' ∧ H' P = some (.lst vs) ∧ G' P = none ∧ H P = none ∧ ∃ F', HdL X.K X.mg G' H' (vs.drop j) F' (ss.drop j) ∧ ∀ a, F' a → G' a = none ∧ H a = none ∧ a ≠ P ∧ H' a ≠ none, ?_, ?_⟩
      · refine ⟨ss.length, by omega, Nat.zero_le _, Γ, G1, R, rfl, rfl, fun z => absurd z (by omega), x1.trans (Ext.own1 x1.gh hP), upd_same, x1.gh.free hP, x1.hf hP, F, ?_, fun a q => ⟨(f1 a q).1, (f1 a q).2.1, fun z => (f1 a q).2.2 (by rw [z]; exact hP), ?_⟩⟩
        · show HdL X.K X.mg G1 (upd H1 P (.lst vs)) vs F ss
          exact r1.mono (Same.refl _) fun a o fa q _ => by rw [upd_ne (fun z => (f1 a fa).2.2 (by rw [z]; exact hP))]; exact q
        · by_cases z : a = P
          · rw [z, upd_same]; simp
          · rw [upd_ne z]; exact (f1 a q).2.2
      · rintro j m σ' H' ⟨rfl, hj, Γ', G', R', hlen, hset, hj0, x', hP', gP, hP0, F', r', f'⟩
        by_cases hlt : j < ss.length
        · have hv1 : vs.drop j = vs[j]'(by omega) :: vs.drop (j + 1) := List.drop_eq_getElem_cons (by omega)
          have hs1 : ss.drop j = ss[j] :: ss.drop (j + 1) := List.drop_eq_getElem_cons hlt
          have how : isOwS ss[j] = true := List.all_eq_true.mp hall _ (List.getElem_mem hlt)
          generalize hvj : vs[j]'(by omega) = vj at hv1
          generalize ss[j] = sj at hs1 how
          have hvj2 : vs[j]? = some vj := by rw [← hvj]; exact List.getElem?_eq_getElem (by omega)
          rw [hv1, hs1] at r'
          cases r' with
          | @cons _ _ _ _ _ F1 F2 h r q1 q2 dj =>
            refine .inr ⟨⟨vs, vj, SqL.of hP', hvj2⟩, fun σ2 H2 => ∃ Γ' G', Rel X.K X.mg G0 H0 Z Γ' σ2 G H ∧ Γ'.length = Γ.length ∧ Γ'.set i .no = Γ.set i .no ∧ (0 < j + 1 → Γ' = Γ.set i .no) ∧ Ext G H G' H2 ∧ H2 P = some (.lst vs) ∧ G' P = none ∧ H P = none ∧ ∃ F', HdL X.K X.mg G' H2 (vs.drop (j + 1)) F' (ss.drop (j + 1)) ∧ ∀ a, F' a → G' a = none ∧ H a = none ∧ a ≠ P ∧ H2 a ≠ none, fun σ2 H2 w => ⟨ss.length - (j + 1), by omega, rfl, by omega, w⟩, fun y H2 hy => ?_⟩
            obtain ⟨rfl, hy⟩ := hy
            have e3 := hy vs (SqL.of hP')
            rw [hvj2] at e3
            cases e3
            have Rn := R'.dropV i (some vj)
            refine ⟨vj, ?_, ?_⟩
            · have := R'.len
              rw [List.getElem?_set_self (by omega)]
            cases sj with
            | ow xs =>
              cases h with
              | ow fq hq rq =>
                rename_i q ws
                obtain ⟨g1, g2, g3, _⟩ := f' q (q1 q fq)
                refine ⟨.inl ⟨rfl, _, SqL.of hq⟩, ?_⟩
                refine u2 G0 H0 Z (Γ'.set i .no) _ G' _ _ d (Rn.ext x') (by rw [hset]; exact e2) fun G3 H3 w x3 r3 => ?_
                have g1' := x3.none g1 (by rw [hq]; simp)
                have hq3 := x3.hh _ _ hq nofun
                refine ⟨q, ws, w, rfl, rfl, hq3, ?_, ?_⟩
                · rw [rq.length]
                  have := of_decide_eq_true how
                  exact Nat.lt_of_lt_of_le this line_big
                · refine ⟨Γ'.set i .no, G3, Rn, by rw [List.length_set]; exact hlen, by rw [hset, List.set_set], fun _ => hset, (x'.trans x3).put g2 g1', ?_, x3.none gP (by rw [hP']; simp), hP0, F2, ?_, fun a z => ?_⟩
                  · rw [upd_ne (fun z => g3 z.symm)]
                    exact x3.hh _ _ hP' nofun
                  · exact r.mono x3.gg fun a o fa hq n => by
                      rw [upd_ne (fun z => dj q fq (by rw [← z]; exact fa))]
                      exact x3.hh _ _ hq n
                  · obtain ⟨y1, y2, y3, y4⟩ := f' a (q2 a z)
                    refine ⟨x3.none y1 y4, y2, y3, ?_⟩
                    rw [upd_ne (fun w => dj q fq (by rw [← w]; exact z))]
                    exact x3.hn a y4
            | _ => cases how
        · have ej : j = ss.length := by omega
          refine .inl ⟨⟨vs, SqL.of hP', by omega⟩, ?_⟩
          have := hj0 (by omega)
          subst this
          exact k σ' G' H' (R'.ext x')
  · cases hr
end
end DL

/-! DL25: dicts of one's own and dicts as data; a place's list or dict becomes known -/
namespace DL
open PySem L2
variable [TC : TabCtx]
theorem _root_.L2.Room.u1 {k : Nat} {A : Around} (r : Room k A) : A.units + 1 < cLine := by have := r.un; omega
/-! ### dicts: keys and data side by side -/
def dKey : D → Option Key
  | .int i => some (.inl i)
  | .str s => some (.inr s)
  | _ => none
def keyD0 : Key → D
  | .inl i => .int i
  | .inr s => .str s
def valX {α : Type} (ks : List Key) (xs : List α) (k : Key) : Option α := ((ks.zip xs).find? fun kv => decide (kv.1 = k)).map (·.2)
def hasK (ks : List Key) (k : Key) : Bool := ks.any fun k' => decide (k' = k)
def putKs (ks : List Key) (k : Key) : List Key := if hasK ks k = true then ks else ks ++ [k]
def putXs {α : Type} (ks : List Key) (xs : List α) (k : Key) (d : α) : List α := if hasK ks k = true then (ks.zip xs).map (fun kv => if kv.1 = k then d else kv.2) else xs ++ [d]
section
variable {K : PySem.W.Frag} {mg : Str → Option Value} {G G' H H' : Hp}
theorem kV_rep (k : Key) : Rep K mg G (kV k) (keyD0 k) := by
  cases k with
  | inl i => exact .int i
  | inr s => exact .str s
theorem dKey_rep {v : V} {d : D} {k : Key} (h : dKey d = some k) (r : Rep K mg G v d) : v = kV k := by
  cases d with
  | int i => cases h; cases r; rfl
  | str s => cases h; cases r; rfl
  | _ => cases h
theorem valV_zip {vs : List V} (k : Key) (ks : List Key) : valV (ks.zip vs) k = valX ks vs k := rfl
theorem valX_rep {k : Key} {d : D} : ∀ {ks : List Key} {vs : List V} {xs : List D}, RepL K mg G vs xs → valX ks xs k = some d → ∃ v, valX ks vs k = some v ∧ Rep K mg G v d
  | [], vs, xs, r, h => by simp [valX] at h
  | k' :: ks, _, _, .nil, h => by simp [valX] at h
  | k' :: ks, _, _, .cons (v := v0) (d := d0) h0 r, h => by
    unfold valX at h ⊢
    rw [List.zip_cons_cons, List.find?_cons] at h ⊢
    by_cases e : k' = k
    · rw [decide_eq_true e] at h ⊢
      cases h
      exact ⟨_, rfl, h0⟩
    · rw [decide_eq_false e] at h ⊢
      exact valX_rep r h
theorem valX_none {k : Key} : ∀ {ks : List Key} {vs : List V} {xs : List D}, RepL K mg G vs xs → valX ks xs k = none → valX ks vs k = none
  | [], vs, xs, r, h => by simp [valX]
  | k' :: ks, _, _, .nil, h => by simp [valX]
  | k' :: ks, _, _, .cons (v := v0) (d := d0) h0 r, h => by
    unfold valX at h ⊢
    rw [List.zip_cons_cons, List.find?_cons] at h ⊢
    by_cases e : k' = k
    · rw [decide_eq_true e] at h
      cases h
    · rw [decide_eq_false e] at h ⊢
      exact valX_none r h
theorem valX_some {α : Type} {k : Key} : ∀ {ks : List Key} {xs : List α}, ks.length = xs.length → ((valX ks xs k).isSome = hasK ks k)
  | [], [], _ => rfl
  | [], _ :: _, h => by simp at h
  | _ :: _, [], h => by simp at h
  | k' :: ks, x :: xs, h => by
    have ih := valX_some (k := k) (ks := ks) (xs := xs) (by simpa using h)
    unfold valX hasK at ih ⊢
    rw [List.zip_cons_cons, List.find?_cons, List.any_cons]
    by_cases e : k' = k
    · rw [decide_eq_true e]
      rfl
    · rw [decide_eq_false e, Bool.false_or]
      exact ih
theorem any_zip {α : Type} (k : Key) : ∀ {ks : List Key} {vs : List α}, ks.length = vs.length → ((ks.zip vs).any fun kv => decide (kv.1 = k)) = hasK ks k
  | [], [], _ => rfl
  | [], _ :: _, h => by simp at h
  | _ :: _, [], h => by simp at h
  | k' :: ks, v :: vs, h => by
    have ih := any_zip k (ks := ks) (vs := vs) (by simpa using h)
    unfold hasK at ih ⊢
    rw [List.zip_cons_cons, List.any_cons, List.any_cons, ih]
theorem zip_rep {α : Type} (k : Key) (d : α) : ∀ {ks : List Key} {vs : List α}, ks.length = vs.length → (ks.zip vs).map (fun kv => if kv.1 = k then (kv.1, d) else kv) = ks.zip ((ks.zip vs).map fun kv => if kv.1 = k then d else kv.2)
  | [], [], _ => rfl
  | [], _ :: _, h => by simp at h
  | _ :: _, [], h => by simp at h
  | k' :: ks, v :: vs, h => by
    rw [List.zip_cons_cons, List.map_cons, List.map_cons, List.zip_cons_cons, zip_rep k d (by simpa using h)]
    by_cases e : k' = k
    · simp [e]
    · simp [e]
theorem putK_zip {vs : List V} {ks : List Key} (k : Key) (v : V) (h : ks.length = vs.length) : putK (ks.zip vs) k v = (putKs ks k).zip (putXs ks vs k v) := by
  unfold putK putKs putXs
  rw [any_zip k h]
  by_cases e : hasK ks k = true
  · rw [if_pos e, if_pos e, if_pos e, zip_rep k v h]
  · rw [if_neg e, if_neg e, if_neg e, List.zip_append h]
    rfl
theorem putKs_len {α : Type} {ks : List Key} {xs : List α} (k : Key) (d : α) (h : ks.length = xs.length) : (putKs ks k).length = (putXs ks xs k d).length := by
  unfold putKs putXs
  by_cases e : hasK ks k = true
  · rw [if_pos e, if_pos e, List.length_map, List.length_zip]; omega
  · rw [if_neg e, if_neg e, List.length_append, List.length_append, h]; rfl
theorem repX_rep {k : Key} {v : V} {d : D} (hv : Rep K mg G v d) : ∀ {ks : List Key} {vs : List V} {xs : List D}, RepL K mg G vs xs → RepL K mg G ((ks.zip vs).map fun kv => if kv.1 = k then v else kv.2) ((ks.zip xs).map fun kv => if kv.1 = k then d else kv.2)
  | [], _, _, _ => by simp; exact .nil
  | _ :: _, _, _, .nil => by simp; exact .nil
  | k' :: ks, _, _, .cons h0 r => by
    rw [List.zip_cons_cons, List.zip_cons_cons, List.map_cons, List.map_cons]
    refine .cons ?_ (repX_rep hv r)
    by_cases e : k' = k
    · simp only [e, if_true]; exact hv
    · simp only [e, if_false]; exact h0
theorem putXs_rep {k : Key} {v : V} {d : D} {ks : List Key} {vs : List V} {xs : List D} (hv : Rep K mg G v d) (r : RepL K mg G vs xs) : RepL K mg G (putXs ks vs k v) (putXs ks xs k d) := by
  unfold putXs
  by_cases e : hasK ks k = true
  · rw [if_pos e, if_pos e]; exact repX_rep hv r
  · rw [if_neg e, if_neg e]; exact r.append (.cons hv .nil)
/-- a dict that is looked at -/
theorem RepB.dict {ks : List Key} {xs : List D} {v : V} (gh : Same G H) (r : RepB K mg G H v (.dic ks xs)) : ∃ p vs, v = .ref p ∧ H p = some (.dK (ks.zip vs)) ∧ ks.length = vs.length ∧ RepL K mg G vs xs := by
  cases r with
  | sh r => cases r with
    | dic h l r => exact ⟨_, _, rfl, gh _ _ h, l, r⟩
  | dic h l r => exact ⟨_, _, rfl, h, l, r⟩
end
/-! ### {} -/
def nDict : Sx := fun _ => some (.dk [] [])
section
variable {X : Cx} {e a b o : Expr} {f g : Ex} {pos pos' : Pos} {st : Stmt} {F : Sm} {i : Nat} {rp : Pth}
theorem en_dnew : EN X (.Dict [] [] pos) nDict := ⟨⟨_, pe_dnewK, fun G0 H0 Z Γ σ G H Q s R hf k => by
  cases hf
  intro p hp
  exact k G _ _ (fun a => a = p) (Ext.own1 R.gh hp) (.dk (ks := []) (vs := []) rfl upd_same rfl .nil) fun a e => by subst e; exact ⟨R.gh.free hp, hp, by rw [upd_same]; simp⟩⟩⟩
/-! ### d[k], k in d -/
def dDget : D → D → Option D
  | .dic ks xs, j => (dKey j).bind fun k => valX ks xs k
  | _, _ => none
theorem e_dgt (hu : X.A.units + 1 < cLine) (ho : B X o f) (hi : E X e g) (hs : NoSl e := by intro _ _; rfl) : E X (.Subscript o e pos) (gOp dDget f g) := by
  obtain ⟨t, h1, h2⟩ := ho.ex
  obtain ⟨u, q1, q2⟩ := hi.ex
  refine ⟨⟨_, pe_dget hu h1 q1 hs, fun G0 H0 Z Γ σ G H Q d R hf k => ?_⟩⟩
  obtain ⟨x, e1, hf⟩ := obind hf
  obtain ⟨y, e2, hf⟩ := obind hf
  refine h2 G0 H0 Z Γ σ G H _ x R e1 fun G1 H1 v x1 r1 => ?_
  refine q2 G0 H0 Z Γ σ G1 H1 _ y (R.ext x1) e2 fun G2 H2 w x2 r2 => ?_
  cases x with
  | dic ks xs =>
    obtain ⟨ky, e3, hf⟩ := obind hf
    obtain ⟨p, vs, rfl, hp, hl, rl⟩ := (r1.ext x2).dict x2.gh
    obtain ⟨v, ev, rv⟩ := valX_rep rl hf
    refine ⟨p, v, rfl, ?_, k G2 H2 v (x1.trans x2) rv⟩
    rw [dKey_rep e3 r2, ← ev]
    exact DGet.k hp
  | _ => cases hf
def dDin : D → D → Option D
  | j, .dic ks _ => (dKey j).map fun k => .bl (hasK ks k)
  | _, _ => none
def dDnin : D → D → Option D
  | j, .dic ks _ => (dKey j).map fun k => .bl (!hasK ks k)
  | _, _ => none
theorem din_run {t u : TE} (h2 : ∀ G0 H0 Z Γ σ G H Q d, Rel X.K X.mg G0 H0 Z Γ σ G H → g Γ = some d → (∀ G' H' v, Ext G H G' H' → Rep X.K X.mg G' v d → Q v H') → t σ H Q)
    (q2 : ∀ G0 H0 Z Γ σ G H Q d, Rel X.K X.mg G0 H0 Z Γ σ G H → f Γ = some d → (∀ G' H' v, Ext G H G' H' → RepB X.K X.mg G' H' v d → Q v H') → u σ H Q)
    {G0 H0 Z Γ σ G H} {Q : V → Hp → Prop} {x y : D} {ks : List Key} {xs : List D} {ky : Key} (R : Rel X.K X.mg G0 H0 Z Γ σ G H) (e1 : g Γ = some x) (e2 : f Γ = some (.dic ks xs)) (e3 : dKey x = some ky) (k : ∀ G' H', Ext G H G' H' → ∀ b, b = hasK ks ky → Q (.bl b) H') : tDIn t u σ H Q ∧ tDNotIn t u σ H (fun v H' => ∀ c, v = .bl c → Q (.bl (!c)) H') := by
  constructor
  · refine h2 G0 H0 Z Γ σ G H _ x R e1 fun G1 H1 w x1 r1 => ?_
    refine q2 G0 H0 Z Γ σ G1 H1 _ _ (R.ext x1) e2 fun G2 H2 v x2 r2 => ?_
    obtain ⟨p, vs, rfl, hp, hl, rl⟩ := r2.dict x2.gh
    refine ⟨p, valV (ks.zip vs) ky, rfl, ?_, k G2 H2 (x1.trans x2) _ (by rw [valV_zip, valX_some hl])⟩
    rw [dKey_rep e3 r1]
    exact DGet.k hp
  · refine h2 G0 H0 Z Γ σ G H _ x R e1 fun G1 H1 w x1 r1 => ?_
    refine q2 G0 H0 Z Γ σ G1 H1 _ _ (R.ext x1) e2 fun G2 H2 v x2 r2 => ?_
    obtain ⟨p, vs, rfl, hp, hl, rl⟩ := r2.dict x2.gh
    refine ⟨p, valV (ks.zip vs) ky, rfl, ?_, fun c e => ?_⟩
    · rw [dKey_rep e3 r1]
      exact DGet.k hp
    · cases e
      rw [Bool.not_not]
      exact k G2 H2 (x1.trans x2) _ (by rw [valV_zip, valX_some hl])
theorem e_din (hu : X.A.units + 1 < cLine) (hi : E X e g) (ho : B X o f) (hm : behindInMarks .In o = false := by rfl) : E X (.Compare e [.In] [o] pos) (gOp dDin g f) := by
  obtain ⟨t, h1, h2⟩ := hi.ex
  obtain ⟨u, q1, q2⟩ := ho.ex
  refine ⟨⟨_, pe_cmp (pc_din hu h1 q1) hm, fun G0 H0 Z Γ σ G H Q d R hf k => ?_⟩⟩
  obtain ⟨x, e1, hf⟩ := obind hf
  obtain ⟨y, e2, hf⟩ := obind hf
  cases y with
  | dic ks xs =>
    obtain ⟨ky, e3, e4⟩ := Option.map_eq_some_iff.mp hf
    subst e4
    exact (din_run h2 q2 (y := .non) R e1 e2 e3 fun G' H' x b hb => k G' H' _ x (by rw [hb]; exact .bl _)).1
  | _ => cases hf
theorem t_din (hu : X.A.units + 1 < cLine) (hi : E X e g) (ho : B X o f) (hm : behindInMarks .In o = false := by rfl) : T X (.Compare e [.In] [o] pos) (gT (gOp dDin g f)) := by
  obtain ⟨t, h1, h2⟩ := hi.ex
  obtain ⟨u, q1, q2⟩ := ho.ex
  refine ⟨⟨_, pt_cmp (pc_din hu h1 q1) hm, fun G0 H0 Z Γ σ G H Q c R hf k => ?_⟩⟩
  obtain ⟨x, e1, hf⟩ := obind (gT_some hf)
  obtain ⟨y, e2, hf⟩ := obind hf
  cases y with
  | dic ks xs =>
    obtain ⟨ky, e3, e4⟩ := Option.map_eq_some_iff.mp hf
    cases e4
    exact (din_run h2 q2 (y := .non) R e1 e2 e3 fun G' H' x b hb => ⟨b, rfl, by rw [hb]; exact k G' H' x⟩).1
  | _ => cases hf
theorem e_dnin (hu : X.A.units + 1 < cLine) (hi : E X e g) (ho : B X o f) (hm : behindInMarks .NotIn o = false := by rfl) : E X (.Compare e [.NotIn] [o] pos) (gOp dDnin g f) := by
  obtain ⟨t, h1, h2⟩ := hi.ex
  obtain ⟨u, q1, q2⟩ := ho.ex
  refine ⟨⟨_, pe_cmp (pc_dnotin hu h1 q1) hm, fun G0 H0 Z Γ σ G H Q d R hf k => ?_⟩⟩
  obtain ⟨x, e1, hf⟩ := obind hf
  obtain ⟨y, e2, hf⟩ := obind hf
  cases y with
  | dic ks xs =>
    obtain ⟨ky, e3, e4⟩ := Option.map_eq_some_iff.mp hf
    subst e4
    refine h2 G0 H0 Z Γ σ G H _ x R e1 fun G1 H1 w x1 r1 => ?_
    refine q2 G0 H0 Z Γ σ G1 H1 _ _ (R.ext x1) e2 fun G2 H2 v x2 r2 => ?_
    obtain ⟨p, vs, rfl, hp, hl, rl⟩ := r2.dict x2.gh
    refine ⟨p, valV (ks.zip vs) ky, rfl, ?_, k G2 H2 _ (x1.trans x2) (by rw [valV_zip, valX_some hl]; exact .bl _)⟩
    rw [dKey_rep e3 r1]
    exact DGet.k hp
  | _ => cases hf
theorem t_dnin (hu : X.A.units + 1 < cLine) (hi : E X e g) (ho : B X o f) (hm : behindInMarks .NotIn o = false := by rfl) : T X (.Compare e [.NotIn] [o] pos) (gT (gOp dDnin g f)) := by
  obtain ⟨t, h1, h2⟩ := hi.ex
  obtain ⟨u, q1, q2⟩ := ho.ex
  refine ⟨⟨_, pt_cmp (pc_dnotin hu h1 q1) hm, fun G0 H0 Z Γ σ G H Q c R hf k => ?_⟩⟩
  obtain ⟨x, e1, hf⟩ := obind (gT_some hf)
  obtain ⟨y, e2, hf⟩ := obind hf
  cases y with
  | dic ks xs =>
    obtain ⟨ky, e3, e4⟩ := Option.map_eq_some_iff.mp hf
    cases e4
    refine h2 G0 H0 Z Γ σ G H _ x R e1 fun G1 H1 w x1 r1 => ?_
    refine q2 G0 H0 Z Γ σ G1 H1 _ _ (R.ext x1) e2 fun G2 H2 v x2 r2 => ?_
    obtain ⟨p, vs, rfl, hp, hl, rl⟩ := r2.dict x2.gh
    refine ⟨p, valV (ks.zip vs) ky, rfl, ?_, _, rfl, by rw [valV_zip, valX_some hl]; exact k G2 H2 (x1.trans x2)⟩
    rw [dKey_rep e3 r1]
    exact DGet.k hp
  | _ => cases hf
/-! ### list(d), sorted(d) -/
def dListK : D → Option (List D)
  | .dic ks _ => some (ks.map keyD0)
  | _ => none
theorem cb_listK (hc : X.calm = true) : CbL X (.type "list") dListK := by
  refine ⟨_, call_listD hc, fun x d v G H Q gh e r k => ?_⟩
  cases x with
  | dic ks xs =>
    cases e
    obtain ⟨p, vs, rfl, h, hl, rl⟩ := r.dict gh
    refine ⟨p, _, rfl, .inl h, fun q hq => ?_⟩
    have key : ∀ {ks : List Key} {vs : List V}, ks.length = vs.length → ((ks.zip vs).map fun kv => kV kv.1) = ks.map kV := fun {ks} => by
      induction ks with
      | nil => intro vs _; rfl
      | cons k' ks ih =>
        intro vs hl
        cases vs with
        | nil => simp at hl
        | cons v vs => rw [List.zip_cons_cons, List.map_cons, List.map_cons, ih (by simpa using hl)]
    rw [key hl]
    refine k q _ hq ?_
    clear h hl rl r k key
    induction ks with
    | nil => exact .nil
    | cons k' ks ih => exact .cons (kV_rep k') ih
  | _ => cases e
def intKs : List Key → Option (List Int)
  | [] => some []
  | .inl i :: ks => (intKs ks).map (i :: ·)
  | .inr _ :: _ => none
theorem intKs_map : ∀ {ks : List Key} {ns : List Int}, intKs ks = some ns → ks = ns.map Sum.inl
  | [], _, h => by cases h; rfl
  | .inl i :: ks, ns, h => by
    unfold intKs at h
    obtain ⟨ms, h1, h2⟩ := Option.map_eq_some_iff.mp h
    subst h2
    rw [List.map_cons, ← intKs_map h1]
  | .inr _ :: _, _, h => by cases h
theorem intKs_inl : ∀ ns : List Int, intKs (ns.map Sum.inl) = some ns
  | [] => rfl
  | n :: ns => by rw [List.map_cons, intKs, intKs_inl ns]; rfl
def dSortedK : D → Option (List D)
  | .dic ks _ => (intKs ks).bind fun ns => some ((srt ns).map D.int)
  | _ => none
end
end DL
namespace L2
open PySem PySem.Spec PyProof.Rows
section
variable {X : Cx}
/-- sorted(d) of a dict, all keys ints, any number of them -/
theorem call_sortedDA (calm : X.calm = true) : CallR X (.builtin "sorted") (fun args H Q => ∃ (d : Addr) (kvs : List (Key × V)) (ns : List Int), args = [.ref d] ∧ Rd H d (.dK kvs) ∧ kvs.map (·.1) = ns.map Sum.inl ∧
    ∀ (out : List Int) (q : Addr), out.Perm ns → out.Pairwise (· ≤ ·) → H q = none → Q (.ref q) (upd H q (.lst (out.map V.int)))) := by
  intro pins st sl H args vals Q inv rel hyp
  obtain ⟨d, kvs, ns, rfl, std, keys, fin⟩ := hyp
  obtain ⟨w, rfl, rw0⟩ := vals1 rel
  cases rw0
  obtain ⟨small, noMod, prs, both, isD⟩ := dk_rd inv.hok std
  obtain ⟨epoch, found⟩ := isD.dictAt
  have keys2 : prs.map (·.1) = ns.map Sum.inl := both.keys ▸ keys
  have many : prs.length = ns.length := by simpa using congrArg List.length keys2
  have few : prs.length ≤ sizeLine := both.length ▸ small
  refine Calls.call_function_entry PyProof.Rows.kind_sorted PyProof.Rows.plain_sorted PyProof.Rows.entry_sorted (PyProof.Rows.args_sorted1 _) ?_
  unfold Builtin.«sorted»
  refine wpAny_bind (m := checkCount "sorted" 1 1 _) (wpAny_pure (wpAny_bind (PySem.W.kdu_collect (A := X.A.in1) (PySem.W.kdl_dict (knd := mixKind X.prog X.w) (kvs := prs) (ep := epoch) noMod) (inv.ok.hd calm) found few fun heap2 tok2 got stays told => ?_)))
  have num : got.toList.length = ns.length := by rw [Array.length_toList, told.1, many]
  -- what was collected are the keys, all of them whole numbers
  have whole : IntsAre got.toList ns := ints_each num fun place u at0 => by
    obtain ⟨key, y, there, isKey⟩ := told.2 place u (by rw [← Array.getElem?_toList]; exact at0)
    have same : (ns.map Sum.inl)[place]? = some key := by rw [← keys2, List.getElem?_map, there]; rfl
    obtain ⟨n, hn, rfl⟩ := Option.map_eq_some_iff.mp ((List.getElem?_map ..).symm.trans same)
    rcases keyIs_shape (show keyIs (Sum.inl n) u = true from isKey) with ⟨m, tk, e, eu⟩ | ⟨x, tk, e, eu⟩
    · cases e; exact ⟨n, tk, hn, eu⟩
    · cases e
  have inv2 : Inv X pins sl H { st with heap := heap2, toks := tok2 } := inv.kept stays
  have line : got.toList.length ≤ sizeLine := by rw [num, ← many]; exact few
  refine wpAny_bind (wpAny_newList ?_ line)
  have laid : (heap2.push (seqObj "list" got.toList.toArray 0)).get? heap2.objs.size = some (seqObj "list" got.toList.toArray 0) := Heap.get?_push_size _ rfl
  show wpAny _ _ _ _ _ { st with heap := heap2.push (seqObj "list" got.toList.toArray 0), toks := tok2 }
  refine wpAny_bind (wpAny_holding (wpAny_call_entry PyProof.Rows.slot_list_sort ⟨_, laid, rfl⟩ PyProof.Rows.entry_list_sort (SrtO.list_sort_ord (s := { st with heap := heap2.push (seqObj "list" got.toList.toArray 0), toks := tok2 }) SrtO.swo_int laid line (fun two => SrtO.ints_sortable whole two) fun out up stable => ⟨_, rfl, ?_⟩) (PyProof.Rows.args_list_sort _)))
  obtain ⟨isI, perm, rising⟩ := SrtO.ints_out whole up stable
  obtain ⟨ep2, end2⟩ := PyProof.Rows.sortedHeap_at (vs := got.toList) (out := out.toArray) laid
  have line2 : ((out.map SrtO.iv).map V.int).length ≤ sizeLine := by rw [List.length_map, perm.length_eq, ← num]; exact line
  have ok : ObjOk X.prog X.w (upd H heap2.objs.size (.lst ((out.map SrtO.iv).map V.int))) _ heap2.objs.size (.lst ((out.map SrtO.iv).map V.int)) := ⟨line2, out, ep2, vals_of_ints isI, end2⟩
  refine wpAny_pure ⟨_, rfl, .ref heap2.objs.size, _, inv2.laid (t' := tok2) (fun b u there => ?_) (Nat.le_refl _) ok, rfl, fin _ _ perm rising (inv2.hok.fresh (Nat.le_refl _))⟩
  have below : b < heap2.objs.size := Heap.lt_size there
  rw [PyProof.Rows.sortedHeap_old (Nat.ne_of_lt below) (size_push' .. ▸ Nat.lt_succ_of_lt below)]
  exact Heap.get?_push_of_some _ there
end
end L2
namespace DL
open PySem L2
variable [TC : TabCtx]
section
variable {X : Cx} {e a b o : Expr} {f g : Ex} {pos pos' : Pos} {st : Stmt} {F : Sm} {i : Nat} {rp : Pth}
theorem cb_sortedK (hc : X.calm = true) : CbL X (.builtin "sorted") dSortedK := by
  refine ⟨_, call_sortedDA hc, fun x d v G H Q gh e r k => ?_⟩
  cases x with
  | dic ks xs =>
    obtain ⟨ns, e1, e2⟩ := obind e
    cases e2
    obtain ⟨p, vs, rfl, h, hl, rl⟩ := r.dict gh
    have e3 := intKs_map e1
    refine ⟨p, _, ns, rfl, .inl h, ?_, fun ys q hp ho hq => ?_⟩
    · rw [← e3, List.map_fst_zip (by omega)]
    · rw [srt_unique (hp.trans (srt_perm ns).symm) ho (srt_le ns)]
      exact k q _ hq .ofInts
  | _ => cases e
/-! ### d.get(k), d.get(k, x) -/
def dDget1 : D → D → Option D
  | .dic ks xs, j => (dKey j).map fun k => (valX ks xs k).getD .non
  | _, _ => none
theorem e_dget1 {apos cpos : Pos} (hu : X.A.units + 1 < cLine) (ho : B X o f) (hi : E X e g) (m : M1 X o "get" apos e cpos := by exact ⟨rfl, rfl, rfl, rfl⟩) : E X (.Call (.Attribute o "get" apos) [e] [] cpos) (gOp dDget1 f g) := by
  obtain ⟨t, h1, h2⟩ := ho.ex
  obtain ⟨u, q1, q2⟩ := hi.ex
  refine ⟨⟨_, pe_dget1 hu h1 q1 m, fun G0 H0 Z Γ σ G H Q d R hf k => ?_⟩⟩
  obtain ⟨x, e1, hf⟩ := obind hf
  obtain ⟨y, e2, hf⟩ := obind hf
  refine h2 G0 H0 Z Γ σ G H _ x R e1 fun G1 H1 v x1 r1 => ?_
  cases x with
  | dic ks xs =>
    obtain ⟨ky, e3, e4⟩ := Option.map_eq_some_iff.mp hf
    subst e4
    obtain ⟨p, vs, rfl, hp, hl, rl⟩ := r1.dict x1.gh
    refine ⟨p, rfl, .inl ⟨_, .inl hp⟩, ?_⟩
    refine q2 G0 H0 Z Γ σ G1 H1 _ y (R.ext x1) e2 fun G2 H2 w x2 r2 => ?_
    obtain ⟨p', vs', ep, hp, hl, rl⟩ := (r1.ext x2).dict x2.gh
    cases ep
    refine ⟨valV (ks.zip vs') ky, ?_, ?_⟩
    · rw [dKey_rep e3 r2]
      exact DGet.k hp
    · rw [valV_zip]
      cases q : valX ks xs ky with
      | none => rw [valX_none rl q]; rw [q] at k; exact k G2 H2 _ (x1.trans x2) .non
      | some d =>
        obtain ⟨v, ev, rv⟩ := valX_rep rl q
        rw [ev]
        rw [q] at k
        exact k G2 H2 _ (x1.trans x2) rv
  | _ => cases hf
/-! ### d[k] = v -/
def sDPut' (i : Nat) (rp : Pth) (k f : Ex) : Sm := fun Γ => (f Γ).bind fun d => (k Γ).bind fun j => match gP i rp Γ with
  | some (.dk ks xs) => (dKey j).bind fun ky => if ks.length < 1000000 then upP i rp (.dk (putKs ks ky) (putXs ks xs ky d)) Γ else none
  | _ => none
theorem Pack.dict {K : PySem.W.Frag} {mg : Str → Option Value} {G0 H0 : Hp} {Z : Zs} {Γ : DEnv} {σ : L2.St} {G H : Hp} {i : Nat} {rp : Pth} {s : Sl} {ks : List Key} {xs : List D} {v : V} {F1 : Addr → Prop} (gh : Same G H) {Hb : Hp} (P : Pack K mg G0 H0 Z Γ σ i rp s (.dk ks xs) v F1 Hb G H) :
    ∃ l vs, v = .ref l ∧ H l = some (.dK (ks.zip vs)) ∧ ks.length = vs.length ∧ RepL K mg G vs xs ∧ ∀ ks' vs' ys s', ks'.length = vs'.length → RepL K mg G vs' ys → setR rp (.dk ks' ys) s = some s' → Rel K mg G0 H0 Z (Γ.set i s') σ G (upd H l (.dK (ks'.zip vs'))) := by
  have hd := P.hd
  cases hd with
  | dk f h hl r =>
    rename_i l vs
    refine ⟨l, vs, rfl, h, hl, r, fun ks' vs' ys s' hl' r' es => ?_⟩
    have gl := (P.fr l f).1
    refine P.up G _ (fun a => a = l) (.dk ks' ys) s' (Same.refl _) (fun a o q => ?_) (fun a q => .inl q) (fun a o nf q => ?_) (.dk rfl upd_same hl' r') (fun a e => ?_) (fun _ => rfl) es
    · rw [upd_ne (ne_of_none q gl)]; exact gh _ _ q
    · rw [upd_ne]
      · exact q
      · intro e; subst e; exact nf f
    · subst e
      exact ⟨gl, by rw [upd_same]; simp, .inl f⟩
theorem s_dput {sp : Pos} {value : Expr} (hu : X.A.units + 1 < cLine) (hp : PL X o i rp) (he : E X value f) (hk : E X e g)
    (hs : swapsWith value (some (.Subscript o e sp)) pos.line X.env = pure false := by rfl) : S X (.Assign [.Subscript o e sp] value pos) (sDPut' i rp g f) := by
  obtain ⟨t, t1, t2⟩ := he.ex
  obtain ⟨u, u1, u2⟩ := hk.ex
  obtain ⟨w, w1, w2⟩ := hp.ex
  refine ⟨⟨_, ps_dput hu w1 u1 t1 hs, fun G0 H0 Z Γ σ G H D r R hf kk => ?_⟩⟩
  obtain ⟨d, e1, hf⟩ := obind hf
  obtain ⟨j, e2, hf⟩ := obind hf
  refine t2 G0 H0 Z Γ σ G H _ d R e1 fun G1 H1 v x1 r1 => ?_
  have R1 := R.ext x1
  cases q : gP i rp Γ with
  | none => rw [q] at hf; cases hf
  | some s1 =>
    rw [q] at hf
    cases s1 with
    | dk ks xs =>
      obtain ⟨ky, e3, hf⟩ := obind hf
      split at hf
      · rename_i hlen
        obtain ⟨s, s2, a1, a2, rfl⟩ := upP_some hf
        obtain ⟨s', b1, b2, b3⟩ := gP_some q (by simp [SlP])
        rw [a1] at b1
        cases b1
        refine w2 G0 H0 Z Γ σ G1 H1 G1 H1 _ s _ R1 (Ext.refl x1.gh) a1 b2 b3 (by simp) fun v0 pk => ?_
        refine u2 G0 H0 Z Γ σ G1 H1 _ _ R1 e2 fun G2 H2 w x2 r2 => ?_
        obtain ⟨F1, p1⟩ := pk G2 H2 x2
        obtain ⟨l, vs, rfl, d1, dl, d2, d3⟩ := p1.dict x2.gh
        refine ⟨l, _, rfl, ?_, kk σ G2 _ (d3 (putKs ks ky) (putXs ks vs ky v) _ _ (putKs_len _ _ dl) (putXs_rep (r1.mono x2.gg) d2) a2)⟩
        rw [dKey_rep e3 r2, ← putK_zip ky v dl]
        refine DPut.k d1 ?_
        rw [List.length_zip, ← dl, Nat.min_self]
        exact Nat.lt_of_lt_of_le hlen line_big
      · cases hf
    | _ => cases hf
/-! ### what stands at a place becomes known -/
def frzPE (i : Nat) (rp : Pth) (Γ : DEnv) : DEnv := match Γ[i]? with
  | none => Γ
  | some s => match getR rp s with
    | some (.ow xs) => (match setR rp (.sh (.lst xs)) s with | some s' => Γ.set i s' | none => Γ)
    | some (.dk ks xs) => (match setR rp (.sh (.dic ks xs)) s with | some s' => Γ.set i s' | none => Γ)
    | _ => Γ
def sFrzP (i : Nat) (rp : Pth) (f : Sm) : Sm := fun Γ => f (frzPE i rp Γ)
theorem Rel.frzPE {K : PySem.W.Frag} {mg : Str → Option Value} {G0 H0 : Hp} {Z : Zs} {Γ : DEnv} {σ : L2.St} {G H : Hp} (R : Rel K mg G0 H0 Z Γ σ G H) (i : Nat) (rp : Pth) : ∃ G', Rel K mg G0 H0 Z (frzPE i rp Γ) σ G' H := by
  unfold DL.frzPE
  split
  · exact ⟨G, R⟩
  · rename_i s hs
    split
    · rename_i xs q
      split
      · rename_i s' es
        obtain ⟨s0, b1, b2, b3⟩ := gP_some (i := i) (rp := rp) (Γ := Γ) (s1 := .ow xs) (by unfold gP; rw [hs]; exact q) (by simp [SlP])
        rw [hs] at b1
        cases b1
        obtain ⟨G', R', _⟩ := R.frzP (rp := rp) (d := .lst xs) hs q (by simp) b3 (by simp only [toD]) es
        exact ⟨G', R'⟩
      · exact ⟨G, R⟩
    · rename_i ks xs q
      split
      · rename_i s' es
        obtain ⟨s0, b1, b2, b3⟩ := gP_some (i := i) (rp := rp) (Γ := Γ) (s1 := .dk ks xs) (by unfold gP; rw [hs]; exact q) (by simp [SlP])
        rw [hs] at b1
        cases b1
        obtain ⟨G', R', _⟩ := R.frzP (rp := rp) (d := .dic ks xs) hs q (by simp) b3 (by simp only [toD]) es
        exact ⟨G', R'⟩
      · exact ⟨G, R⟩
    · exact ⟨G, R⟩
theorem s_frzP (i : Nat) (rp : Pth) (h : S X st F) : S X st (sFrzP i rp F) := by
  obtain ⟨t, h1, h2⟩ := h.ex
  refine ⟨⟨t, h1, fun G0 H0 Z Γ σ G H D r R hf k => ?_⟩⟩
  obtain ⟨G', R'⟩ := R.frzPE i rp
  exact h2 G0 H0 _ _ σ G' H D r R' hf k
end
end DL

namespace DL
open PySem L2
variable [TC : TabCtx]

/-! ### texts -/
def strs? : List D → Option (List Str)
  | [] => some []
  | .str x :: r => (strs? r).map (x :: ·)
  | _ :: _ => none
theorem strs?_map : ∀ ys : List Str, strs? (ys.map D.str) = some ys
  | [] => rfl
  | y :: ys => by
    show (strs? (ys.map D.str)).map _ = _
    rw [strs?_map ys]
    rfl
theorem strs?_eq : ∀ {ds : List D} {ys : List Str}, strs? ds = some ys → ds = ys.map D.str
  | [], _, h => by cases h; rfl
  | d :: ds, ys, h => by
    cases d with
    | str x =>
      obtain ⟨zs, e, rfl⟩ := Option.map_eq_some_iff.mp h
      rw [strs?_eq e]
      rfl
    | _ => cases h
theorem RepL.strs {K mg} {G : Hp} : ∀ {ys : List Str} {vs : List V}, RepL K mg G vs (ys.map D.str) → vs = ys.map V.str
  | [], _, r => by cases r; rfl
  | y :: ys, _, r => by
    cases r with
    | cons h r => cases h; rw [RepL.strs r]; rfl
theorem RepL.ofStrs {K mg} {G : Hp} : ∀ ys : List Str, RepL K mg G (ys.map V.str) (ys.map D.str)
  | [] => .nil
  | y :: ys => .cons (.str y) (RepL.ofStrs ys)
theorem len_app (x y : Str) : (x ++ y).length = x.length + y.length := by
  rw [TL.len_tl, TL.len_tl x, TL.len_tl y, TL.tl_append, List.length_append]
section
variable {X : Cx} {e a b o : Expr} {f g k : Ex} {fs : Ag} {pos pos' apos : Pos} {n i : Nat} {rp : Pth}
/-- str(an int) -/
def dStrI : D → Option D
  | .int i => if i.natAbs.log2 < 1920 then some (.str (toString i)) else none
  | _ => none
theorem cb_strI : CbB X (.type "str") dStrI := by
  refine ⟨_, call_str_int, fun x d v G H Q gh e r k => ?_⟩
  unfold dStrI at e
  split at e
  · split at e
    · cases e
      rename_i z
      rw [(r.flat (by simp)).intv]
      exact ⟨_, rfl, z, k G H _ (Ext.refl gh) (.str _)⟩
    · cases e
  · cases e
/-- int(a text) -/
def dIntS : D → Option D
  | .str a => if a.length ≤ 640 then (PySem.intText? a).map D.int else none
  | _ => none
theorem cb_intS : CbB X (.type "int") dIntS := by
  refine ⟨_, call_int_str, fun x d v G H Q gh e r k => ?_⟩
  unfold dIntS at e
  split at e
  · split at e
    · obtain ⟨m, e1, rfl⟩ := Option.map_eq_some_iff.mp e
      rename_i z
      rw [(r.flat (by simp)).strv]
      exact ⟨_, _, rfl, e1, z, k G H _ (Ext.refl gh) (.int _)⟩
    · cases e
  · cases e
/-- ord(a sign) -/
def dOrd : D → Option D
  | .str x => if x.length = 1 then some (.int (x.cps.getD 0 0 : Nat)) else none
  | _ => none
theorem cb_ord : CbB X (.builtin "ord") dOrd := by
  refine ⟨_, call_ord, fun x d v G H Q gh e r k => ?_⟩
  unfold dOrd at e
  split at e
  · split at e
    · cases e
      rename_i z
      rw [(r.flat (by simp)).strv]
      exact ⟨_, rfl, z, k G H _ (Ext.refl gh) (.int _)⟩
    · cases e
  · cases e
/-- tuple(a list or a tuple) -/
def dTuple : D → Option D
  | .lst xs => some (.tup xs)
  | .tup xs => some (.tup xs)
  | _ => none
theorem cb_tuple : CbB X (.type "tuple") dTuple := by
  refine ⟨_, call_tuple_of, fun x d v G H Q gh e r k => ?_⟩
  unfold dTuple at e
  split at e
  · cases e
    obtain ⟨p, vs, rfl, h, r⟩ := r.lst gh
    refine ⟨p, vs, rfl, .inl ⟨SqL.of h, fun l hl => ?_⟩⟩
    have x2 := Ext.new1 (o := .tup vs) gh hl
    exact k _ _ _ x2 (.tup (SqT.of upd_same) (r.mono x2.gg))
  · cases e
    cases r with
    | sh r =>
      cases r with
      | tup h r => exact ⟨_, _, rfl, .inr ⟨sqt_same gh h, k G H _ (Ext.refl gh) (.tup h r)⟩⟩
  · cases e
/-! f-strings -/
def dFmt : D → Option D
  | .str y => if y.length < 1000000 then some (.str y) else none
  | .int i => if i.natAbs.log2 < 1920 then some (.str (toString i)) else none
  | _ => none
theorem e_fmt (he : E X e f) : E X (.FormattedValue e (-1) none pos) (gU dFmt f) := by
  obtain ⟨t, h1, h2⟩ := he.ex
  refine ⟨⟨_, pe_fmt h1, fun G0 H0 Z Γ σ G H Q d R hf k => ?_⟩⟩
  obtain ⟨y, e1, hf⟩ := obind hf
  refine h2 G0 H0 Z Γ σ G H _ y R e1 fun G1 H1 v x1 r1 => ?_
  cases y with
  | str y =>
    replace hf : (if y.length < 1000000 then some (D.str y) else none) = some d := hf
    split at hf
    · cases hf
      rename_i z
      rw [r1.strv]
      exact .inl ⟨_, rfl, Nat.le_trans (Nat.le_of_lt z) line_big, k G1 H1 _ x1 (.str _)⟩
    · cases hf
  | int m =>
    replace hf : (if m.natAbs.log2 < 1920 then some (D.str (toString m)) else none) = some d := hf
    split at hf
    · cases hf
      rename_i z
      rw [r1.intv]
      exact .inr ⟨_, rfl, z, k G1 H1 _ x1 (.str _)⟩
    · cases hf
  | _ => cases hf
def totS (ys : List Str) : Nat := (ys.map Str.length).sum
structure EJ (X : Cx) (es : List Expr) (fs : Ag) : Prop where
  ex : ∃ ts, PJ X es ts ∧ ∀ G0 H0 Z Γ σ G H (acc : Str) (ys : List Str) (Q : Str → Hp → Prop), Rel X.K X.mg G0 H0 Z Γ σ G H → fs Γ = some (ys.map D.str) → acc.length + totS ys < 1000000 → (∀ G' H', Ext G H G' H' → Q (ys.foldl (· ++ ·) acc) H') → tJs ts acc σ H Q
theorem ej_nil : EJ X [] aN := ⟨⟨_, .nil, fun G0 H0 Z Γ σ G H acc ys Q R hf hl k => by
  have e : ys = [] := by
    cases ys with
    | nil => rfl
    | cons y ys => cases hf
  subst e
  exact k G H (Ext.refl R.gh)⟩⟩
theorem ej_cons {es : List Expr} (he : E X e f) (hr : EJ X es fs) : EJ X (e :: es) (aC f fs) := by
  obtain ⟨t, h1, h2⟩ := he.ex
  obtain ⟨ts, q1, q2⟩ := hr.ex
  refine ⟨⟨_, .cons h1 q1, fun G0 H0 Z Γ σ G H acc ys Q R hf hl k => ?_⟩⟩
  obtain ⟨d, e1, hf⟩ := obind hf
  obtain ⟨ds, e2, hf⟩ := obind hf
  cases ys with
  | nil => cases hf
  | cons y ys =>
    have hf := Option.some.inj hf
    rw [List.map_cons] at hf
    injection hf with e3 e4
    subst e3 e4
    have tt : totS (y :: ys) = y.length + totS ys := by unfold totS; simp
    rw [tt] at hl
    refine h2 G0 H0 Z Γ σ G H _ _ R e1 fun G1 H1 v x1 r1 => ?_
    rw [r1.strv]
    refine ⟨y, rfl, ?_, ?_⟩
    · rw [len_app]
      exact Nat.le_trans (by omega) line_big
    · refine q2 G0 H0 Z Γ σ G1 H1 (acc ++ y) ys Q (R.ext x1) e2 (by rw [len_app]; omega) fun G2 H2 x2 => ?_
      exact k G2 H2 (x1.trans x2)
def gJs (fs : Ag) : Ex := fun Γ => (fs Γ).bind fun ds => (strs? ds).bind fun ys => if totS ys < 1000000 then some (.str (ys.foldl (· ++ ·) Str.empty)) else none
theorem e_js {v1 v2 : Expr} {rest : List Expr} (h : EJ X (v1 :: v2 :: rest) fs) : E X (.JoinedStr (v1 :: v2 :: rest) pos) (gJs fs) := by
  obtain ⟨ts, h1, h2⟩ := h.ex
  refine ⟨⟨_, pe_joined h1, fun G0 H0 Z Γ σ G H Q d R hf k => ?_⟩⟩
  obtain ⟨ds, e1, hf⟩ := obind hf
  obtain ⟨ys, e2, hf⟩ := obind hf
  split at hf
  · cases hf
    rename_i z
    have e3 := strs?_eq e2
    subst e3
    refine h2 G0 H0 Z Γ σ G H Str.empty ys _ R e1 (by show 0 + totS ys < 1000000; omega) fun G1 H1 x1 => ?_
    exact k G1 H1 _ x1 (.str _)
  · cases hf
/-! methods of texts -/
def dSplit : D → D → Option (List D)
  | .str a, .str b => if (b.length == 0) = false ∧ a.length < 1000000 then some ((Txt.split a b).map D.str) else none
  | _, _ => none
def gSplit (f g : Ex) : Ag := fun Γ => (f Γ).bind fun x => (g Γ).bind fun y => dSplit x y
theorem el_split (ho : E X o f) (he : E X e g) (hs : starEach [e] X.env = [(false, eval e X.env)] := by rfl) (hbase : attributeBase o "split" X.env (eval o X.env) = eval o X.env := by rfl) (hline : (apos.endLine == pos.line) = true := by rfl) : EL X (.Call (.Attribute o "split" apos) [e] [] pos) (gSplit f g) := by
  obtain ⟨t, h1, h2⟩ := ho.ex
  obtain ⟨u, q1, q2⟩ := he.ex
  refine ⟨⟨_, pe_split h1 q1 hs hbase hline, fun G0 H0 Z Γ σ G H Q ds R hf k => ?_⟩⟩
  obtain ⟨x, e1, hf⟩ := obind hf
  obtain ⟨y, e2, hf⟩ := obind hf
  refine h2 G0 H0 Z Γ σ G H _ x R e1 fun G1 H1 v x1 r1 => ?_
  cases x with
  | str a =>
    cases y with
    | str b =>
      replace hf : (if (b.length == 0) = false ∧ a.length < 1000000 then some ((Txt.split a b).map D.str) else none) = some ds := hf
      split at hf
      · cases hf
        rename_i z _
        rw [r1.strv]
        refine ⟨⟨_, rfl⟩, ?_⟩
        refine q2 G0 H0 Z Γ σ G1 H1 _ _ (R.ext x1) e2 fun G2 H2 w x2 r2 => ?_
        rw [r2.strv]
        refine ⟨_, _, rfl, rfl, z.1, Nat.le_trans (show a.length + 2 ≤ 1000002 by omega) (by decide), fun p hp => ?_⟩
        exact k G2 _ p _ ((x1.trans x2).trans (Ext.own1 x2.gh hp)) ((x1.trans x2).hf hp) (x2.gh.free hp) upd_same (.ofStrs _)
      · cases hf
    | _ => cases hf
  | _ => cases hf
def dPart : D → D → Option D
  | .str a, .str b => if (b.length == 0) = false ∧ a.length < 1000000 then some (.tup [.str (Txt.partition a b).1, .str (Txt.partition a b).2.1, .str (Txt.partition a b).2.2]) else none
  | _, _ => none
theorem e_part (ho : E X o f) (he : E X e g) (hs : starEach [e] X.env = [(false, eval e X.env)] := by rfl) (hbase : attributeBase o "partition" X.env (eval o X.env) = eval o X.env := by rfl) (hline : (apos.endLine == pos.line) = true := by rfl) : E X (.Call (.Attribute o "partition" apos) [e] [] pos) (gOp dPart f g) := by
  obtain ⟨t, h1, h2⟩ := ho.ex
  obtain ⟨u, q1, q2⟩ := he.ex
  refine ⟨⟨_, pe_partition h1 q1 hs hbase hline, fun G0 H0 Z Γ σ G H Q d R hf k => ?_⟩⟩
  obtain ⟨x, e1, hf⟩ := obind hf
  obtain ⟨y, e2, hf⟩ := obind hf
  refine h2 G0 H0 Z Γ σ G H _ x R e1 fun G1 H1 v x1 r1 => ?_
  cases x with
  | str a =>
    cases y with
    | str b =>
      replace hf : (if (b.length == 0) = false ∧ a.length < 1000000 then some (D.tup [.str (Txt.partition a b).1, .str (Txt.partition a b).2.1, .str (Txt.partition a b).2.2]) else none) = some d := hf
      split at hf
      · cases hf
        rename_i z _
        rw [r1.strv]
        refine ⟨⟨_, rfl⟩, ?_⟩
        refine q2 G0 H0 Z Γ σ G1 H1 _ _ (R.ext x1) e2 fun G2 H2 w x2 r2 => ?_
        rw [r2.strv]
        refine ⟨_, _, rfl, rfl, z.1, Nat.le_trans (Nat.le_of_lt z.2) line_big, fun p hp => ?_⟩
        have x3 := Ext.new1 (o := .tup [.str (Txt.partition a b).1, .str (Txt.partition a b).2.1, .str (Txt.partition a b).2.2]) x2.gh hp
        exact k _ _ _ ((x1.trans x2).trans x3) (.tup (SqT.of upd_same) (.cons (.str _) (.cons (.str _) (.cons (.str _) .nil))))
      · cases hf
    | _ => cases hf
  | _ => cases hf
def dJoin : D → D → Option D
  | .str a, .lst xs => (strs? xs).bind fun ys => if totS ys + ys.length * a.length ≤ 16777216 then some (.str (Txt.join a ys)) else none
  | .str a, .tup xs => (strs? xs).bind fun ys => if totS ys + ys.length * a.length ≤ 16777216 then some (.str (Txt.join a ys)) else none
  | _, _ => none
theorem e_join (ho : E X o f) (he : B X e g) (hs : starEach [e] X.env = [(false, eval e X.env)] := by rfl) (hbase : attributeBase o "join" X.env (eval o X.env) = eval o X.env := by rfl) (hline : (apos.endLine == pos.line) = true := by rfl) : E X (.Call (.Attribute o "join" apos) [e] [] pos) (gOp dJoin f g) := by
  obtain ⟨t, h1, h2⟩ := ho.ex
  obtain ⟨u, q1, q2⟩ := he.ex
  refine ⟨⟨_, pe_join h1 q1 hs hbase hline, fun G0 H0 Z Γ σ G H Q d R hf k => ?_⟩⟩
  obtain ⟨x, e1, hf⟩ := obind hf
  obtain ⟨y, e2, hf⟩ := obind hf
  refine h2 G0 H0 Z Γ σ G H _ x R e1 fun G1 H1 v x1 r1 => ?_
  cases x with
  | str a =>
    rw [r1.strv]
    refine ⟨⟨_, rfl⟩, ?_⟩
    refine q2 G0 H0 Z Γ σ G1 H1 _ _ (R.ext x1) e2 fun G2 H2 w x2 r2 => ?_
    cases y with
    | lst xs =>
      obtain ⟨ys, e3, hf⟩ := obind hf
      split at hf
      · cases hf
        rename_i z _ _
        have e4 := strs?_eq e3
        subst e4
        obtain ⟨p, vs, rfl, h, r⟩ := r2.lst x2.gh
        rw [r.strs] at h
        exact ⟨_, p, ys, rfl, rfl, .inl (SqL.of h), z, k G2 H2 _ (x1.trans x2) (.str _)⟩
      · cases hf
    | tup xs =>
      obtain ⟨ys, e3, hf⟩ := obind hf
      split at hf
      · cases hf
        rename_i z _ _
        have e4 := strs?_eq e3
        subst e4
        obtain ⟨p, vs, rfl, h, r⟩ := r2.tup x2.gh
        rw [r.strs] at h
        exact ⟨_, p, ys, rfl, rfl, .inr h, z, k G2 H2 _ (x1.trans x2) (.str _)⟩
      · cases hf
    | _ => cases hf
  | _ => cases hf
def dStarts : D → D → Option D
  | .str a, .str b => some (.bl (Txt.startswith a b))
  | _, _ => none
theorem e_starts (ho : E X o f) (he : E X e g) (hs : starEach [e] X.env = [(false, eval e X.env)] := by rfl) (hbase : attributeBase o "startswith" X.env (eval o X.env) = eval o X.env := by rfl) (hline : (apos.endLine == pos.line) = true := by rfl) : E X (.Call (.Attribute o "startswith" apos) [e] [] pos) (gOp dStarts f g) := by
  obtain ⟨t, h1, h2⟩ := ho.ex
  obtain ⟨u, q1, q2⟩ := he.ex
  refine ⟨⟨_, pe_m1 PySem.F.slot_str_startswith PySem.F.type_str_startswith mt_startswith h1 q1 hs hbase hline, fun G0 H0 Z Γ σ G H Q d R hf k => ?_⟩⟩
  obtain ⟨x, e1, hf⟩ := obind hf
  obtain ⟨y, e2, hf⟩ := obind hf
  refine h2 G0 H0 Z Γ σ G H _ x R e1 fun G1 H1 v x1 r1 => ?_
  cases x with
  | str a =>
    cases y with
    | str b =>
      cases hf
      rw [r1.strv]
      refine ⟨⟨_, rfl⟩, ?_⟩
      refine q2 G0 H0 Z Γ σ G1 H1 _ _ (R.ext x1) e2 fun G2 H2 w x2 r2 => ?_
      rw [r2.strv]
      exact ⟨_, _, rfl, rfl, k G2 H2 _ (x1.trans x2) (.bl _)⟩
    | _ => cases hf
  | _ => cases hf
def dAscii : D → Option D
  | .str a => some (.bl (Txt.isascii a))
  | _ => none
def dDigit : D → Option D
  | .str a => some (.bl (Txt.isdigit a))
  | _ => none
theorem e_ascii (ho : E X o f) (hbase : attributeBase o "isascii" X.env (eval o X.env) = eval o X.env := by rfl) (hline : (apos.endLine == pos.line) = true := by rfl) : E X (.Call (.Attribute o "isascii" apos) [] [] pos) (gU dAscii f) := by
  obtain ⟨t, h1, h2⟩ := ho.ex
  refine ⟨⟨_, pe_m0 PySem.F.slot_str_isascii PySem.F.type_str_isascii mt_isascii h1 hbase hline, fun G0 H0 Z Γ σ G H Q d R hf k => ?_⟩⟩
  obtain ⟨x, e1, hf⟩ := obind hf
  refine h2 G0 H0 Z Γ σ G H _ x R e1 fun G1 H1 v x1 r1 => ?_
  cases x with
  | str a =>
    cases hf
    rw [r1.strv]
    exact ⟨⟨_, rfl⟩, _, rfl, rfl, True.intro, k G1 H1 _ x1 (.bl _)⟩
  | _ => cases hf
theorem e_digit (ho : E X o f) (hbase : attributeBase o "isdigit" X.env (eval o X.env) = eval o X.env := by rfl) (hline : (apos.endLine == pos.line) = true := by rfl) : E X (.Call (.Attribute o "isdigit" apos) [] [] pos) (gU dDigit f) := by
  obtain ⟨t, h1, h2⟩ := ho.ex
  refine ⟨⟨_, pe_m0 PySem.F.slot_str_isdigit PySem.F.type_str_isdigit mt_isdigit h1 hbase hline, fun G0 H0 Z Γ σ G H Q d R hf k => ?_⟩⟩
  obtain ⟨x, e1, hf⟩ := obind hf
  refine h2 G0 H0 Z Γ σ G H _ x R e1 fun G1 H1 v x1 r1 => ?_
  cases x with
  | str a =>
    cases hf
    rw [r1.strv]
    exact ⟨⟨_, rfl⟩, _, rfl, rfl, True.intro, k G1 H1 _ x1 (.bl _)⟩
  | _ => cases hf
/-- x[a:b] of a text -/
def dCutS : D → Option Int → Option Int → Option D
  | .str z, lo, hi => if z.length < 1000000 then some (.str (cutS z lo hi)) else none
  | _, _, _ => none
def gSlS (f : Ex) (lo hi : Op) : Ex := fun Γ => (f Γ).bind fun x => (lo Γ).bind fun l => (hi Γ).bind fun h => dCutS x l h
theorem e_slS {lo hi : Option Expr} {p2 : Pos} {fl fh : Op} (he : E X e f) (hl : O X lo fl) (hh : O X hi fh) : E X (.Subscript e (.Slice lo hi none p2) pos) (gSlS f fl fh) := by
  obtain ⟨t, h1, h2⟩ := he.ex
  obtain ⟨u, q1, q2⟩ := hl.ex
  obtain ⟨w, z1, z2⟩ := hh.ex
  refine ⟨⟨_, pe_slice sl_str h1 q1 z1, fun G0 H0 Z Γ σ G H Q d R hf k => ?_⟩⟩
  obtain ⟨x, e1, hf⟩ := obind hf
  obtain ⟨l, e2, hf⟩ := obind hf
  obtain ⟨h, e3, hf⟩ := obind hf
  refine h2 G0 H0 Z Γ σ G H _ x R e1 fun G1 H1 v x1 r1 => ?_
  refine q2 G0 H0 Z Γ σ G1 H1 _ l (R.ext x1) e2 fun G2 H2 x2 => ?_
  refine z2 G0 H0 Z Γ σ G2 H2 _ h ((R.ext x1).ext x2) e3 fun G3 H3 x3 => ?_
  cases x with
  | str z =>
    replace hf : (if z.length < 1000000 then some (D.str (cutS z l h)) else none) = some d := hf
    split at hf
    · cases hf
      rename_i hz _ _
      rw [r1.strv]
      exact ⟨z, rfl, Nat.le_trans (Nat.le_of_lt hz) line_big, k G3 H3 _ ((x1.trans x2).trans x3) (.str _)⟩
    · cases hf
  | _ => cases hf
/-- a sign in a text -/
def dInS : D → D → Option D
  | .str x, .str z => match x.cps.toList with
    | [c] => some (.bl (decide (c ∈ z.cps.toList)))
    | _ => none
  | _, _ => none
theorem od_inS : OpD X (compareOp .In) dInS := by
  refine ⟨_, op_in_sign, fun x y d v w G H Q gh e r1 r2 k => ?_⟩
  cases x with
  | str x =>
    cases y with
    | str z =>
      replace e : (match x.cps.toList with | [c] => some (D.bl (decide (c ∈ z.cps.toList))) | _ => none) = some d := e
      split at e
      · cases e
        rename_i c hc
        have ex : x = ⟨#[c]⟩ := TL.ext_tl hc
        rw [r1.strv, r2.strv]
        exact ⟨c, z, by rw [ex], rfl, k G H _ (Ext.refl gh) (.bl _)⟩
      · cases e
    | _ => cases e
  | _ => cases e
/-- for c in a text -/
def dWalkS : D → Option (List D)
  | .str z => some (z.cps.toList.map fun c => .str ⟨#[c]⟩)
  | _ => none
def gItS (f : Ex) : Ag := fun Γ => (f Γ).bind dWalkS
theorem itm_str {K mg} {G : Hp} {z : Str} : Itm K mg (Its z) G (z.cps.toList.map fun c => .str ⟨#[c]⟩) := by
  intro i G1 H1 s1 s2
  refine ⟨fun hi => by show z.cps.size ≤ i; simpa using hi, fun d hd => ?_⟩
  have hi : i < z.cps.size := by
    have := (List.getElem?_eq_some_iff.mp hd).1
    simpa using this
  refine ⟨hi, fun x H2 y => ?_⟩
  obtain ⟨rfl, c, hc, rfl⟩ := y
  refine ⟨G1, Ext.refl s2, ?_⟩
  rw [List.getElem?_map, Array.getElem?_toList, hc] at hd
  cases hd
  exact .str _
variable {tg iter : Expr}
theorem i_str (h : E X iter f) : I X tg iter (gItS f) := by
  obtain ⟨t, h1, h2⟩ := h.ex
  refine ⟨⟨_, pi_str h1, fun G0 H0 Z Γ σ G H R ds Rl hf k => ?_⟩⟩
  obtain ⟨d, e1, hf⟩ := obind hf
  cases d with
  | str z =>
    cases hf
    refine h2 G0 H0 Z Γ σ G H _ _ Rl e1 fun G1 H1 v x1 r1 => ?_
    rw [r1.strv]
    exact ⟨z, rfl, k G1 H1 _ x1 itm_str⟩
  | _ => cases hf
/-- a statement that is never come to -/
def sDie : Sm := fun _ => none
theorem s_die {st : Stmt} : DL.S X st sDie := ⟨⟨fun _ _ _ => False, ⟨fun _ _ _ _ _ _ h => h.elim⟩, fun _ _ _ _ _ _ _ _ _ _ h _ => by cases h⟩⟩
/-- a global name that is a tuple of the written part -/
def GlT (K : PySem.W.Frag) (mg : Str → Option Value) (x : Str) (ds : List D) : Prop := ∃ a vs, mg x = some (.ref a) ∧ SqT K (fun _ => none) a vs ∧ RepL K mg (fun _ => none) vs ds
theorem e_gtup {x : Str} {ds : List D} (hm : GlT X.K X.mg x ds) (hg : Gl X x := by rfl) (hd : (x == ("__debug__" : Str)) = false := by decide) : E X (.Name x pos) (gC (.tup ds)) := by
  obtain ⟨a, vs, hm, hs, hr⟩ := hm
  refine ⟨⟨_, pe_glob hg hm (v := .ref a) rfl hd, fun G0 H0 Z Γ σ G H Q d R hf k => ?_⟩⟩
  cases hf
  have s0 : Same (fun _ => none) G := fun _ _ h => by cases h
  exact k G H _ (Ext.refl R.gh) (.tup (sqt_same s0 hs) (hr.mono s0))
end
end DL

namespace DL
open PySem L2
variable [TC : TabCtx]

/-! ### what a call that changes a place gives, handed on -/
section
variable {X : Cx} {e a b o : Expr} {es : List Expr} {f g : Ex} {fs : Ag} {mx : Mx} {pos pos' : Pos} {n : Nat}
/-- f(the call), f a type -/
def gMU (q : D → Option D) (m : Mx) : Mx := fun Γ => (m Γ).bind fun r => (q r.1).bind fun d => some (d, r.2)
theorem em_cty {id : String} {x : Str} {p : Pos} {q : D → Option D} (hc : CbB X (.type id) q) (hg : Gl X x) (hm : X.mg x = none) (hv : bootBuiltins x = some (.type id)) (ha : EM X a mx) (hn : x ≠ "__name__" := by decide) (hdb : (x == ("__debug__" : Str)) = false := by decide)
    (he : starEach [a] X.env = (false, eval a X.env) :: starEach [] X.env := by rfl) (hpl : (backTo pos (starEach [] X.env)).any (·.1) = false := by rfl) : EM X (.Call (.Name x p) [a] [] pos) (gMU q mx) := by
  obtain ⟨r, c1, c2⟩ := hc
  obtain ⟨t, h1, h2⟩ := ha.ex
  refine ⟨⟨_, pe_callTy c1 hg hm hv (pa_cons h1 pa_nil he) hn hdb he hpl, fun G0 H0 Z Γ σ G H Q d Γ' R hf k => ?_⟩⟩
  obtain ⟨⟨y, Γ1⟩, e1, hf⟩ := obind hf
  obtain ⟨d', e2, hf⟩ := obind hf
  cases hf
  refine h2 G0 H0 Z Γ σ G H _ y Γ1 R e1 fun G1 H1 v R1 r1 => ?_
  exact c2 y d v G1 H1 Q R1.gh e2 (.sh r1) fun G2 H2 u x2 r2 => k G2 H2 u (R1.ext x2) r2
/-- x[i] of what the call gives -/
def gMIx (m : Mx) (g : Ex) : Mx := fun Γ => (m Γ).bind fun r => (g r.2).bind fun i => (dIx r.1 i).bind fun d => some (d, r.2)
/-- a def whose first argument is the call -/
def gMCall (F : List D → Option D) (m : Mx) (fs : Ag) : Mx := fun Γ => (m Γ).bind fun r => (fs r.2).bind fun ds => (F (r.1 :: ds)).bind fun d => some (d, r.2)
theorem em_fn {k L : Nat} {ps : List Str} {S : List D → Option D} {x : Str} {p : Pos} (c : Cal X.prog X.w X.K X.mg X.base x L ps S) (hr : Room k X.A) (hk : L ≤ k)
    (hm : EM X a mx) (ha : AN X es n fs) (hn : ps.length = n + 1 := by rfl) (hg : Gl X x := by rfl) (hdb : (x == ("__debug__" : Str)) = false := by decide) (he : starEach (a :: es) X.env = (false, eval a X.env) :: starEach es X.env := by rfl) (hpl : (backTo pos (starEach es X.env)).any (·.1) = false := by rfl) :
    EM X (.Call (.Name x p) (a :: es) [] pos) (gMCall S mx fs) := by
  obtain ⟨f, fd, FO, hmg, hki, hb⟩ := c.ex
  obtain ⟨t, h1, h2⟩ := hm.ex
  obtain ⟨u, q1, q2⟩ := ha.a.ex
  refine ⟨⟨_, pe_call FO (hr.mono hk) hg hmg hki hb .nil pass0 (pa_cons h1 q1 he) hdb he hpl, fun G0 H0 Z Γ σ G H Q d Γ' R hf k => ?_⟩⟩
  obtain ⟨⟨y, Γ1⟩, e1, hf⟩ := obind hf
  obtain ⟨ds, e2, hf⟩ := obind hf
  obtain ⟨d', e3, hf⟩ := obind hf
  cases hf
  refine h2 G0 H0 Z Γ σ G H _ y Γ1 R e1 fun G1 H1 v R1 r1 => ?_
  refine q2 G0 H0 Z Γ1 σ G1 H1 _ _ R1 e2 fun G2 H2 vs x2 r2 => ?_
  refine ⟨G2, y :: ds, d, ?_, x2.gh, (R1.ext x2).tbc, ?_, e3, fun G' H' w x3 r3 => k G' H' w ((R1.ext x2).ext x3) r3⟩
  · rw [List.append_nil, List.length_cons, r2.length, ha.n _ ds e2, hn]
  · rw [List.append_nil]; exact .cons (r1.mono x2.gg) r2
/-- P.append(the call), P a variable -/
def sAppM (i : Nat) (m : Mx) : Sm := fun Γ => (m Γ).bind fun r => match Γ[i]?, r.2[i]? with
  | some (.ow _), some (.ow xs) => if xs.length < 1000000 then some (.nx (r.2.set i (.ow (xs ++ [r.1])))) else none
  | _, _ => none
theorem s_appM {i : Nat} {x : Str} {ap np : Pos} (he : EM X e mx) (hN : X.N[i]? = some x := by rfl) (hv : Vis X.env.scope x := by first | exact Or.inl rfl | exact Or.inr (Or.inl rfl) | exact Or.inr (Or.inr rfl)) (hd : (x == ("__debug__" : Str)) = false := by decide)
    (hcd : (x == ("__classdict__" : Str)) = false := by decide) (hst : starEach [e] X.env = (false, eval e X.env) :: starEach [] X.env := by rfl)
    (hpe : ∀ {r : V → List V → Hp → VK → Prop} {to te : TE}, MtR X "list.append" r → PE X (.Name x np) to → PE X e te → PE X (.Call (.Attribute (.Name x np) "append" ap) [e] [] pos) (tBM X.K "list" r to (tCons te tNil)) := by intro r to te hm ho hp; exact pe_bm PySem.F.plainAttrs_list PySem.F.slot_list_append PySem.F.type_list_append hm ho (pa_cons hp pa_nil))
    (hs : swapsWith (.Call (.Attribute (.Name x np) "append" ap) [e] [] pos) none pos'.line X.env = pure false := by rfl) : DL.S X (.Expr (.Call (.Attribute (.Name x np) "append" ap) [e] [] pos) pos') (sAppM i mx) := by
  obtain ⟨t, h1, h2⟩ := he.ex
  refine ⟨⟨_, ps_expr (hpe mt_append (pe_var hN hv hd hcd) h1) hs, fun G0 H0 Z Γ σ G H D r R hf k => ?_⟩⟩
  obtain ⟨⟨d, Γ1⟩, e1, hf⟩ := obind hf
  cases q0 : Γ[i]? with
  | none => simp only [q0] at hf; cases hf
  | some s0 =>
    cases q1 : Γ1[i]? with
    | none => simp only [q0, q1] at hf; cases s0 <;> cases hf
    | some s1 =>
      simp only [q0, q1] at hf
      cases s0 with
      | ow xs0 =>
        cases s1 with
        | ow xs =>
          simp only at hf
          split at hf
          · rename_i hl
            cases hf
            obtain ⟨v0, F0, g0, pk0⟩ := R.pack (rp := []) q0 rfl (by simp) (by simp [SlP])
            have p0 := pk0 G H (Ext.refl R.gh)
            obtain ⟨l, vs, rfl, c1, c2, _⟩ := p0.list R.gh
            refine ⟨_, g0 rfl, .inl ⟨rfl, _, SqL.of c1⟩, ?_⟩
            refine h2 G0 H0 Z Γ σ G H _ d Γ1 R e1 fun G1 H1 v R1 r1 => ?_
            obtain ⟨v1, F1, g1, pk1⟩ := R1.pack (rp := []) q1 rfl (by simp) (by simp [SlP])
            have ev : v1 = .ref l := Option.some.inj (Option.some.inj ((g1 rfl).symm.trans (g0 rfl)))
            subst ev
            have p1 := pk1 G1 H1 (Ext.refl R1.gh)
            obtain ⟨l', vs', e', d1, d2, d3⟩ := p1.list R1.gh
            cases e'
            refine ⟨l, vs', v, rfl, rfl, d1, ?_, ?_⟩
            · rw [d2.length]; exact Nat.lt_of_lt_of_le hl line_big
            · exact k σ G1 _ (d3 _ _ _ (d2.append (.cons r1 .nil)) rfl)
          · cases hf
        | _ => cases hf
      | _ => cases hf
/-- a, b, .. = the call -/
def sUnpM (gs : Gs) (m : Mx) : Sm := fun Γ => (m Γ).bind fun r => (gs r.1 r.2).bind fun Γ' => some (.nx Γ')
/-- o[j] of a list of things of one's own, j written out -/
theorem pl_ix {i j : Nat} {rp : Pth} {m : Int} {jj : Nat} {p2 : Pos} (h0 : X.mg "" = none) (h : PL X o i rp) (hmj : m = (j : Int) := by rfl) (hs2 : PlainIx (.Constant (.int m) jj p2) := by exact fun _ _ => rfl) : PL X (.Subscript o (.Constant (.int m) jj p2) pos) i ((1000, j) :: rp) := by
  obtain ⟨t, h1, h2⟩ := h.ex
  refine ⟨⟨_, pe_ix ix_seq h1 pe_int hs2, fun G0 H0 Z Γ σ Gb Hb G H Q s s1 R xb hi hg hn hs k => ?_⟩⟩
  unfold getR at hg
  cases q : getR rp s with
  | none => rw [q] at hg; cases hg
  | some par =>
    rw [q] at hg
    cases par with
    | ob c fs =>
      replace hg : (if c = 1000 then fs[j]? else none) = some s1 := hg
      split at hg
      · rename_i hc
        subst hc
        refine h2 G0 H0 Z Γ σ Gb Hb G H _ s _ R xb hi q hn (by simp) fun v pk => ?_
        obtain ⟨F0, p0⟩ := pk G H xb
        obtain ⟨p, C', dx, vs, v1, F1, rfl, hm, ho, e1, _⟩ := p0.fld q hg
        rw [show cN 1000 = ("" : Str) from rfl, h0] at hm
        cases hm
      · cases hg
    | ol fs =>
      replace hg : (if (1000 : Nat) = 1000 then fs[j]? else none) = some s1 := hg
      rw [if_pos rfl] at hg
      refine h2 G0 H0 Z Γ σ Gb Hb G H _ s _ R xb hi q hn (by simp) fun v pk => ?_
      obtain ⟨F0, p0⟩ := pk G H xb
      obtain ⟨p, vs, v1, F1, rfl, ho, hl, e1, _⟩ := p0.itm q hg
      have ea : atI vs m = some v1 := by
        rw [hmj]
        unfold atI ixN
        have hj : j < vs.length := (List.getElem?_eq_some_iff.mp e1).1
        rw [if_pos (by omega), if_pos (by omega)]
        exact e1
      refine .inl ⟨p, vs, m, v1, rfl, rfl, SqL.of ho, ea, k v1 fun G1 H1 x1 => ?_⟩
      obtain ⟨F2, p2⟩ := pk G1 H1 x1
      obtain ⟨p', vs2, v2, F3, ep, ho2, _, e2, p3⟩ := p2.itm q hg
      cases ep
      obtain ⟨Fb, pb⟩ := pk Gb Hb (Ext.refl R.gh)
      obtain ⟨p', vs3, v3, F4, ep, hb1, _, e3, _⟩ := pb.itm q hg
      cases ep
      have h3 := x1.hh _ _ hb1 nofun
      have h4 := xb.hh _ _ hb1 nofun
      rw [ho2] at h3
      rw [ho] at h4
      cases h3
      cases h4
      rw [e1] at e2
      cases e2
      exact ⟨F3, p3⟩
    | _ => cases hg
/-- [n1, n2, ..] of new things -/
def nOl (fs : Nx) : Sx := fun Γ => (fs Γ).bind fun ss => some (.ol ss)
theorem en_lst {fs : Nx} (h : NN X es n fs) (h1000 : n ≤ 1000 := by decide) : EN X (.List es pos) (nOl fs) := by
  obtain ⟨t, h1, h2⟩ := h.ex
  refine ⟨⟨_, pe_lst h1, fun G0 H0 Z Γ σ G H Q s R hf k => ?_⟩⟩
  obtain ⟨ss, e1, hf⟩ := obind hf
  cases hf
  refine h2 G0 H0 Z Γ σ G H _ ss R e1 fun G1 H1 vs F x1 r1 l1 f1 => ⟨?_, fun P hP => ?_⟩
  · rw [l1, h.n Γ ss e1]; exact Nat.le_of_lt (small1000 h1000)
  · have nP : ∀ a, F a → a ≠ P := fun a fa z => (f1 a fa).2.2 (by rw [z]; exact hP)
    refine k G1 _ (.ref P) (fun a => F a ∨ a = P) (x1.trans (Ext.own1 x1.gh hP)) (.ol (F' := F) (.inr rfl) upd_same (fun z => nP P z rfl) (fun a => .inl) (r1.mono (Same.refl _) fun a o fa q _ => by rw [upd_ne (nP a fa)]; exact q)) fun a y => ?_
    rcases y with y | rfl
    · obtain ⟨g1, g2, g3⟩ := f1 a y
      exact ⟨g1, g2, by rw [upd_ne (nP a y)]; exact g3⟩
    · exact ⟨x1.gh.free hP, x1.hf hP, by rw [upd_same]; simp⟩
/-- a, b, .. = a list -/
def gTgL (n : Nat) (r : Gss) : Gs := fun d Γ => match d with | .lst ds => if ds.length = n then r ds Γ else none | _ => none
theorem g_unl {k : Nat} {ix : List Nat} {gs : Gss} (hc : X.calm = true) (h : GL X es ix gs) (hn : (assignEach es X.env).length = n := by rfl) (hst : (assignEach es X.env).findIdx? (·.1) = none := by rfl) : DL.G X (.Tuple es k pos) ix (gTgL n gs) := by
  obtain ⟨t, h1, h2⟩ := h.ex
  refine ⟨⟨_, pg_unl hc h1 hn hst, fun G0 H0 Z Γ σ G H Q d v Γ' R r hf k => ?_⟩⟩
  cases d with
  | lst ds =>
    replace hf : (if ds.length = n then gs ds Γ else none) = some Γ' := hf
    split at hf
    · rename_i hl
      cases r with
      | lst h r => exact ⟨_, _, rfl, SqL.of (R.gh _ _ h), by rw [r.length, hl], h2 G0 H0 Z Γ σ G H Q ds _ Γ' R r hf k⟩
    · cases hf
  | _ => cases hf
theorem s_unpM {tg : Expr} {ix : List Nat} {g : Gs} (he : EM X e mx) (hg : DL.G X tg ix g) (hs : swapsWithSole [tg] e pos.line X.env = pure false := by rfl) (hw : swappedStores [tg] e X.env = pure none := by rfl)
    (h1 : (assignEach [tg] X.env).map (·.2) = [assign tg X.env] := by rfl) : DL.S X (.Assign [tg] e pos) (sUnpM g mx) := by
  obtain ⟨t, h1', h2⟩ := he.ex
  obtain ⟨u, q1, q2⟩ := hg.ex
  refine ⟨⟨_, ps_asg h1' q1 hs hw h1, fun G0 H0 Z Γ σ G H D r R hf k => ?_⟩⟩
  obtain ⟨⟨d, Γ1⟩, e1, hf⟩ := obind hf
  obtain ⟨Γ', e2, hf⟩ := obind hf
  cases hf
  refine h2 G0 H0 Z Γ σ G H _ d Γ1 R e1 fun G1 H1 v R1 r1 => ?_
  exact q2 G0 H0 Z Γ1 σ G1 H1 _ d v Γ' R1 r1 e2 fun σ' R' _ => k σ' G1 H1 R'
end
end DL

namespace DL
open PySem L2
variable [TC : TabCtx]

/-! ### a place of what a call that changes a place gives -/
section
variable {X : Cx} {e a b o : Expr} {es : List Expr} {f g : Ex} {fs : Ag} {mx : Mx} {pos pos' : Pos} {n : Nat}
theorem em_ix (ha : EM X a mx) (hb : E X b g) (hs : PlainIx b := by exact fun _ _ => rfl) : EM X (.Subscript a b pos) (gMIx mx g) := by
  obtain ⟨t, h1, h2⟩ := ha.ex
  obtain ⟨u, q1, q2⟩ := hb.ex
  refine ⟨⟨_, pe_ix ix_seq h1 q1 hs, fun G0 H0 Z Γ σ G H Q d Γ' R hf k => ?_⟩⟩
  obtain ⟨⟨x, Γ1⟩, e1, hf⟩ := obind hf
  obtain ⟨y, e2, hf⟩ := obind hf
  obtain ⟨d', e3, hf⟩ := obind hf
  cases hf
  refine h2 G0 H0 Z Γ σ G H _ x Γ1 R e1 fun G1 H1 v R1 r1 => ?_
  refine q2 G0 H0 Z Γ1 σ G1 H1 _ y R1 e2 fun G2 H2 w x2 r2 => ?_
  have r1' := r1.mono x2.gg
  have fin : ∀ v, Rep X.K X.mg G2 v d → Q v H2 := fun v r => k G2 H2 v (R1.ext x2) r
  cases x with
  | lst xs =>
    cases y with
    | int i =>
      obtain ⟨p, vs, rfl, h, r⟩ := (RepB.sh r1').lst x2.gh
      obtain ⟨v, h3, h4⟩ := r.at e3
      rw [r2.intv]
      exact .inl ⟨p, vs, _, v, rfl, rfl, SqL.of h, h3, fin v h4⟩
    | _ => cases e3
  | tup xs =>
    cases y with
    | int i =>
      obtain ⟨p, vs, rfl, h, r⟩ := (RepB.sh r1').tup x2.gh
      obtain ⟨v, h3, h4⟩ := r.at e3
      rw [r2.intv]
      exact .inr (.inl ⟨p, vs, _, v, rfl, rfl, h, h3, fin v h4⟩)
    | _ => cases e3
  | scr ns =>
    cases y with
    | int i =>
      obtain ⟨p, rfl, h⟩ := (RepB.sh r1').scr x2.gh
      rw [r2.intv]
      replace e3 : (atI ns i).map D.int = some d := e3
      cases e4 : atI ns i with
      | none => rw [e4] at e3; cases e3
      | some m =>
        rw [e4] at e3; cases e3
        exact .inl ⟨p, _, i, .int m, rfl, rfl, h, by rw [atI_map, e4]; rfl, fin _ (.int m)⟩
    | _ => cases e3
  | str z =>
    cases y with
    | int i =>
      replace e3 : (if z.length < 1000000 then (atI z.cps.toList i).map fun c => D.str ⟨#[c]⟩ else none) = some d := e3
      split at e3
      · rename_i hz
        rw [r2.intv, r1'.strv]
        cases e4 : atI z.cps.toList i with
        | none => rw [e4] at e3; cases e3
        | some c =>
          rw [e4] at e3; cases e3
          exact .inr (.inr ⟨z, i, c, rfl, rfl, Nat.le_trans (Nat.le_of_lt hz) line_big, e4, fin _ (.str _)⟩)
      · cases e3
    | _ => cases e3
  | _ => cases e3
/-! P.f += text -/
theorem in_addS : InOp X .Add (fun x y H Q => ∃ i j, x = .str i ∧ y = .str j ∧ i.length + j.length ≤ PySem.sizeLine ∧ Q (.str (i ++ j)) H) := by
  rintro pins s σ H x y u v Q I rx ry h
  exact iop_add_str pins s σ H x y u v Q I rx ry h
def sAugFS (i : Nat) (rp : Pth) (c j : Nat) (f : Ex) : Sm := fun Γ => match gP i rp Γ with
  | some (.ob c' fs) => if c' = c then (match fs[j]? with
    | some (.sh (.str a)) => (f Γ).bind fun d => match d with
      | .str b => if a.length + b.length < 1000000 then upP i rp (.ob c (fs.set j (.sh (.str (a ++ b))))) Γ else none
      | _ => none
    | _ => none) else none
  | _ => none
theorem s_augFS {i : Nat} {rp : Pth} {c j : Nat} {C : Addr} {x : Str} {tpos : Pos} (ck : CK X.K X.mg c C) (hp : PL X o i rp) (he : E X e f) (hj : (cF c)[j]? = some x := by rfl) (nd : (cF c).Nodup := by decide +kernel) :
    S X (.AugAssign (.Attribute o x tpos) .Add e pos) (sAugFS i rp c j f) := by
  obtain ⟨t, t1, t2⟩ := he.ex
  obtain ⟨u, u1, u2⟩ := hp.ex
  refine ⟨⟨_, ps_fldaug u1 t1 in_addS, fun G0 H0 Z Γ σ G H D r R hf k => ?_⟩⟩
  unfold sAugFS at hf
  cases q : gP i rp Γ with
  | none => rw [q] at hf; cases hf
  | some par =>
    rw [q] at hf
    cases par with
    | ob c' fls =>
      replace hf : (if c' = c then (match fls[j]? with
        | some (.sh (.str a)) => (f Γ).bind fun d => match d with
          | .str b => if a.length + b.length < 1000000 then upP i rp (.ob c (fls.set j (.sh (.str (a ++ b))))) Γ else none
          | _ => none
        | _ => none) else none) = some r := hf
      split at hf
      · rename_i hc
        subst hc
        split at hf
        · rename_i a0 hfa
          obtain ⟨d, e1, hf⟩ := obind hf
          cases d with
          | str b0 =>
            replace hf : (if a0.length + b0.length < 1000000 then upP i rp (.ob c' (fls.set j (.sh (.str (a0 ++ b0))))) Γ else none) = some r := hf
            split at hf
            · rename_i hz
              obtain ⟨s, s2, a1, a2, rfl⟩ := upP_some hf
              obtain ⟨s', b1, b2, b3⟩ := gP_some q (by simp [SlP])
              rw [a1] at b1
              cases b1
              refine u2 G0 H0 Z Γ σ G H G H _ s _ R (Ext.refl R.gh) a1 b2 b3 (by simp) fun v0 pk => ?_
              obtain ⟨F0, P0⟩ := pk G H (Ext.refl R.gh)
              obtain ⟨p, C1, dx, vs, v1, F2, rfl, hm, ho, e2, P1⟩ := P0.fld b2 hfa
              rw [ck.hm] at hm
              cases hm
              have hv1 := P1.hd
              cases hv1 with
              | sh rv =>
                rw [rv.strv] at e2
                refine ⟨p, _, dx, _, .str a0, rfl, ho, ck.cl, ck.na x (List.mem_of_getElem? hj), zip_lookup nd hj e2, ?_⟩
                refine t2 G0 H0 Z Γ σ G H _ _ R e1 fun G1 H1 w x1 r1 => ?_
                rw [r1.strv]
                refine ⟨a0, b0, rfl, rfl, Nat.le_trans (Nat.le_of_lt hz) line_big, ?_⟩
                obtain ⟨F3, P3⟩ := pk G1 H1 x1
                obtain ⟨p', C2, dx2, vs2, ep, hm2, ho2, RR⟩ := P3.setSh x1.gh hj nd (v := .str (a0 ++ b0)) (.str _) ((List.getElem?_eq_some_iff.mp hfa).1) a2
                cases ep
                rw [ck.hm] at hm2
                cases hm2
                exact ⟨dx2, _, ho2, zip_short, k σ G1 _ RR⟩
            · cases hf
          | _ => cases hf
        · cases hf
      · cases hf
    | _ => cases hf
end
end DL

namespace DL
open PySem L2
variable [TC : TabCtx]
/-! isinstance(x, T) of tuples too -/
theorem tyx_tup {K : PySem.W.Frag} {H : Hp} {a : Addr} {vs : List V} (h : SqT K H a vs) : TyX K H (.ref a) (.type "tuple") := by
  rcases h with (h | ⟨o, h⟩) | ⟨o, its, n, h, c, _⟩
  · exact .base (.tup h)
  · exact .fTuple h
  · exact .kTuple h c
def dIsiD (T : String) (d : D) : Option D := match d with
  | .tup _ => (kitB "tuple" T).map D.bl
  | d => dIsi T d
section
variable {X : Cx} {a : Expr} {f : Ex} {pos : Pos}
theorem e_isiD {T : String} {x y : Str} {p p2 : Pos} (hg : Gl X x) (hm : X.mg x = none) (hv : bootBuiltins x = some (.builtin "isinstance")) (hgy : Gl X y) (hmy : X.mg y = none) (hvy : bootBuiltins y = some (.type T)) (ha : B X a f)
    (hn : x ≠ "__name__" := by decide) (hdb : (x == ("__debug__" : Str)) = false := by decide) (hny : y ≠ "__name__" := by decide) (hdby : (y == ("__debug__" : Str)) = false := by decide)
    (he : starEach [a, .Name y p2] X.env = (false, eval a X.env) :: starEach [.Name y p2] X.env := by rfl) (hpl : (backTo pos (starEach [.Name y p2] X.env)).any (·.1) = false := by rfl) (he2 : starEach [.Name y p2] X.env = (false, eval (.Name y p2) X.env) :: starEach [] X.env := by rfl) :
    E X (.Call (.Name x p) [a, .Name y p2] [] pos) (gU (dIsiD T) f) := by
  obtain ⟨t, h1, h2⟩ := ha.ex
  refine ⟨⟨_, pe_callB call_isi hg hm hv (pa_cons h1 (pa_cons (pe_bltn (v := .ty T) hgy hmy hvy rfl hny hdby) pa_nil he2) he) hn hdb he hpl, fun G0 H0 Z Γ σ G H Q d R hf k => ?_⟩⟩
  obtain ⟨y, e1, hf⟩ := obind hf
  refine h2 G0 H0 Z Γ σ G H _ y R e1 fun G1 H1 v x1 r1 => ?_
  have fin : ∀ {b : Bool}, d = .bl b → Q (.bl b) H1 := fun e => by subst e; exact k G1 H1 _ x1 (.bl _)
  have goX : ∀ (tn : String), TyX X.K H1 v (.type tn) → (kitB tn T).map D.bl = some d → rIsi X.K [v, .ty T] H1 Q := fun tn ty e => by
    cases q : kitB tn T with
    | none => rw [q] at e; cases e
    | some b =>
      rw [q] at e
      exact ⟨v, .ty T, .type tn, .type T, b, rfl, .ty T, ty, kit_ty q, fin (Option.some.inj e).symm⟩
  have go : ∀ (tn : String), TyOf X.K H1 v (.type tn) → (kitB tn T).map D.bl = some d → rIsi X.K [v, .ty T] H1 Q := fun tn ty e => goX tn (.base ty) e
  cases y with
  | non => have := r1.flat (by simp); cases this; exact go _ .non hf
  | bl b => have z := (r1.flat (by simp)).blv; subst z; exact go _ (.bl _) hf
  | int b => have z := (r1.flat (by simp)).intv; subst z; exact go _ (.int _) hf
  | str b => have z := (r1.flat (by simp)).strv; subst z; exact go _ (.str _) hf
  | lst xs => obtain ⟨p, vs, rfl, h, r⟩ := r1.lst x1.gh; exact go _ (.lst h) hf
  | tup xs =>
    have z := r1.flat (by simp)
    cases z with
    | tup h r => exact goX _ (tyx_tup (sqt_same x1.gh h)) hf
  | scr ns => cases hf
  | obj c ds => cases hf
  | fn a c q vs ds => cases hf
  | dic ks xs => cases hf
  | lls xs => cases hf
  | exc a dx n => cases hf
end
end DL

/-! bits, P.pop() as a value, sorted of tuples of two -/
namespace DL
open PySem L2
section
variable [TC : TabCtx]
variable {X : Cx} {e a b o : Expr} {f g : Ex} {pos : Pos} {i : Nat} {rp : Pth}
def dShr : D → D → Option D
  | .int i, .int j => if 0 ≤ j then some (.int (i / 2 ^ j.toNat)) else none
  | _, _ => none
theorem od_shr : OpD X (binaryOp .RShift) dShr := opd_i op_shr fun x y d e => by
  unfold dShr at e
  split at e
  · split at e
    · cases e; rename_i z; exact ⟨_, _, rfl, rfl, z, fun _ _ _ => .int _⟩
    · cases e
  · cases e
def dAnd1 : D → D → Option D
  | .int i, .int j => if j = 1 then some (.int (i % 2)) else none
  | _, _ => none
theorem od_and1 : OpD X (binaryOp .BitAnd) dAnd1 := by
  refine ⟨_, op_andM, fun x y d v w G H Q gh e rx ry k => ?_⟩
  unfold dAnd1 at e
  split at e
  · split at e
    · cases e; rename_i z
      subst z
      cases rx
      cases ry
      exact ⟨_, 1, rfl, rfl, k G H _ (Ext.refl gh) (.int _)⟩
    · cases e
  · cases e
/-! P.pop() -/
def gMPop (i : Nat) (rp : Pth) : Mx := fun Γ => match gP i rp Γ with
  | some (.ow xs) => (xs[xs.length - 1]?).bind fun d => (Γ[i]?).bind fun s => (setR rp (.ow xs.dropLast) s).bind fun s2 => some (d, Γ.set i s2)
  | _ => none
theorem em_pop {ap : Pos} (hp : PL X o i rp)
    (hpe : ∀ {r : V → List V → Hp → VK → Prop} {to : TE}, MtR X "list.pop" r → PE X o to → PE X (.Call (.Attribute o "pop" ap) [] [] pos) (tBM0 X.K "list" r to) := by intro r to hm ho; exact pe_bm0 PySem.F.plainAttrs_list PySem.F.slot_list_pop PySem.F.type_list_pop hm ho) :
    EM X (.Call (.Attribute o "pop" ap) [] [] pos) (gMPop i rp) := by
  obtain ⟨u, u1, u2⟩ := hp.ex
  refine ⟨⟨_, hpe mt_pop u1, fun G0 H0 Z Γ σ G H Q d Γ' R hf k => ?_⟩⟩
  unfold gMPop at hf
  cases q : gP i rp Γ with
  | none => rw [q] at hf; cases hf
  | some s1 =>
    rw [q] at hf
    cases s1 with
    | ow xs =>
      replace hf : ((xs[xs.length - 1]?).bind fun d => (Γ[i]?).bind fun s => (setR rp (.ow xs.dropLast) s).bind fun s2 => some (d, Γ.set i s2)) = some (d, Γ') := hf
      obtain ⟨d', e1, hf⟩ := obind hf
      obtain ⟨s, a1, hf⟩ := obind hf
      obtain ⟨s2, a2, hf⟩ := obind hf
      cases hf
      obtain ⟨s', b1, b2, b3⟩ := gP_some q (by simp [SlP])
      rw [a1] at b1
      cases b1
      refine u2 G0 H0 Z Γ σ G H G H _ s _ R (Ext.refl R.gh) a1 b2 b3 (by simp) fun v pk => ?_
      obtain ⟨F0, p0⟩ := pk G H (Ext.refl R.gh)
      obtain ⟨l, ws, rfl, d1, d2, d3⟩ := p0.list R.gh
      refine ⟨.inl ⟨rfl, _, SqL.of d1⟩, ?_⟩
      obtain ⟨y, y1, y2⟩ := d2.get _ e1
      rw [← d2.length] at y1
      refine ⟨_, ws, y, rfl, rfl, d1, y1, ?_⟩
      exact k G _ y (d3 _ _ _ d2.dropLast a2) y2
    | _ => cases hf
def sExtD (i : Nat) (rp : Pth) (f : Ex) : Sm := fun Γ => (f Γ).bind fun d => match d with
  | .lst ds => match gP i rp Γ with
    | some (.ow xs) => if xs.length + ds.length < 1000000 then upP i rp (.ow (xs ++ ds)) Γ else none
    | _ => none
  | _ => none
theorem s_extD {pos' : Pos} {ap : Pos} (hp : PL X o i rp) (he : B X e f) (hst : starEach [e] X.env = (false, eval e X.env) :: starEach [] X.env := by rfl)
    (hpe : ∀ {r : V → List V → Hp → VK → Prop} {to te : TE}, MtR X "list.extend" r → PE X o to → PE X e te → PE X (.Call (.Attribute o "extend" ap) [e] [] pos) (tBM X.K "list" r to (tCons te tNil)) := by intro r to te hm ho hp; exact pe_bm PySem.F.plainAttrs_list PySem.F.slot_list_extend PySem.F.type_list_extend hm ho (pa_cons hp pa_nil))
    (hs : swapsWith (.Call (.Attribute o "extend" ap) [e] [] pos) none pos'.line X.env = pure false := by rfl) : S X (.Expr (.Call (.Attribute o "extend" ap) [e] [] pos) pos') (sExtD i rp f) := by
  obtain ⟨t, h1, h2⟩ := he.ex
  obtain ⟨u, u1, u2⟩ := hp.ex
  refine ⟨⟨_, ps_expr (hpe mt_extend u1 h1) hs, fun G0 H0 Z Γ σ G H D r R hf k => ?_⟩⟩
  obtain ⟨dd, e1, hf⟩ := obind hf
  cases dd with
  | lst ds =>
    replace hf : (match gP i rp Γ with | some (.ow xs) => if xs.length + ds.length < 1000000 then upP i rp (.ow (xs ++ ds)) Γ else none | _ => none) = some r := hf
    cases q : gP i rp Γ with
    | none => rw [q] at hf; cases hf
    | some s1 =>
      rw [q] at hf
      cases s1 with
      | ow xs =>
        replace hf : (if xs.length + ds.length < 1000000 then upP i rp (.ow (xs ++ ds)) Γ else none) = some r := hf
        split at hf
        · rename_i hl
          obtain ⟨s, s2, a1, a2, rfl⟩ := upP_some hf
          obtain ⟨s', b1, b2, b3⟩ := gP_some q (by simp [SlP])
          rw [a1] at b1
          cases b1
          refine u2 G0 H0 Z Γ σ G H G H _ s _ R (Ext.refl R.gh) a1 b2 b3 (by simp) fun v pk => ?_
          obtain ⟨F0, p0⟩ := pk G H (Ext.refl R.gh)
          obtain ⟨l0, vs0, rfl, c1, c2, _⟩ := p0.list R.gh
          refine ⟨.inl ⟨rfl, _, SqL.of c1⟩, ?_⟩
          refine h2 G0 H0 Z Γ σ G H _ _ R e1 fun G1 H1 v x1 r1 => ?_
          obtain ⟨q, vs, rfl, hv, rv⟩ := r1.lst x1.gh
          obtain ⟨F1, p1⟩ := pk G1 H1 x1
          obtain ⟨l, ws, el, d1, d2, d3⟩ := p1.list x1.gh
          cases el
          refine ⟨_, q, ws, vs, rfl, rfl, d1, hv, by rw [d2.length, rv.length]; exact Nat.le_trans (Nat.le_of_lt hl) line_big, ?_⟩
          exact k σ G1 _ (d3 _ _ _ (d2.append rv) a2)
        · cases hf
      | _ => cases hf
  | _ => cases hf
end
end DL
/-! sorted of tuples (a whole number, anything): the numbers differ, or the seconds are whole numbers too -/
namespace SrtO
open PySem PyProof.Rows Srt
section
variable {prog : Program} {w : World} {A : Around} {s : Shared}
/-- v is a tuple of an int and something -/
def IsFst (h : Heap) (v : Value) (x : Int) : Prop := ∃ a o t u n, v = .ref a ∧ h.get? a = some o ∧ o.cls = .type "tuple" ∧ o.data = .seq #[.int x t, u] n
theorem IsFst.keeps {h h' : Heap} {v : Value} {x : Int} (p : IsFst h v x) (k : ∀ b o, h.get? b = some o → o.cls = .type "tuple" → h'.get? b = some o) : IsFst h' v x := by
  obtain ⟨a, o, t, u, n, e, ho, hc, hd⟩ := p
  exact ⟨a, o, t, u, n, e, k _ _ ho hc, hc, hd⟩
theorem firsts_of1 {h : Heap} : ∀ {vs : List Value}, (∀ v ∈ vs, ∃ x, IsFst h v x) → ∃ fs : List Value, PySem.W.KatTups h vs fs ∧ fs.length = vs.length ∧ ∀ f ∈ fs, ∃ x t, f = Value.int x t
  | [], _ => ⟨[], PySem.W.KatTups.nil, rfl, fun _ hm => by simp at hm⟩
  | v :: vs, hp => by
    obtain ⟨fs, h1, h2, h3⟩ := firsts_of1 (vs := vs) fun v' hm => hp v' (List.mem_cons_of_mem _ hm)
    obtain ⟨x, a, o, t, u, n, e, ho, hc, hd⟩ := hp v (List.mem_cons_self ..)
    subst e
    refine ⟨.int x t :: fs, PySem.W.KatTups.cons ho hc hd rfl h1, by rw [List.length_cons, List.length_cons, h2], fun f hm => ?_⟩
    rcases List.mem_cons.mp hm with rfl | hm
    · exact ⟨x, t, rfl⟩
    · exact h3 f hm
theorem fst_cmp {vs : List Value} {k : Value → Int × Int} (hp : ∀ v ∈ vs, IsFst s.heap v (k v).1) (inj : ∀ v ∈ vs, ∀ u ∈ vs, (k v).1 = (k u).1 → v = u) : Cmp prog w A s (tuples' true) (fun p => p.1 ∈ vs) (lt2 fun v u => lexB (k v) (k u)) := by
  intro p q hm hm'
  have h1 := hp _ hm
  have h2 := hp _ hm'
  have h3 := inj _ hm _ hm'
  show wpAny (model prog w) A (keyLt' (tuples' true) p.1 q.1) (fun r s' => s' = s ∧ r = lexB (k p.1) (k q.1)) (fun _ _ => False) s
  have hlt : (k p.1).1 ≠ (k q.1).1 → lexB (k p.1) (k q.1) = decide ((k p.1).1 < (k q.1).1) := fun e => by
    unfold lexB; rw [if_neg e]
  have hsm : p.1 = q.1 → lexB (k p.1) (k q.1) = false := fun e => by
    rw [e]; unfold lexB; rw [if_pos rfl]; exact decide_eq_false (Int.lt_irrefl _)
  generalize hl : lexB (k p.1) (k q.1) = lb at hlt hsm ⊢
  generalize (k p.1).1 = x at h1 h3 hlt
  generalize (k q.1).1 = x' at h2 h3 hlt
  obtain ⟨a, o, t, u, n, e, ho, hc, hd⟩ := h1
  obtain ⟨a', o', t', u', n', e', ho', hc', hd'⟩ := h2
  rw [e, e'] at h3 hsm
  rw [e, e']
  refine PySem.W.kat_lt ho hd ho' hd' ?_
  show PySem.W.KatLex prog w A true (decide (2 < 2)) _ [(.int x t, .int x' t'), (u, u')] 0 s
  refine PySem.W.kat_cons (SeqAt.EqAt.int_int x t x' t' prog w _ _ ?_)
  refine PySem.W.kat_go (fun e1 => ?_) (fun e1 => ?_)
  · have ex : x = x' := by simpa using e1
    have ea := h3 ex
    cases ea
    rw [ho] at ho'
    cases ho'
    rw [hd] at hd'
    have eu : u = u' := by
      injection hd' with z1 z2
      have z3 := congrArg Array.toList z1
      simpa using (List.cons.inj (List.cons.inj z3).2).1
    subst eu
    exact PySem.W.kat_yes (PySem.W.kat_cons (SeqAt.EqAt.same u prog w _ _ (PySem.W.kat_yes (PySem.W.kat_nil ⟨rfl, (hsm rfl).symm⟩))))
  · have ex : ¬ x = x' := by simpa using e1
    exact PySem.W.kat_no (oneLt_int ⟨rfl, (hlt ex).symm⟩)
theorem firsts_sortableO {a : Addr} {vs : List Value} {k : Value → Int × Int} (h0 : 0 < vs.length) (hp : ∀ v ∈ vs, IsFst s.heap v (k v).1) (inj : ∀ v ∈ vs, ∀ u ∈ vs, (k v).1 = (k u).1 → v = u) (ha : ∀ o, s.heap.get? a = some o → o.cls ≠ .type "tuple") : SortableO prog w A s a vs fun v u => lexB (k v) (k u) := by
  intro h' keep
  have hp' : ∀ v ∈ vs, IsFst h' v (k v).1 := fun v hm => (hp v hm).keeps fun b o e c => keep b o (fun z => by subst z; exact ha o e c) e
  obtain ⟨fs, h1, h2, h3⟩ := firsts_of1 fun v hm => ⟨_, hp' v hm⟩
  refine ⟨tuples' true, fun Q E hq => ?_, fst_cmp hp' inj⟩
  refine PySem.W.kat_kind (T := .type "int") h1 (by omega) (fun f hm => ?_) (by rfl) ?_
  · obtain ⟨x, t, rfl⟩ := h3 f hm
    exact PySem.W.Looks.now
  · have e : (Value.type "int" != Value.type "tuple") = true := by first | decide +kernel | rfl | decide
    rw [e]
    exact hq
end
end SrtO
namespace L2
open PySem PySem.Spec PyProof.Rows
/-- sorted(xs), tuples of two -/
def rSortT (K : PySem.W.Frag) : List V → Hp → VK → Prop := fun vs H Q => ∃ (a : Addr) (ys : List V) (ks : List (Int × Int)), vs = [V.ref a] ∧ SqL K H a ys ∧ ys.length = ks.length ∧
  ((∀ m ∈ ys.zip ks, ∃ t, m.1 = V.ref t ∧ SqT K H t [.int m.2.1, .int m.2.2]) ∨ ((∀ m ∈ ys.zip ks, m.2.2 = 0 ∧ ∃ t u, m.1 = V.ref t ∧ SqT K H t [.int m.2.1, u]) ∧ (ks.map Prod.fst).Nodup)) ∧
  ∀ (zl : List (V × (Int × Int))) (p : Addr), zl.Perm (ys.zip ks) → zl.Pairwise (fun x y => SrtO.lexB y.2 x.2 = false) → H p = none → Q (.ref p) (upd H p (.lst (zl.map Prod.fst)))
section
variable {X : Cx}
theorem zip_mem {α β : Type} : ∀ {xs : List α} {ys : List β}, xs.length = ys.length → ∀ x ∈ xs, ∃ y, (x, y) ∈ xs.zip ys
  | [], _, _, x, h => absurd h (by simp)
  | a :: xs, [], e, x, h => by simp at e
  | a :: xs, b :: ys, e, x, h => by
    rcases List.mem_cons.mp h with rfl | h
    · exact ⟨b, by simp⟩
    · obtain ⟨y, q⟩ := zip_mem (xs := xs) (ys := ys) (by simpa using e) x h
      exact ⟨y, by simp [q]⟩
theorem map_zip {α β : Type} (k : α → β) : ∀ {xs : List α} {ys : List β}, xs.length = ys.length → (∀ m ∈ xs.zip ys, k m.1 = m.2) → xs.map (fun x => (x, k x)) = xs.zip ys
  | [], [], _, _ => rfl
  | [], _ :: _, e, _ => by simp at e
  | a :: xs, [], e, _ => by simp at e
  | a :: xs, b :: ys, e, h => by
    have h1 := h (a, b) (by simp)
    rw [List.map_cons, List.zip_cons_cons, map_zip k (by simpa using e) fun m q => h m (by rw [List.zip_cons_cons]; exact List.mem_cons_of_mem _ q)]
    show (a, k a) :: _ = _
    rw [show k a = b from h1]
theorem cr_sortT : CallR X (.builtin "sorted") (rSortT X.K) := by
  intro pins s σ H vs us Q I r h
  obtain ⟨a, ys, ks, rfl, hs, hlk, hx, q⟩ := h
  obtain ⟨its, rv, hl, hz⟩ := I.list hs
  rw [Vals.ref1 r]
  obtain ⟨k, hk⟩ : ∃ k : V → Int × Int, ∀ m ∈ ys.zip ks, k m.1 = m.2 := by
    classical
    refine ⟨fun y => if h : ∃ p, (y, p) ∈ ys.zip ks then h.choose else (0, 0), fun m hm => ?_⟩
    have hh : ∃ p, (m.1, p) ∈ ys.zip ks := ⟨m.2, hm⟩
    show (if h : ∃ p, (m.1, p) ∈ ys.zip ks then h.choose else (0, 0)) = m.2
    rw [dif_pos hh]
    have hc := hh.choose_spec
    generalize hh.choose = p at hc
    rcases hx with hx | ⟨hx, _⟩
    · obtain ⟨t, e, h1⟩ := hx _ hm
      obtain ⟨t', e', h2⟩ := hx _ hc
      rw [show m.1 = V.ref t from e] at e'
      cases e'
      have z := I.tuple_inj h1 h2
      simp at z
      exact Prod.ext z.1.symm z.2.symm
    · obtain ⟨z0, t, u, e, h1⟩ := hx _ hm
      obtain ⟨z0', t', u', e', h2⟩ := hx _ hc
      rw [show m.1 = V.ref t from e] at e'
      cases e'
      have z := I.tuple_inj h1 h2
      simp at z
      exact Prod.ext z.1.symm (z0'.trans z0.symm)
  have hat : ∀ y ∈ ys, (y, k y) ∈ ys.zip ks := fun y hy => by
    obtain ⟨p, hp⟩ := zip_mem hlk y hy
    have := hk _ hp
    rw [show k y = p from this]
    exact hp
  have hrefs : ∀ y ∈ ys, ∃ t, y = V.ref t := fun y m => by
    rcases hx with hx | ⟨hx, _⟩
    · obtain ⟨t, e, _⟩ := hx _ (hat y m); exact ⟨t, e⟩
    · obtain ⟨_, t, u, e, _⟩ := hx _ (hat y m); exact ⟨t, e⟩
  obtain ⟨e1, e2⟩ := refs_back rv hrefs
  have mem : ∀ v ∈ its, ∃ t, v = Value.ref t ∧ V.ref t ∈ ys := fun v hv => by
    obtain ⟨t, rfl⟩ := e2 v hv
    exact ⟨t, rfl, by rw [e1]; exact List.mem_map.mpr ⟨_, hv, rfl⟩⟩
  refine SrtO.sorted_ord (SrtO.swo_lex fun u => k (backV u)) hl.isList (by rw [← rv.length]; exact hz) (fun h2 h₁ a' ha' kk => ?_) fun out h1 h2 => ?_
  · have notT : ∀ o, ({ s with heap := h₁ } : Shared).heap.get? a' = some o → o.cls ≠ .type "tuple" := fun o e => by
      have e' : some o = some (seqObj "list" its.toArray 0) := e.symm.trans ha'
      cases e'
      intro c
      exact absurd (Value.type.inj c) (by decide)
    rcases hx with hx | ⟨hx, nd⟩
    · refine SrtO.pairs_sortableO (s := { s with heap := h₁ }) (by omega) (fun v hv => ?_) notT
      obtain ⟨t, rfl, hm⟩ := mem v hv
      obtain ⟨t', e, ht⟩ := hx _ (hat _ hm)
      cases e
      obtain ⟨its2, r2, ⟨o, ho, hc, n, hd⟩, _⟩ := I.tuple ht
      obtain ⟨u1, u2, rfl, ri, rj⟩ := vals2 r2
      obtain ⟨t1, rfl⟩ := ri
      obtain ⟨t2, rfl⟩ := rj
      exact ⟨t, o, t1, t2, n, rfl, (kk _ _ ho).2, hc, hd⟩
    · refine SrtO.firsts_sortableO (s := { s with heap := h₁ }) (by omega) (fun v hv => ?_) (fun v hv u hu e => ?_) notT
      · obtain ⟨t, rfl, hm⟩ := mem v hv
        obtain ⟨_, t', u, e, ht⟩ := hx _ (hat _ hm)
        cases e
        obtain ⟨its2, r2, ⟨o, ho, hc, n, hd⟩, _⟩ := I.tuple ht
        obtain ⟨u1, u2, rfl, ri, rj⟩ := vals2 r2
        obtain ⟨t1, rfl⟩ := ri
        exact ⟨t, o, t1, u2, n, rfl, (kk _ _ ho).2, hc, hd⟩
      · obtain ⟨t, rfl, hm⟩ := mem v hv
        obtain ⟨t', rfl, hm'⟩ := mem u hu
        have em : ys.map (fun y => (k y).1) = ks.map Prod.fst := by
          have z := congrArg (List.map fun m : V × (Int × Int) => m.2.1) (map_zip k hlk hk)
          rw [List.map_map] at z
          refine z.trans ?_
          have z2 : (ys.zip ks).map Prod.snd = ks := List.map_snd_zip (by omega)
          rw [← z2, List.map_map]
          congr 1
          rw [z2]
        rw [← em] at nd
        obtain ⟨i, hi, ei⟩ := List.getElem_of_mem hm
        obtain ⟨j, hj, ej⟩ := List.getElem_of_mem hm'
        have hp := List.pairwise_iff_getElem.mp nd
        have hij : i = j := by
          rcases Nat.lt_trichotomy i j with c | c | c
          · have := hp i j (by rw [List.length_map]; exact hi) (by rw [List.length_map]; exact hj) c
            simp only [List.getElem_map, ei, ej] at this
            exact absurd e this
          · exact c
          · have := hp j i (by rw [List.length_map]; exact hj) (by rw [List.length_map]; exact hi) c
            simp only [List.getElem_map, ei, ej] at this
            exact absurd e.symm this
        subst hij
        rw [ei] at ej
        cases ej
        rfl
  · have h3 : ∀ u ∈ out, ∃ a, u = Value.ref a := fun u hu => e2 u (h2.perm.mem_iff.mp hu)
    obtain ⟨ep, he'⟩ := PyProof.Rows.sortedAll_at s.heap its out.toArray
    have hb : SrtO.Stb (ltP k) (out.map backV) ys := by
      rw [e1]
      exact SrtO.Stb.map (ltP_swo k) backV h2
    have hlen : (out.map backV).length ≤ sizeLine := by
      rw [hb.len]
      exact hz
    have q' := q ((out.map backV).map fun y => (y, k y)) (s.heap.objs.size + 1) (by
      rw [← map_zip k hlk hk]
      exact hb.perm.map _) (List.pairwise_map.mpr (show SrtO.Srtd (ltP k) (out.map backV) from SrtO.srtd_map h1)) (I.hok.fresh (Nat.le_succ _))
    rw [List.map_map, show (Prod.fst ∘ fun y => (y, k y)) = (id : V → V) from rfl, List.map_id] at q'
    exact ⟨.ref _, upd H (s.heap.objs.size + 1) (.lst (out.map backV)), I.laid (t' := s.toks) (fun _ _ => PyProof.Rows.sortedAll_old) (Nat.le_succ _) ⟨hlen, out, ep, vals_back h3, he'⟩, rfl, q'⟩
end
end L2
namespace DL
open PySem L2
variable [TC : TabCtx]
section
variable {X : Cx}
def k2 : D → Int × Int
  | .tup [.int a, .int b] => (a, b)
  | .tup [.int a, _] => (a, 0)
  | _ => (0, 0)
def k1 : D → Int × Int
  | .tup [.int a, _] => (a, 0)
  | _ => (0, 0)
def leB (k : D → Int × Int) (x y : D) : Bool := !SrtO.lexB (k y) (k x)
def srtK (k : D → Int × Int) (ds : List D) : List D := ds.mergeSort (leB k)
def IntP (d : D) : Prop := ∃ a b, d = .tup [.int a, .int b]
def FstP (d : D) : Prop := ∃ a e, d = .tup [.int a, e]
open Classical in
noncomputable def dSortT : D → Option (List D)
  | .lst ds => if ∀ d ∈ ds, IntP d then some (srtK k2 ds) else if (∀ d ∈ ds, FstP d) ∧ (ds.map fun d => (k1 d).1).Nodup then some (srtK k1 ds) else none
  | _ => none
theorem leB_tr (k : D → Int × Int) : ∀ a b c, leB k a b = true → leB k b c = true → leB k a c = true := fun a b c h1 h2 => by
  simp only [leB, Bool.not_eq_true', SrtO.lexB_no] at *
  omega
theorem leB_tot (k : D → Int × Int) : ∀ a b, (leB k a b || leB k b a) = true := fun a b => by
  rw [Bool.or_eq_true]
  simp only [leB, Bool.not_eq_true', SrtO.lexB_no]
  omega
theorem srtK_perm (k : D → Int × Int) (ds : List D) : (srtK k ds).Perm ds := List.mergeSort_perm ds _
theorem srtK_le (k : D → Int × Int) (ds : List D) : (srtK k ds).Pairwise (fun x y => leB k x y = true) := List.pairwise_mergeSort (leB_tr k) (leB_tot k) ds
theorem srtK_unique {k : D → Int × Int} {ds xs : List D} (h : xs.Perm ds) (hx : xs.Pairwise (fun x y => leB k x y = true)) (inj : ∀ a ∈ ds, ∀ b ∈ ds, k a = k b → a = b) : xs = srtK k ds :=
  List.Perm.eq_of_pairwise (fun a b m1 m2 h1 h2 => by
    refine inj a (h.mem_iff.mp m1) b ((srtK_perm k ds).mem_iff.mp m2) ?_
    simp only [leB, Bool.not_eq_true', SrtO.lexB_no] at h1 h2
    exact Prod.ext (by omega) (by omega)) hx (srtK_le k ds) (h.trans (srtK_perm k ds).symm)
theorem perm_unmap {α β : Type} (f : α → β) : ∀ {l1 l2 : List β}, l1.Perm l2 → ∀ m : List α, l2 = m.map f → ∃ m' : List α, m'.Perm m ∧ l1 = m'.map f := by
  intro l1 l2 h
  induction h with
  | nil => intro m e; exact ⟨m, .refl _, e⟩
  | cons x h ih =>
    intro m e
    cases m with
    | nil => simp at e
    | cons a m =>
      rw [List.map_cons] at e
      injection e with e1 e2
      obtain ⟨m', h1, h2⟩ := ih m e2
      exact ⟨a :: m', h1.cons a, by rw [List.map_cons, e1, h2]⟩
  | swap x y l =>
    intro m e
    match m, e with
    | [], e => simp at e
    | [a], e => simp at e
    | a :: b :: m, e =>
      rw [List.map_cons, List.map_cons] at e
      injection e with e1 e2
      injection e2 with e2 e3
      exact ⟨b :: a :: m, .swap _ _ _, by rw [List.map_cons, List.map_cons, e1, e2, e3]⟩
  | trans h1 h2 ih1 ih2 =>
    intro m e
    obtain ⟨m2, p2, e2⟩ := ih2 m e
    obtain ⟨m1, p1, e1⟩ := ih1 m2 e2
    exact ⟨m1, p1.trans p2, e1⟩
theorem RepL.mems {K : PySem.W.Frag} {mg : Str → Option Value} {G : Hp} : ∀ {vs : List V} {ds : List D}, RepL K mg G vs ds → ∀ p ∈ vs.zip ds, Rep K mg G p.1 p.2
  | _, _, .nil, p, h => absurd h (by simp)
  | _, _, .cons r t, p, h => by
    rw [List.zip_cons_cons] at h
    rcases List.mem_cons.mp h with rfl | h
    · exact r
    · exact RepL.mems t p h
theorem RepL.ofPairs {K : PySem.W.Frag} {mg : Str → Option Value} {G : Hp} : ∀ {m : List (V × D)}, (∀ p ∈ m, Rep K mg G p.1 p.2) → RepL K mg G (m.map Prod.fst) (m.map Prod.snd)
  | [], _ => .nil
  | p :: m, h => .cons (h p (by simp)) (RepL.ofPairs fun q hq => h q (List.mem_cons_of_mem _ hq))
theorem sortT_fin {K : PySem.W.Frag} {mg : Str → Option Value} {G : Hp} {k : D → Int × Int} {vs : List V} {ds : List D} (r : RepL K mg G vs ds) (inj : ∀ a ∈ ds, ∀ b ∈ ds, k a = k b → a = b) {zl : List (V × (Int × Int))}
    (hp : zl.Perm (vs.zip (ds.map k))) (hs : zl.Pairwise (fun x y => SrtO.lexB y.2 x.2 = false)) : RepL K mg G (zl.map Prod.fst) (srtK k ds) := by
  have e : vs.zip (ds.map k) = (vs.zip ds).map fun p => (p.1, k p.2) := by
    rw [List.zip_map_right]
    rfl
  obtain ⟨m, m1, rfl⟩ := perm_unmap _ hp _ e
  have r2 := RepL.ofPairs (m := m) fun p hp => r.mems p (m1.mem_iff.mp hp)
  have e2 : m.map Prod.snd = srtK k ds := by
    refine srtK_unique ?_ ?_ inj
    · have := m1.map Prod.snd
      rw [List.map_snd_zip (by have := r.length; omega)] at this
      exact this
    · rw [List.pairwise_map] at hs ⊢
      exact hs.imp fun {x y} h => by simp only [leB, Bool.not_eq_true']; exact h
  rw [e2] at r2
  rw [List.map_map]
  exact r2
theorem zip_mems {α β γ : Type} (f : β → γ) : ∀ {xs : List α} {ys : List β} {m : α × γ}, m ∈ xs.zip (ys.map f) → ∃ y, (m.1, y) ∈ xs.zip ys ∧ m.2 = f y
  | [], _, _, h => absurd h (by simp)
  | _ :: _, [], _, h => absurd h (by simp)
  | x :: xs, y :: ys, m, h => by
    rw [List.map_cons, List.zip_cons_cons] at h
    rcases List.mem_cons.mp h with rfl | h
    · exact ⟨y, by simp, rfl⟩
    · obtain ⟨z, h1, h2⟩ := zip_mems f h
      exact ⟨z, by simp [h1], h2⟩
theorem rep_tup2 {K : PySem.W.Frag} {mg : Str → Option Value} {G H : Hp} {v : V} {xs : List D} (gh : Same G H) (r : Rep K mg G v (.tup xs)) : ∃ p vs, v = .ref p ∧ SqT K H p vs ∧ RepL K mg G vs xs := by
  cases r with
  | tup h r => exact ⟨_, _, rfl, sqt_same gh h, r⟩
theorem cb_sortT : CbL X (.builtin "sorted") dSortT := by
  refine ⟨_, cr_sortT, fun x d v G H Q gh e r k => ?_⟩
  cases x with
  | lst ds =>
    obtain ⟨p, vs, rfl, h, r⟩ := r.lst gh
    unfold dSortT at e
    simp only at e
    have hlen := r.length
    split at e
    · rename_i hc
      cases e
      refine ⟨p, vs, ds.map k2, rfl, SqL.of h, by rw [List.length_map]; exact hlen, .inl fun m hm => ?_, fun zl q z1 z2 z3 => ?_⟩
      · obtain ⟨y, y1, y2⟩ := zip_mems k2 hm
        obtain ⟨a, b, rfl⟩ := hc y (List.of_mem_zip y1).2
        rw [y2]
        obtain ⟨t, us, e1, s1, r1⟩ := (rep_tup2 gh (r.mems _ y1))
        exact ⟨t, e1, by rw [show us = [V.int a, V.int b] from RepL.ints (ns := [a, b]) r1] at s1; exact s1⟩
      · exact k q _ z3 (sortT_fin r (fun a ha b hb e => by
          obtain ⟨x1, y1, rfl⟩ := hc a ha
          obtain ⟨x2, y2, rfl⟩ := hc b hb
          cases e
          rfl) z1 z2)
    · split at e
      · rename_i hc
        cases e
        obtain ⟨hc, nd⟩ := hc
        refine ⟨p, vs, ds.map k1, rfl, SqL.of h, by rw [List.length_map]; exact hlen, .inr ⟨fun m hm => ?_, by rw [List.map_map]; exact nd⟩, fun zl q z1 z2 z3 => ?_⟩
        · obtain ⟨y, y1, y2⟩ := zip_mems k1 hm
          obtain ⟨a, b, rfl⟩ := hc y (List.of_mem_zip y1).2
          rw [y2]
          obtain ⟨t, us, e1, s1, r1⟩ := (rep_tup2 gh (r.mems _ y1))
          cases r1 with
          | cons c1 c2 =>
            cases c1
            cases c2 with
            | cons c2 c3 =>
              cases c3
              exact ⟨rfl, t, _, e1, s1⟩
        · exact k q _ z3 (sortT_fin r (fun a ha b hb e => by
            obtain ⟨i, hi, ei⟩ := List.getElem_of_mem ha
            obtain ⟨j, hj, ej⟩ := List.getElem_of_mem hb
            have hp := List.pairwise_iff_getElem.mp nd
            have e' : (k1 a).1 = (k1 b).1 := by rw [e]
            have hij : i = j := by
              rcases Nat.lt_trichotomy i j with c | c | c
              · have := hp i j (by rw [List.length_map]; exact hi) (by rw [List.length_map]; exact hj) c
                simp only [List.getElem_map, ei, ej] at this
                exact absurd e' this
              · exact c
              · have := hp j i (by rw [List.length_map]; exact hj) (by rw [List.length_map]; exact hi) c
                simp only [List.getElem_map, ei, ej] at this
                exact absurd e'.symm this
            subst hij
            rw [← ei, ← ej]) z1 z2)
      · cases e
  | _ => simp [dSortT] at e
end
end DL

/-! texts that a call gives which changes a place: cut at a separator -/
namespace DL
open PySem L2
variable [TC : TabCtx]
section
variable {X : Cx} {e o : Expr} {mx : Mx} {pos apos : Pos}
/-! i not in a tuple of whole numbers -/
def dNInT : D → D → Option D
  | .int i, .tup ds => (ints? ds).bind fun ns => some (.bl (!inV (.int i) (ns.map V.int)))
  | _, _ => none
theorem flat_ints : ∀ ns : List Int, (ns.map V.int).all flatV = true
  | [] => rfl
  | n :: ns => by
    rw [List.map_cons, List.all_cons, flat_ints ns]
    rfl
theorem ob_ninT : OpB X (compareOp .NotIn) dNInT := by
  refine ⟨_, op_notIn_seq, fun x y d v w G H Q gh e rx ry k => ?_⟩
  unfold dNInT at e
  split at e
  · rename_i i ds
    obtain ⟨ns, e1, e⟩ := obind e
    cases e
    have := ints?_some e1
    subst this
    obtain ⟨p, vs, rfl, h, r⟩ := ry.tup gh
    have := r.ints
    subst this
    rw [(rx.flat nofun).intv]
    exact ⟨p, _, rfl, .inr h, rfl, flat_ints ns, k G H _ (Ext.refl gh) (.bl _)⟩
  · cases e
def gMSplit (m : Mx) (g : Ex) : Mx := fun Γ => (m Γ).bind fun r => (g r.2).bind fun y => (dSplit r.1 y).bind fun ds => some (.lst ds, r.2)
theorem em_split {g : Ex} (ho : EM X o mx) (he : E X e g) (hs : starEach [e] X.env = [(false, eval e X.env)] := by rfl) (hbase : attributeBase o "split" X.env (eval o X.env) = eval o X.env := by rfl) (hline : (apos.endLine == pos.line) = true := by rfl) : EM X (.Call (.Attribute o "split" apos) [e] [] pos) (gMSplit mx g) := by
  obtain ⟨t, h1, h2⟩ := ho.ex
  obtain ⟨u, q1, q2⟩ := he.ex
  refine ⟨⟨_, pe_split h1 q1 hs hbase hline, fun G0 H0 Z Γ σ G H Q d Γ' R hf k => ?_⟩⟩
  obtain ⟨⟨x, Γ1⟩, e1, hf⟩ := obind hf
  obtain ⟨y, e2, hf⟩ := obind hf
  obtain ⟨ds, e3, hf⟩ := obind hf
  cases hf
  refine h2 G0 H0 Z Γ σ G H _ x Γ1 R e1 fun G1 H1 v R1 r1 => ?_
  cases x with
  | str a =>
    cases y with
    | str b =>
      replace e3 : (if (b.length == 0) = false ∧ a.length < 1000000 then some ((Txt.split a b).map D.str) else none) = some ds := e3
      by_cases z : (b.length == 0) = false ∧ a.length < 1000000
      · rw [if_pos z] at e3
        cases e3
        rw [r1.strv]
        refine ⟨⟨_, rfl⟩, ?_⟩
        refine q2 G0 H0 Z Γ1 σ G1 H1 _ _ R1 e2 fun G2 H2 w x2 r2 => ?_
        rw [r2.strv]
        refine ⟨_, _, rfl, rfl, z.1, Nat.le_trans (show a.length + 2 ≤ 1000002 by omega) (by decide), fun p hp => ?_⟩
        have gp := x2.gh.free hp
        have x3 := (Ext.own1 (o := .lst ((Txt.split a b).map V.str)) x2.gh hp)
        exact k _ _ _ (R1.ext (x2.trans (x3.frz1 hp gp upd_same))) (.lst upd_same (RepL.ofStrs _))
      · rw [if_neg z] at e3
        cases e3
    | _ => cases e3
  | _ => cases e3
/-! a comprehension over what such a call gives -/
theorem lc_runJ {ix : List Nat} {g : Gs} {f : Ex} {K : PySem.W.Frag} {mg : Str → Option Value} {own : List (Str × Nat)} {p : Te} {J : It} {items : List D} (hix : ∀ i ∈ ix, i ∈ own.map (·.2))
    {G0 H0 : Hp} {Z : Zs} {Γ : DEnv} {σ : L2.St} {G1 H1 : Hp} {Q : VK} {ds : List D} (R1 : Rel K mg G0 H0 Z Γ σ G1 H1) (hJ : ItmB K mg J G1 H1 items) (hlen : items.length < 1000000) (hf : compL g p f items (wipeE Γ (own.map (·.2))) = some ds)
    (k : ∀ G' H' D vs, Ext G1 H1 G' H' → H1 D = none → G' D = none → H' D = some (.lst vs) → RepL K mg G' vs ds → Q (.ref D) H') :
    tLc (fun _ H' R' => R' J H') (tGx K mg ix g) (tTx K mg p) (tEx K mg f) (own.map (·.2)) σ H1 Q := by
  refine fun D hD => ?_
  have x1 := Ext.refl R1.gh
  -- the state within: the list so far at D
  have ntD : ¬ Z.t.tz D := fun h => R1.zz _ (R1.tz _ h) hD
  refine ⟨fun i m Hc => m = items.length - i ∧ i ≤ items.length ∧ ∃ Gc acc dacc rest, Ext G1 H1 Gc Hc ∧ Gc D = none ∧ Hc D = some (.lst acc) ∧ acc.length ≤ i ∧ RepL K mg Gc acc dacc ∧ Rel K mg G0 H0 ⟨fun a => Z.z a ∨ a = D, Z.a, Z.t⟩ (wipeE Γ (own.map (·.2))) (L2.wipe σ (own.map (·.2))) Gc Hc ∧
    compL g p f (items.drop i) (wipeE Γ (own.map (·.2))) = some rest ∧ dacc ++ rest = ds, ⟨items.length, ?_⟩, ?_⟩
  · exact ⟨by simp, Nat.zero_le _, G1, [], [], ds, Ext.own1 x1.gh hD, x1.gh.free hD, upd_same, Nat.le_refl _, .nil, (R1.wipe (own.map (·.2))).zput hD, by simpa using hf, rfl⟩
  · rintro i m Hc ⟨rfl, hi, Gc, acc, dacc, rest, xc, gD, hcD, la, ra, Rc, hr, hds⟩
    obtain ⟨st, go⟩ := hJ i Gc Hc xc.gg xc.gh xc.hh
    have nn : ∀ {H : Hp}, H D = some (.lst acc) → H D ≠ none := fun e => by rw [e]; simp
    by_cases hlt : i < items.length
    · have hd : items.drop i = items[i] :: items.drop (i + 1) := List.drop_eq_getElem_cons hlt
      obtain ⟨g1, g2⟩ := go items[i] (List.getElem?_eq_getElem hlt)
      rw [hd] at hr
      obtain ⟨Γ1, c1, hr⟩ := obind hr
      obtain ⟨b, c2, hr⟩ := obind hr
      refine .inr ⟨g1, fun H' => ∃ m', (m' = items.length - (i + 1) ∧ i + 1 ≤ items.length ∧ ∃ Gc acc dacc rest, Ext G1 H1 Gc H' ∧ Gc D = none ∧ H' D = some (.lst acc) ∧ acc.length ≤ i + 1 ∧ RepL K mg Gc acc dacc ∧ Rel K mg G0 H0 ⟨fun a => Z.z a ∨ a = D, Z.a, Z.t⟩ (wipeE Γ (own.map (·.2))) (L2.wipe σ (own.map (·.2))) Gc H' ∧
        compL g p f (items.drop (i + 1)) (wipeE Γ (own.map (·.2))) = some rest ∧ dacc ++ rest = ds), fun H' ⟨m', h⟩ => ⟨m', by have := h.1; omega, h⟩, fun x H2 y => ?_⟩
      obtain ⟨G2, x2, r2⟩ := g2 x H2 y
      have xc2 := xc.trans x2
      have R2 := Rc.ext x2
      have gD2 : G2 D = none := x2.none gD (nn hcD)
      have hD2 := x2.hh _ _ hcD nofun
      refine ⟨G0, H0, _, _, G2, items[i], Γ1, R2, r2, c1, fun σ3 R3 w3 => ⟨(w3 _ hix).trans (wipe_sub _ fun _ h => h), ?_⟩⟩
      refine ⟨G0, H0, _, Γ1, G2, b, R3, c2, fun G4 H4 x4 => ?_⟩
      have gD4 : G4 D = none := x4.none gD2 (nn hD2)
      have hD4 := x4.hh _ _ hD2 nofun
      cases b with
      | false =>
        refine iteF ⟨_, rfl, hlt, G4, acc, dacc, rest, xc2.trans x4, gD4, hD4, by omega, (ra.mono x2.gg).mono x4.gg, R2.ext x4, hr, hds⟩
      | true =>
        refine iteT ⟨G0, H0, ⟨fun a => Z.z a ∨ a = D, Z.a, Z.t⟩, Γ1, G4, ?_⟩
        replace hr : ((f Γ1).bind fun y => (compL g p f (items.drop (i + 1)) (wipeE Γ (own.map (·.2)))).bind fun r => some (y :: r)) = some rest := hr
        obtain ⟨yv, c3, hr⟩ := obind hr
        obtain ⟨rr, c4, hr⟩ := obind hr
        cases hr
        refine ⟨yv, R3.ext x4, c3, fun G5 H5 v x5 r5 => ?_⟩
        have gD5 : G5 D = none := x5.none gD4 (nn hD4)
        have hD5 : H5 D = some (.lst acc) := x5.hh _ _ hD4 nofun
        refine ⟨acc, hD5, Nat.lt_of_lt_of_le (Nat.lt_of_le_of_lt la (Nat.lt_trans hlt hlen)) line_big, _, rfl, hlt, G5, acc ++ [v], dacc ++ [yv], rr, ?_, gD5, upd_same, by simp; omega, ((((ra.mono x2.gg).mono x4.gg).mono x5.gg).append (.cons r5 .nil)), ((R2.ext x4).ext x5).aside (.inr rfl) ntD gD5 (R1.hf hD), c4, by rw [← hds]; simp⟩
        have xx := (xc2.trans x4).trans x5
        refine ⟨xx.gg, fun a o q n => ?_, fun a o q => ?_, xx.new, fun a h => ?_, fun t => TC.ti.keep (xx.tb t) (Same.refl _) (fun a h => upd_ne (fun z => (TC.ti.live t a h).1 (by rw [z]; exact hD))) (fun _ _ g => g)⟩
        · rw [upd_ne (ne_of_none q hD)]; exact xx.hh _ _ q n
        · rw [upd_ne (ne_of_none q gD5)]; exact xx.gh _ _ q
        · by_cases z : a = D
          · subst z; rw [upd_same]; simp
          · rw [upd_ne z]; exact xx.hn a h
    · have e : i = items.length := by omega
      subst e
      refine .inl ⟨st (Nat.le_refl _), ?_⟩
      rw [List.drop_length] at hr
      cases hr
      rw [List.append_nil] at hds
      subst hds
      exact k Gc Hc D acc (x1.trans xc) (x1.hf hD) gD hcD ra

def gMLc (own : List Nat) (m : Mx) (g : Gs) (t : Te) (e : Ex) : Mx := fun Γ => (m Γ).bind fun r => match r.1 with
  | .lst ds => if ds.length < 1000000 then (compL g t e ds (wipeE r.2 own)).bind fun es => some (.lst es, r.2) else none
  | _ => none
theorem em_lc {ix : List Nat} {g : Gs} {f : Ex} {tg : Expr} {elt iter : Expr} {ifs : List Expr} {scope : Scope} {own : List (Str × Nat)} {mx : Mx} {p : Te} (hc : X.calm = true) (hN : X.N.Nodup) (hi : EM X iter mx) (ok : BlkOk X.N X.env.scope scope own) (hix : ∀ i ∈ ix, i ∈ own.map (·.2))
    (hg : ∀ (s : Shared) (H : Hp) (C : Addr) (cl : List (Str × Addr)) (fp : List Addr), G (X.blk s H scope (compEnvC scope cl C X.env) fp) tg ix g)
    (ht : ∀ (s : Shared) (H : Hp) (C : Addr) (cl : List (Str × Addr)) (fp : List Addr), Ts (X.blk s H scope (compEnvC scope cl C X.env) fp) ifs p)
    (he : ∀ (s : Shared) (H : Hp) (C : Addr) (cl : List (Str × Addr)) (fp : List Addr), E (X.blk s H scope (compEnvC scope cl C X.env) fp) elt f) (hs : ∀ x, foldedSetIterable iter X.env x = pure x := by intro _; rfl) :
    EM X (.ListComp elt [⟨tg, iter, ifs, 0⟩] scope pos) (gMLc (own.map (·.2)) mx g p f) := by
  obtain ⟨t, h1, h2⟩ := hi.ex
  refine ⟨⟨tLc (iList X.K t) (tGx X.K X.mg ix g) (tTx X.K X.mg p) (tEx X.K X.mg f) (own.map (·.2)), pe_lc hc hN (pi_list h1) ok (fun s H C cl fp => (hg s H C cl fp).pg) (fun s H C cl fp => (ht s H C cl fp).pt) (fun s H C cl fp => (he s H C cl fp).pe) hs, fun G0 H0 Z Γ σ G H Q d Γ' R hf k => ?_⟩⟩
  obtain ⟨⟨x, Γ1⟩, e1, hf⟩ := obind hf
  cases x with
  | lst items =>
    replace hf : (if items.length < 1000000 then (compL g p f items (wipeE Γ1 (own.map (·.2)))).bind fun es => some (D.lst es, Γ1) else none) = some (d, Γ') := hf
    by_cases hl : items.length < 1000000
    · rw [if_pos hl] at hf
      obtain ⟨es, e2, hf⟩ := obind hf
      cases hf
      refine h2 G0 H0 Z Γ σ G H _ _ _ R e1 fun G1 H1 v R1 r1 => ?_
      obtain ⟨q, vs, rfl, hq, it⟩ := itmB_lst R1.gh (fun _ _ z _ => z) (.sh r1 : RepB X.K X.mg G1 H1 v (.lst items))
      refine ⟨q, rfl, ⟨vs, hq⟩, ?_⟩
      exact lc_runJ hix R1 it hl e2 fun G' H' D ws x hp gp hd r => k _ _ _ (R1.ext (x.frz1 hp gp hd)) (.lst upd_same (r.mono (same_upd gp)))
    · rw [if_neg hl] at hf
      cases hf
  | _ => cases hf
theorem s_setLcM (i : Nat) {ix : List Nat} {g : Gs} {f : Ex} {tg : Expr} {y : Str} {py : Pos} {elt iter : Expr} {ifs : List Expr} {scope : Scope} {own : List (Str × Nat)} {mx : Mx} {p : Te} {spos : Pos} (hc : X.calm = true) (hN : X.N.Nodup) (hi : EM X iter mx) (ok : BlkOk X.N X.env.scope scope own) (hix : ∀ i ∈ ix, i ∈ own.map (·.2))
    (hg : ∀ (s : Shared) (H : Hp) (C : Addr) (cl : List (Str × Addr)) (fp : List Addr), G (X.blk s H scope (compEnvC scope cl C X.env) fp) tg ix g)
    (ht : ∀ (s : Shared) (H : Hp) (C : Addr) (cl : List (Str × Addr)) (fp : List Addr), Ts (X.blk s H scope (compEnvC scope cl C X.env) fp) ifs p)
    (he : ∀ (s : Shared) (H : Hp) (C : Addr) (cl : List (Str × Addr)) (fp : List Addr), E (X.blk s H scope (compEnvC scope cl C X.env) fp) elt f)
    (hy : X.N[i]? = some y := by rfl) (hyl : X.env.scope.names.lookup y = some .local := by rfl) (hsw : swapsWith (.ListComp elt [⟨tg, iter, ifs, 0⟩] scope pos) (some (.Name y py)) spos.line X.env = pure true := by exact sw_true rfl rfl rfl (by decide +kernel)) (hs : ∀ x, foldedSetIterable iter X.env x = pure x := by intro _; rfl) :
    S X (.Assign [.Name y py] (.ListComp elt [⟨tg, iter, ifs, 0⟩] scope pos) spos) (sSetM i (gMLc (own.map (·.2)) mx g p f)) := by
  obtain ⟨t, h1, h2⟩ := hi.ex
  refine ⟨⟨_, ps_setLc (te := fun σ H Q => ∃ G0 H0 Z Γ G d, Rel X.K X.mg G0 H0 Z Γ σ G H ∧ f Γ = some d ∧ ∀ G' H' v, Ext G H G' H' → Rep X.K X.mg G' v d → Q v H') (tt := fun σ H Q => ∃ G0 H0 Z Γ G d, Rel X.K X.mg G0 H0 Z Γ σ G H ∧ p Γ = some d ∧ ∀ G' H', Ext G H G' H' → Q d H') (g := fun v σ H Q => ∃ G0 H0 Z Γ G d Γ', Rel X.K X.mg G0 H0 Z Γ σ G H ∧ Rep X.K X.mg G v d ∧ g d Γ = some Γ' ∧ ∀ σ', Rel X.K X.mg G0 H0 Z Γ' σ' G H → (∀ vs, (∀ i ∈ ix, i ∈ vs) → L2.wipe σ' vs = L2.wipe σ vs) → Q σ' H) hc hN hy hyl hsw (pi_list h1) ok (fun s H C cl fp => (hg s H C cl fp).pg) (fun s H C cl fp => (ht s H C cl fp).pt) (fun s H C cl fp => (he s H C cl fp).pe) hs, fun G0 H0 Z Γ σ G H D r R hf k => ?_⟩⟩
  obtain ⟨⟨d, Γ'⟩, e0, hf⟩ := obind hf
  cases hf
  obtain ⟨⟨x, Γ1⟩, e1, e0⟩ := obind e0
  cases x with
  | lst items =>
    replace e0 : (if items.length < 1000000 then (compL g p f items (wipeE Γ1 (own.map (·.2)))).bind fun es => some (DL.D.lst es, Γ1) else none) = some (d, Γ') := e0
    by_cases hl : items.length < 1000000
    · rw [if_pos hl] at e0
      obtain ⟨es, e2, e0⟩ := obind e0
      cases e0
      refine h2 G0 H0 Z Γ σ G H _ _ _ R e1 fun G1 H1 v R1 r1 => ?_
      obtain ⟨q, vs, rfl, hq, it⟩ := itmB_lst R1.gh (fun _ _ z _ => z) (.sh r1 : RepB X.K X.mg G1 H1 v (.lst items))
      refine ⟨q, rfl, ⟨vs, hq⟩, ?_⟩
      exact lc_runJ (Q := fun v H' => D.nx (σ.set i (some v)) H') hix R1 it hl e2 fun G' H' p' ws x hp gp hd r => k _ _ _ ((R1.ext (x.frz1 hp gp hd)).set i (.lst upd_same (r.mono (same_upd gp))))
    · rw [if_neg hl] at e0
      cases e0
  | _ => cases e0
end
end DL

/-! DL51: a dict of one's own objects, one of which is lent to a name -/
namespace DL
open PySem L2
variable [TC : TabCtx]
def asOd : Sl → Option (List Key × List Sl)
  | .od ks ss => some (ks, ss)
  | .dk [] [] => some ([], [])
  | _ => none
section
variable {K : PySem.W.Frag} {mg : Str → Option Value} {G H : Hp}
theorem Hd.asOd {v : V} {F : Addr → Prop} {s : Sl} {ks : List Key} {ss : List Sl} (h : Hd K mg G H v F s) (e : asOd s = some (ks, ss)) : Hd K mg G H v F (.od ks ss) := by
  cases s with
  | od ks' ss' => cases e; exact h
  | dk ks' xs' =>
    cases ks' with
    | nil =>
      cases xs' with
      | nil =>
        cases e
        cases h with
        | dk f hp l r =>
          rename_i p vs
          cases vs with
          | nil => exact .od (F' := fun _ => False) f hp rfl (fun z => z) (fun _ z => z.elim) .nil
          | cons v vs => simp at l
      | cons => cases e
    | cons => cases e
  | _ => cases e
theorem asOd_own {s : Sl} {r : List Key × List Sl} (h : DL.asOd s = some r) : isOwn s = true := by
  cases s with
  | od => rfl
  | dk => rfl
  | _ => cases h
end
section
variable {X : Cx} {e o : Expr} {f g : Ex} {sx : Sx} {pos : Pos} {i : Nat} {rp : Pth}
/-! k not in P -/
def gNinP (i : Nat) (rp : Pth) (g : Ex) : Te := fun Γ => (g Γ).bind fun x => (dKey x).bind fun k => (gP i rp Γ).bind fun s => (asOd s).map fun r => !hasK r.1 k
theorem t_dninP (hu : X.A.units + 1 < cLine) (hi : E X e g) (hp : PL X o i rp) (hm : behindInMarks .NotIn o = false := by rfl) : T X (.Compare e [.NotIn] [o] pos) (gNinP i rp g) := by
  obtain ⟨t, h1, h2⟩ := hi.ex
  obtain ⟨u, u1, u2⟩ := hp.ex
  refine ⟨⟨_, pt_cmp (pc_dnotin hu h1 u1) hm, fun G0 H0 Z Γ σ G H Q c R hf k => ?_⟩⟩
  obtain ⟨x, e1, hf⟩ := obind hf
  obtain ⟨ky, e3, hf⟩ := obind hf
  obtain ⟨s1, q, hf⟩ := obind hf
  obtain ⟨⟨ks, ss⟩, ea, hf⟩ := Option.map_eq_some_iff.mp hf
  have ho := asOd_own ea
  have hP : SlP s1 := ⟨(fun z => by subst z; cases ho), (fun d z => by subst z; cases ho)⟩
  obtain ⟨s, b1, b2, b3⟩ := gP_some q hP
  refine h2 G0 H0 Z Γ σ G H _ x R e1 fun G1 H1 w x1 r1 => ?_
  refine u2 G0 H0 Z Γ σ G H G1 H1 _ s _ R x1 b1 b2 b3 hP.1 fun v pk => ?_
  obtain ⟨F1, P⟩ := pk G1 H1 x1
  have hd := P.hd.asOd ea
  cases hd with
  | od f hp hl n sF r =>
    rename_i p vs F'
    refine ⟨p, valV (ks.zip vs) ky, rfl, ?_, _, rfl, ?_⟩
    · rw [dKey_rep e3 r1]
      exact DGet.k hp
    · rw [valV_zip, valX_some hl, hf]
      exact k G1 H1 x1
/-! P[k] = n, a key that is not there -/
def sDPutN (i : Nat) (rp : Pth) (g : Ex) (sx : Sx) : Sm := fun Γ => (sx Γ).bind fun sn => (g Γ).bind fun j => (dKey j).bind fun ky => (gP i rp Γ).bind fun s1 => (asOd s1).bind fun r =>
  if hasK r.1 ky = false ∧ r.1.length < 1000000 then upP i rp (.od (r.1 ++ [ky]) (r.2 ++ [sn])) Γ else none
theorem s_dputN {sp : Pos} {value : Expr} (hu : X.A.units + 1 < cLine) (hp : PL X o i rp) (he : EN X value sx) (hk : E X e g)
    (hs : swapsWith value (some (.Subscript o e sp)) pos.line X.env = pure false := by rfl) : S X (.Assign [.Subscript o e sp] value pos) (sDPutN i rp g sx) := by
  obtain ⟨t, t1, t2⟩ := he.ex
  obtain ⟨u, u1, u2⟩ := hk.ex
  obtain ⟨w, w1, w2⟩ := hp.ex
  refine ⟨⟨_, ps_dput hu w1 u1 t1 hs, fun G0 H0 Z Γ σ G H D r R hf kk => ?_⟩⟩
  obtain ⟨sn, e1, hf⟩ := obind hf
  obtain ⟨j, e2, hf⟩ := obind hf
  obtain ⟨ky, e3, hf⟩ := obind hf
  obtain ⟨s1, q, hf⟩ := obind hf
  obtain ⟨⟨ks, ss⟩, ea, hf⟩ := obind hf
  split at hf
  · rename_i hlen
    obtain ⟨hno, hlen⟩ := hlen
    simp only [] at hno hlen
    have ho := asOd_own ea
    have hP : SlP s1 := ⟨(fun z => by subst z; cases ho), (fun d z => by subst z; cases ho)⟩
    obtain ⟨s, s2, a1, a2, rfl⟩ := upP_some hf
    obtain ⟨s', b1, b2, b3⟩ := gP_some q hP
    rw [a1] at b1
    cases b1
    refine t2 G0 H0 Z Γ σ G H _ sn R e1 fun G1 H1 v F x1 hd hF => ?_
    refine w2 G0 H0 Z Γ σ G H G1 H1 _ s _ R x1 a1 b2 b3 hP.1 fun v0 pk => ?_
    refine u2 G0 H0 Z Γ σ G1 H1 _ _ (R.ext x1) e2 fun G2 H2 wv x2 r2 => ?_
    obtain ⟨F1, P⟩ := pk G2 H2 (x1.trans x2)
    have hdP := P.hd.asOd ea
    cases hdP with
    | od f hp hl n sF rr =>
      rename_i p vs F'
      have gp := (P.fr p f).1
      have hF2 : ∀ a, F a → G2 a = none ∧ H a = none ∧ H2 a ≠ none := fun a y => by
        obtain ⟨y1, y2, y3⟩ := hF a y
        exact ⟨x2.none y1 y3, y2, x2.hn a y3⟩
      have dj : ∀ a, F a → ¬ F1 a := fun a y z => (P.fr a z).2.2.2.2 (hF2 a y).2.1
      have njF : ¬ F p := fun y => dj p y f
      have hd2 : Hd X.K X.mg G2 H2 v F sn := hd.mono x2.gg fun a o _ q n => x2.hh a o q n
      refine ⟨p, upd H2 p (.dK ((ks ++ [ky]).zip (vs ++ [v]))), rfl, ?_, kk σ G2 _ ?_⟩
      · rw [dKey_rep e3 r2]
        have := putK_zip ky v hl
        unfold putKs putXs at this
        rw [if_neg (by rw [hno]; simp), if_neg (by rw [hno]; simp)] at this
        rw [← this]
        refine DPut.k hp ?_
        rw [List.length_zip, ← hl, Nat.min_self]
        exact Nat.lt_of_lt_of_le hlen line_big
      · have keep : ∀ (Y : Addr → Prop), ¬ Y p → ∀ a o, Y a → H2 a = some o → upd H2 p (.dK ((ks ++ [ky]).zip (vs ++ [v]))) a = some o := fun Y hy a o ya q => by
          rw [upd_ne]
          · exact q
          · intro e; subst e; exact hy ya
        refine P.up G2 _ (fun a => F1 a ∨ F a) (.od (ks ++ [ky]) (ss ++ [sn])) s2 (Same.refl _) (fun a o q => ?_) (fun a q => .inl q) (fun a o nf q => ?_) ?_ (fun a y => ?_) (fun _ => ho) a2
        · rw [upd_ne (ne_of_none q gp)]; exact x2.gh _ _ q
        · rw [upd_ne]
          · exact q
          · intro e; subst e; exact nf f
        · refine .od (.inl f) upd_same (F' := fun a => F' a ∨ F a) (by simp [hl]) (fun y => y.elim n njF) (fun a y => y.elim (fun y => .inl (sF a y)) .inr) ?_
          exact HdL.snoc (rr.mono (Same.refl _) (fun a o y q _ => keep F' n a o y q)) (hd2.mono (Same.refl _) (fun a o y q _ => keep F njF a o y q)) fun a y z => dj a y (sF a z)
        · have up : H2 a ≠ none → upd H2 p (.dK ((ks ++ [ky]).zip (vs ++ [v]))) a ≠ none := fun q => by
            by_cases e : a = p
            · subst e; rw [upd_same]; simp
            · rw [upd_ne e]; exact q
          rcases y with y | y
          · exact ⟨(P.fr a y).1, up (P.fr a y).2.2.1, .inl y⟩
          · exact ⟨(hF2 a y).1, up (hF2 a y).2.2, .inr (hF2 a y).2.1⟩
  · cases hf
end
end DL

/-! DL52: a method that changes its object and gives one of its parts, which is then looked at -/
namespace DL
open PySem L2
variable [TC : TabCtx]
/-- the promise: as spM, but what is given is a part of the object as it is then -/
def spA (K : PySem.W.Frag) (mg : Str → Option Value) (n : Nat) (F : Sl → List D → Option (D × Sl)) : Sp := fun vs H Q _ =>
  ∃ v0 args G s ds d s' Fp, vs = v0 :: args ∧ args.length = n ∧ Same G H ∧ TC.ti.t G H ∧ Hd K mg G H v0 Fp s ∧ (∀ a, Fp a → G a = none ∧ H a ≠ none ∧ ¬ TC.ti.tz a) ∧ RepL K mg G args ds ∧ F s ds = some (d, s') ∧
    ∀ G' H' v Fp', Same G G' → Same G' H' → TC.ti.t G' H' → (∀ a, ¬ Fp a → H a ≠ none → H' a ≠ none) → (∀ a, G' a ≠ none → G a ≠ none ∨ H a = none ∨ Fp a) → (∀ a o, ¬ Fp a → H a = some o → NT o → H' a = some o) → RepB K mg G' H' v d → Hd K mg G' H' v0 Fp' s' → (∀ a, Fp' a → G' a = none ∧ H' a ≠ none ∧ (Fp a ∨ H a = none)) → Q v H'
structure MetA (P : Program) (w : World) (K : PySem.W.Frag) (mg : Str → Option Value) (base : Heap) (c : Nat) (m : Str) (L : Nat) (ps : List Str) (S : Sl → List D → Option (D × Sl)) : Prop where
  ex : ∃ C f fd n, ps.length = n + 1 ∧ CK K mg c C ∧ Meth K C m f ∧ FnOk P w K mg base CX0 L f fd ps (spA K mg n S) ∧ Binds K fd ps []
def flat1 : Sl → Bool
  | .sh _ => true
  | .no => true
  | _ => false
/-- x = self.m(..); the rest only looks at x -/
def sLook (c j : Nat) (S : Sl → List D → Option (D × Sl)) (fs : Ag) (F : Sm) : Sm := fun Γ => match (Γ[0]? : Option Sl) with
  | some (.ob c' fl) => if c' = c ∧ (Γ.drop 1).all flat1 = true ∧ j ≠ 0 ∧ j < Γ.length then (fs Γ).bind fun ds => (S (.ob c' fl) ds).bind fun (r : D × Sl) => match r.2 with
      | .ob c2 fl2 => if c2 = c then (F ((Γ.set 0 (.bo (.obj c []))).set j (.bo r.1))).bind fun (q : Res) => match q with
          | .nx Γ' => match (Γ'[0]? : Option Sl) with
              | some (.bo _) => if ((Γ'.set j .no).drop 1).all flat1 = true then some (.nx ((Γ'.set 0 (.ob c2 fl2)).set j .no)) else none
              | _ => none
          | _ => none
        else none
      | _ => none
    else none
  | _ => none
section
variable {X : Cx} {a : Expr} {es : List Expr} {fs : Ag} {pos : Pos} {n : Nat}
theorem Hd.obAt {K : PySem.W.Frag} {mg : Str → Option Value} {G H : Hp} {v : V} {F : Addr → Prop} {c : Nat} {fs : List Sl} (h : Hd K mg G H v F (.ob c fs)) : ∃ p C dx vs F', v = .ref p ∧ F p ∧ mg (cN c) = some (.ref C) ∧ H p = some (.ins C dx ((cF c).zip vs)) ∧ ¬ F' p ∧ (∀ a, F' a → F a) ∧ HdL K mg G H vs F' fs := by
  cases h with
  | ob f hm h n s r => exact ⟨_, _, _, _, _, rfl, f, hm, h, n, s, r⟩
theorem flat_at {Γ : DEnv} (h : (Γ.drop 1).all flat1 = true) {i : Nat} {s : Sl} (hi : i ≠ 0) (e : Γ[i]? = some s) : (∃ d, s = .sh d) ∨ s = .no := by
  have hm : s ∈ Γ.drop 1 := by
    refine List.mem_of_getElem? (i := i - 1) ?_
    rw [List.getElem?_drop, show 1 + (i - 1) = i by omega]
    exact e
  have := List.all_eq_true.mp h s hm
  cases s with
  | sh d => exact .inl ⟨d, rfl⟩
  | no => exact .inr rfl
  | _ => cases this
theorem ss_look {pl : Sem Bool} {c k L j : Nat} {ps : List Str} {S : Sl → List D → Option (D × Sl)} {m x : Str} {apos pos' pos2 p0 : Pos} {xs : Str} {rest : List Stmt} {F : Sm} (mt : MetA X.prog X.w X.K X.mg X.base c m L ps S) (hr : Room k X.A) (hk : L ≤ k)
    (ha : AN X (a :: es) n fs) (hrest : Ss X rest F) (hN : X.N.Nodup) (hj : X.N[j]? = some x := by rfl) (hx : Loc X.env.scope x := by first | exact Or.inl rfl | exact Or.inr rfl) (hn : ps.length = n + 1 := by rfl) (hno : m ∉ cF c := by decide +kernel)
    (hs0 : X.N[0]? = some xs := by rfl) (hv0 : Vis X.env.scope xs := by first | exact Or.inl rfl | exact Or.inr (Or.inl rfl) | exact Or.inr (Or.inr rfl)) (hd0 : (xs == ("__debug__" : Str)) = false := by decide) (hcd0 : (xs == ("__classdict__" : Str)) = false := by decide)
    (hst : starEach (a :: es) X.env = (false, eval a X.env) :: starEach es X.env := by rfl) (hpl : (backTo pos (starEach es X.env)).any (·.1) = false := by rfl)
    (ht : eval (.Call (.Attribute (.Name xs p0) m apos) (a :: es) [] pos) X.env = (do
      let ov ← eval (.Name xs p0) X.env
      standAt apos.atName
      let (f, first) ← holding [ov] (getMethod ov m pl)
      callWith pos f first (backTo pos (starEach (a :: es) X.env)) (backToKw pos (keywordEach [] X.env))) := by rfl)
    (hs : swapsWith (.Call (.Attribute (.Name xs p0) m apos) (a :: es) [] pos) (some (.Name x pos')) pos2.line X.env = pure false := by rfl)
    (hf : X.fn x = true ∨ X.env.scope.names.lookup x = some .local := by first | exact .inl rfl | exact .inr rfl | assumption) :
    Ss X (.Assign [.Name x pos'] (.Call (.Attribute (.Name xs p0) m apos) (a :: es) [] pos) pos2 :: rest) (sLook c j S fs F) := by
  obtain ⟨C, fa, fd, n', f0, ck, hme, FO, hb⟩ := mt.ex
  have : n' = n := by omega
  subst this
  obtain ⟨t, t1, t2⟩ := ha.a.ex
  obtain ⟨u, u1, u2⟩ := hrest.ex
  refine ⟨⟨_, pss_cons (ps_set hN hj hx (pe_meth (pe_var hs0 hv0 hd0 hcd0) ck.cl hme FO (hr.mono hk) hb .nil pass0 t1 hst hpl ht) hs hf) u1, fun G0 H0 Z Γ σ G H D r R hf2 kf => ?_⟩⟩
  unfold sLook at hf2
  cases q0 : Γ[0]? with
  | none => rw [q0] at hf2; cases hf2
  | some s0 =>
    rw [q0] at hf2
    cases s0 with
    | ob c' fl =>
      simp only [] at hf2
      split at hf2
      · rename_i hc
        obtain ⟨rfl, hfl, hj0, hjl⟩ := hc
        obtain ⟨ds, e1, hf2⟩ := obind hf2
        obtain ⟨⟨d, s'⟩, hS, hf2⟩ := obind hf2
        cases s' with
        | ob c2 fl2 =>
          simp only [] at hf2
          split at hf2
          · rename_i hc2
            subst hc2
            obtain ⟨rb, hF, hf2⟩ := obind hf2
            cases rb with
            | nx Γ' =>
              simp only [] at hf2
              cases q1 : Γ'[0]? with
              | none => rw [q1] at hf2; cases hf2
              | some sb =>
                rw [q1] at hf2
                cases sb with
                | bo db =>
                  simp only [] at hf2
                  split at hf2
                  · rename_i hfl'
                    cases hf2
                    obtain ⟨v0, F1, ev, pk⟩ := R.pack (rp := []) q0 rfl (by simp) ⟨by simp, by simp⟩
                    have ev := ev rfl
                    obtain P0 := pk G H (Ext.refl R.gh)
                    obtain ⟨p, C', dx, vs, F', rfl, ff, hm, hh, nn, sF, rr⟩ := P0.hd.obAt
                    rw [ck.hm] at hm
                    cases hm
                    · skip
                      refine ⟨.ref p, ev, _, _, _, rfl, hh, zip_lookup_none hno, ?_⟩
                      refine t2 G0 H0 Z Γ σ G H _ ds R e1 fun G1 H1 vs1 x1 r1 => ?_
                      have P := pk G1 H1 x1
                      have R1 := R.ext x1
                      rw [List.append_nil]
                      refine ⟨.ref p, vs1, G1, _, ds, d, _, F1, rfl, by rw [r1.length, ha.n Γ ds e1], x1.gh, P.tb, P.hd, fun a y => ⟨(P.fr a y).1, (P.fr a y).2.2.1, P.ntz a y⟩, r1, hS, fun G' H' v Fp' gg gh' tb' hn' nw keep rv hd' fr => ?_⟩
                      -- the block, with all that is there left as it is
                      have live : ∀ a, H1 a ≠ none → (F1 a → False) → H' a ≠ none := fun a h nf => hn' a nf h
                      have zz' : ∀ a, Z.z a → H' a ≠ none := fun a z => live a (R1.zz a z) fun y => (P.fr a y).2.2.2.1 z
                      have hH0 : ∀ a, H0 a ≠ none → H' a ≠ none := fun a h => live a (R1.hn a h) fun y => h (P.fr a y).2.1
                      have hp' : ∃ dx' vs', H' p = some (.ins C dx' ((cF c2).zip vs')) := by
                        obtain ⟨p2, C2, dx2, vs2, F2, e2, f2, hm2, hh2, _⟩ := hd'.obAt
                        cases e2
                        rw [ck.hm] at hm2
                        cases hm2
                        exact ⟨_, _, hh2⟩
                      obtain ⟨dx', vs', hp'⟩ := hp'
                      have lenσ := R.len
                      have Rb : Rel X.K X.mg G' H' ⟨Z.z, some (.ref p), Z.t⟩ ((Γ.set 0 (.bo (.obj c2 []))).set j (.bo d)) (σ.set j (some v)) G' H' := by
                        obtain ⟨own, o1, o2, o3⟩ := R1.own
                        refine ⟨by simp [lenσ], gh', fun _ _ q _ => q, Same.refl _, fun a h => .inl h, zz', fun w s'' e1 e2 e3 => ?_, by show Z.t.t G' H'; rw [R.tc]; exact tb', R.tz, R.tc, fun _ h => h, fun _ _ => False, fun _ _ z => z.elim, fun _ _ _ z => z.elim, fun i s'' q => ?_⟩
                        · cases e1
                          rw [List.getElem?_set_ne (fun e => hj0 e)]
                          exact ev
                        · rcases set_get q with ⟨ei, hl, rfl⟩ | ⟨ei, q⟩
                          · subst ei
                            exact .inr (.inr ⟨v, d, rfl, by rw [List.getElem?_set_self (by rw [lenσ]; exact hjl)], rv⟩)
                          · rw [List.getElem?_set_ne ei]
                            rcases set_get q with ⟨ei2, hl, rfl⟩ | ⟨ei2, q⟩
                            · subst ei2
                              exact .inr (.inr ⟨.ref p, _, rfl, ev, .obj ck.hm hp' (by simp; exact .nil)⟩)
                            · rcases flat_at hfl (fun e => ei2 e.symm) q with ⟨dd, rfl⟩ | rfl
                              · obtain ⟨v2, e2, r2⟩ := R1.sh q
                                exact .inr (.inl ⟨v2, e2, .sh (r2.mono gg)⟩)
                              · exact .inl rfl
                      refine u2 G' H' _ _ _ G' H' D _ Rb hF ?_
                      intro σ2 G2 H2 R2
                      refine kf σ2 G2 H2 ?_
                      obtain ⟨own2, p1, p2, p3⟩ := R2.own
                      have len2 := R2.len
                      have sameF : ∀ a, Fp' a → G2 a = none ∧ H2 a ≠ none := fun a y => by
                        obtain ⟨y1, y2, y3⟩ := fr a y
                        refine ⟨?_, R2.hn a y2⟩
                        cases q : G2 a with
                        | none => rfl
                        | some o =>
                          rcases R2.new a (by rw [q]; simp) with z | z
                          · exact absurd y1 z
                          · exact absurd z y2
                      refine ⟨by simp [len2], R2.gh, fun a o q nt => ?_, (R1.gg.trans gg).trans R2.gg, fun a q => ?_, fun a z => R2.hn a (zz' a z), fun w s'' e1 e2 e3 => ?_, R2.tb, R.tz, R.tc, fun a h => R2.hn a (hH0 a h), fun i a => i = 0 ∧ Fp' a, fun i a y => ?_, fun i k a y1 y2 => y1.1.trans y2.1.symm, fun i s'' q => ?_⟩
                      · refine R2.hh a o (keep a o (fun y => ?_) (R1.hh a o q nt) nt) nt
                        rw [(P.fr a y).2.1] at q
                        cases q
                      · rcases R2.new a q with z | z
                        · rcases nw a z with z | z | z
                          · exact R1.new a z
                          · exact .inr (R1.hf z)
                          · exact .inr (P.fr a z).2.1
                        · refine .inr ?_
                          cases q2 : H0 a with
                          | none => rfl
                          | some o => exact absurd z (hH0 a (by rw [q2]; simp))
                      · rcases set_get e2 with ⟨ei, hl, rfl⟩ | ⟨ei, q⟩
                        · exact absurd ei hj0
                        · rcases set_get q with ⟨ei2, hl, rfl⟩ | ⟨ei2, q⟩
                          · have k1 := R2.an (.ref p) _ rfl q1 rfl
                            have k2 := R.an w _ e1 q0 rfl
                            rw [ev] at k2
                            rw [k1]
                            exact k2
                          · exact absurd rfl ei2
                      · obtain ⟨rfl, y⟩ := y
                        obtain ⟨y1, y2, y3⟩ := fr a y
                        refine ⟨(sameF a y).1, ?_, (sameF a y).2, fun z => ?_⟩
                        · rcases y3 with y3 | y3
                          · exact (P.fr a y3).2.1
                          · exact R1.hf y3
                        · rcases y3 with y3 | y3
                          · exact (P.fr a y3).2.2.2.1 z
                          · exact R1.zz a z y3
                      · rcases set_get q with ⟨ei, hl, rfl⟩ | ⟨ei, q⟩
                        · exact .inl rfl
                        · rcases set_get q with ⟨ei2, hl, rfl⟩ | ⟨ei2, q⟩
                          · subst ei2
                            refine .inr (.inl ⟨.ref p, R2.an (.ref p) _ rfl q1 rfl, ?_⟩)
                            exact (hd'.mono R2.gg fun a o y q n => R2.hh a o q n).wide fun a y => ⟨rfl, y⟩
                          · have q' : (Γ'.set j .no)[i]? = some s'' := by rw [List.getElem?_set_ne ei]; exact q
                            rcases flat_at hfl' (fun e => ei2 e.symm) q' with ⟨dd, rfl⟩ | rfl
                            · obtain ⟨v2, e2, r2⟩ := R2.sh q
                              exact .inr (.inl ⟨v2, e2, .sh r2⟩)
                            · exact .inl rfl
                  · cases hf2
                | _ => cases hf2
            | _ => cases hf2
          · cases hf2
        | _ => cases hf2
      · cases hf2
    | _ => cases hf2
end
end DL

/-! DL53: an object out of a dict of one's own is lent to a name, changed there, and given -/
namespace DL
/-- the first and the fourth change places -/
def sw3 {α : Type} : List α → List α
  | a :: b :: c :: d :: r => d :: b :: c :: a :: r
  | l => l
theorem sw3_sw3 {α : Type} : ∀ l : List α, sw3 (sw3 l) = l
  | [] => rfl
  | [_] => rfl
  | [_, _] => rfl
  | [_, _, _] => rfl
  | _ :: _ :: _ :: _ :: _ => rfl
theorem sw3_len {α : Type} : ∀ l : List α, (sw3 l).length = l.length
  | [] => rfl
  | [_] => rfl
  | [_, _] => rfl
  | [_, _, _] => rfl
  | _ :: _ :: _ :: _ :: _ => rfl
def swi : Nat → Nat
  | 0 => 3
  | 3 => 0
  | i => i
theorem sw3_get {α : Type} : ∀ {l : List α} (i : Nat), 4 ≤ l.length → (sw3 l)[i]? = l[swi i]?
  | a :: b :: c :: d :: r, i, _ => by
    match i with
    | 0 => rfl
    | 1 => rfl
    | 2 => rfl
    | 3 => rfl
    | n + 4 => rfl
  | [], _, h => by simp at h
  | [_], _, h => by simp at h
  | [_, _], _, h => by simp at h
  | [_, _, _], _, h => by simp at h
end DL
namespace L2
open PySem PySem.Spec PyProof.Rows
def Cx.sw (X : Cx) : Cx := { X with N := DL.sw3 X.N }
theorem Cx.sw_sw (X : Cx) : X.sw.sw = X := by
  show ({ X with N := DL.sw3 (DL.sw3 X.N) } : Cx) = X
  rw [DL.sw3_sw3]
theorem Inv.sw {X : Cx} {pins : List (Addr × Obj)} {σ : List (Option V)} {H : Hp} {s : Shared} (h4 : 4 ≤ X.N.length) (I : Inv X pins σ H s) : Inv X.sw pins (DL.sw3 σ) H s := by
  obtain ⟨m, hn, hl⟩ := I.loc
  refine ⟨⟨I.ok.mod, I.ok.kind, I.ok.glob, I.ok.blt, I.ok.above, I.ok.inj, I.ok.has, I.ok.cab, I.ok.hd, I.ok.frames, I.ok.stk, I.ok.exf, I.ok.bs, I.ok.bsz, I.ok.noex, I.ok.exfs, I.ok.funs, I.ok.frf⟩, I.os, I.bare, I.base, ⟨m, hn, fun i x v e1 e2 hv => ?_⟩, I.cell, I.free, I.freeC, I.pin, I.hok, by rw [DL.sw3_len, I.len]; exact (DL.sw3_len X.N).symm⟩
  have e1 : (DL.sw3 X.N)[i]? = some x := e1
  rw [DL.sw3_get i h4] at e1
  rw [DL.sw3_get i (by rw [I.len]; exact h4)] at e2
  exact hl _ x v e1 e2 hv
theorem Inv.unsw {X : Cx} {pins : List (Addr × Obj)} {σ : List (Option V)} {H : Hp} {s : Shared} (h4 : 4 ≤ X.N.length) (I : Inv X.sw pins σ H s) : Inv X pins (DL.sw3 σ) H s := by
  have := I.sw (by show 4 ≤ (DL.sw3 X.N).length; rw [DL.sw3_len]; exact h4)
  rw [Cx.sw_sw] at this
  exact this
def Ends.sw (D : Ends) : Ends := ⟨fun σ H => D.nx (DL.sw3 σ) H, D.rt, fun σ H => D.bk (DL.sw3 σ) H, fun σ H => D.ct (DL.sw3 σ) H⟩
theorem ps_sw {X : Cx} {st : Stmt} {t : TS} (h4 : 4 ≤ X.N.length) (h : PS X.sw st t) : PS X st (fun D σ H => t D.sw (DL.sw3 σ) H) := by
  refine ⟨fun pins s σ H D I q => ?_⟩
  refine thn (h.run pins s (DL.sw3 σ) H D.sw (I.sw h4) q) fun f s' r => ?_
  cases f with
  | next =>
    obtain ⟨σ', H', I', k⟩ := r
    exact ⟨_, H', I'.unsw h4, k⟩
  | brk =>
    obtain ⟨σ', H', I', k⟩ := r
    exact ⟨_, H', I'.unsw h4, k⟩
  | cont =>
    obtain ⟨σ', H', I', k⟩ := r
    exact ⟨_, H', I'.unsw h4, k⟩
  | ret u =>
    obtain ⟨v, σ', H', I', rv, k⟩ := r
    exact ⟨v, _, H', I'.unsw h4, rv, k⟩
end L2
namespace DL
open PySem L2
variable [TC : TabCtx]
/-- where a key stands -/
def ixK : List Key → Key → Option Nat
  | [], _ => none
  | k' :: ks, k => if k' = k then some 0 else (ixK ks k).map (· + 1)
theorem valX_ix {α : Type} {k : Key} : ∀ {ks : List Key} {xs : List α} {j : Nat} {x : α}, ixK ks k = some j → xs[j]? = some x → valX ks xs k = some x
  | [], _, _, _, h, _ => by cases h
  | k' :: ks, [], j, x, h, e => by simp at e
  | k' :: ks, y :: xs, j, x, h, e => by
    unfold ixK at h
    unfold valX
    rw [List.zip_cons_cons, List.find?_cons]
    split at h
    · rename_i hk
      cases h
      rw [decide_eq_true hk]
      cases e
      rfl
    · rename_i hk
      rw [decide_eq_false hk]
      obtain ⟨j', h1, rfl⟩ := Option.map_eq_some_iff.mp h
      exact valX_ix h1 (by simpa using e)
/-- a body that changes its first argument and gives a part of it -/
structure SsR (X : Cx) (body : List Stmt) (F : DEnv → Option (D × Sl)) : Prop where
  ex : ∃ t, PSs X body t ∧ ∀ G0 H0 Z Γ σ G H D d s', Rel X.K X.mg G0 H0 Z Γ σ G H → F Γ = some (d, s') →
    (∀ G2 H2 v v0 Fp', Z.a = some v0 → Same G2 H2 → SameN H0 H2 → Same G0 G2 → (∀ a, G2 a ≠ none → G0 a ≠ none ∨ H0 a = none) → Z.t.t G2 H2 → (∀ a, H0 a ≠ none → H2 a ≠ none) → RepB X.K X.mg G2 H2 v d → Hd X.K X.mg G2 H2 v0 Fp' s' → (∀ a, Fp' a → G2 a = none ∧ H0 a = none ∧ H2 a ≠ none) → D.rt v H2) →
    (∃ v0, Z.a = some v0) → t D σ H
def runA (n : Nat) (F : DEnv → Option (D × Sl)) : Sl → List D → Option (D × Sl) := fun s ds => F (s :: ds.map Sl.sh ++ List.replicate (n - (ds.length + 1)) .no)
open Classical in
theorem def_okA {P : Program} {w : World} {K : PySem.W.Frag} {mg : Str → Option Value} {base : Heap} {x qual : Str} {st : Stmt} {f : Addr} {fd : FuncData} {N ps : List Str} {k : Nat} {B : DEnv → Option (D × Sl)} (F : Fun K x qual st f fd) (S : FnScope N ps (defScope st)) {n : Nat} (hps : ps.length = n + 1)
    (hbody : ∀ (cdv : Value) (A : Around) (outer : List PySem.Env) (s : Shared) (H : Hp) (E : XK), Room k (A.deeper (PyProof.Rows.envOfC qual (defScope st) s.heap.objs.size f cdv)) →
      SsR (cxOf CX0 P w K mg base N qual (defScope st) f cdv A outer s H E).nox (defBody st) B) : FnOk P w K mg base CX0 (k + 1) f fd ps (spA K mg n (runA N.length B)) := by
  refine F.ok S (fun vs H Q E h => ?_) (fun cdv A outer s H vs Q E hr h => ?_)
  · obtain ⟨v0, args, G, s, ds, d, s', Fp, rfl, hl, _⟩ := h
    simp [hl, hps]
  · obtain ⟨v0, args, G, sl, ds, d, s', Fp, rfl, hl, gh, tb, hd, fr, r, hf, kk⟩ := h
    obtain ⟨t, h1, h2⟩ := (hbody cdv A outer s H E hr).ex
    refine ⟨t, h1, ?_⟩
    have R := startM_rel (N := N) gh tb hd fr r fun a => inferInstance
    refine h2 G _ _ _ _ G H _ d s' R hf (fun G2 H2 v v0' Fp' e1 gh2 hh2 gg2 nw2 tb2 hn2 rb hd2 fr2 => ?_) ⟨v0, rfl⟩
    cases e1
    refine kk G2 H2 v Fp' gg2 gh2 tb2 (fun a nf h => hn2 a (by simpa [nf] using h)) (fun a q => ?_) (fun a o nf q n => hh2 a o (by simp [nf, q]) n) rb hd2 fun a y => ?_
    · rcases nw2 a q with z | z
      · exact .inl z
      · by_cases fa : Fp a
        · exact .inr (.inr fa)
        · simp [fa] at z
          exact .inr (.inl z)
    · obtain ⟨w1, w2, w3⟩ := fr2 a y
      refine ⟨w1, w3, ?_⟩
      by_cases fa : Fp a
      · exact .inl fa
      · simp [fa] at w2
        exact .inr w2
def gRow2 (pts : D) (ks : List Key) (ss : List Sl) (j : Nat) : Res → Option (D × Sl)
  | .nx Γ2 => (Γ2[0]? : Option Sl).bind fun sr' => if isOwn sr' = true ∧ 4 ≤ Γ2.length then (toD sr').bind fun d => some (d, .ob 15 [.sh pts, .od ks (ss.set j sr')]) else none
  | _ => none
def gRow1 (FA FB : Sm) (Γ1 : DEnv) : Option Sl → Option Sl → Option (D × Sl)
  | some (.ob c [.sh pts, .od ks ss]), some (.sh key) => if c = 15 then (dKey key).bind fun ky => (ixK ks ky).bind fun j => (ss[j]?).bind fun sr =>
      if isOwn sr = true ∧ (Γ1.drop 1).all flat1 = true ∧ 4 ≤ Γ1.length then (sSeq FA FB (((sw3 Γ1).set 0 sr).set 3 (.bo (.obj 15 [pts])))).bind (gRow2 pts ks ss j) else none
    else none
  | _, _ => none
/-- row = self._rows[start]; two statements about row; return row -/
def gRow (F1 FA FB : Sm) : DEnv → Option (D × Sl) := fun Γ => (F1 Γ).bind fun (q : Res) => match q with
  | .nx Γ1 => gRow1 FA FB Γ1 Γ1[0]? Γ1[1]?
  | _ => none
section
variable {X : Cx}
open Classical in
theorem ss_row {C : Addr} {st1 sa sb : Stmt} {F1 FA FB : Sm} {xs xk xr : Str} {p1 p2 p3 p4 p5 p6 p7 p8 : Pos} (h4 : 4 ≤ X.N.length) (hu : X.A.units + 1 < cLine) (ck : CK X.K X.mg 15 C) (h1 : S X st1 F1) (ha : S X.sw sa FA) (hb : S X.sw sb FB) (hN : X.N.Nodup)
    (h0 : X.N[0]? = some xs := by rfl) (hk : X.N[1]? = some xk := by rfl) (h3 : X.N[3]? = some xr := by rfl)
    (hv0 : Vis X.env.scope xs := by first | exact Or.inl rfl | exact Or.inr (Or.inl rfl) | exact Or.inr (Or.inr rfl)) (hvk : Vis X.env.scope xk := by first | exact Or.inl rfl | exact Or.inr (Or.inl rfl) | exact Or.inr (Or.inr rfl)) (hvr : Vis X.env.scope xr := by first | exact Or.inl rfl | exact Or.inr (Or.inl rfl) | exact Or.inr (Or.inr rfl))
    (hd0 : (xs == ("__debug__" : Str)) = false := by decide) (hc0 : (xs == ("__classdict__" : Str)) = false := by decide) (hdk : (xk == ("__debug__" : Str)) = false := by decide) (hck : (xk == ("__classdict__" : Str)) = false := by decide) (hdr : (xr == ("__debug__" : Str)) = false := by decide) (hcr : (xr == ("__classdict__" : Str)) = false := by decide)
    (hx : Loc X.env.scope xr := by first | exact Or.inl rfl | exact Or.inr rfl) (hab : attributeBase (.Name xs p3) "_rows" X.env (eval (.Name xs p3) X.env) = eval (.Name xs p3) X.env := by rfl)
    (hs : swapsWith (.Subscript (.Attribute (.Name xs p3) "_rows" p4) (.Name xk p5) p6) (some (.Name xr p1)) p2.line X.env = pure false := by rfl)
    (hf : X.fn xr = true ∨ X.env.scope.names.lookup xr = some .local := by first | exact .inl rfl | exact .inr rfl | assumption) :
    SsR X [st1, .Assign [.Name xr p1] (.Subscript (.Attribute (.Name xs p3) "_rows" p4) (.Name xk p5) p6) p2, sa, sb, .Return (some (.Name xr p7)) p8] (gRow F1 FA FB) := by
  obtain ⟨t1, a1, a2⟩ := h1.ex
  obtain ⟨ta, b1, b2⟩ := ha.ex
  obtain ⟨tb, c1, c2⟩ := hb.ex
  refine ⟨⟨_, pss_cons a1 (pss_cons (ps_set hN h3 hx (pe_dget hu (pe_fld (pe_var h0 hv0 hd0 hc0) hab) (pe_var hk hvk hdk hck) (by intro _ _; rfl)) hs hf) (pss_cons (ps_sw h4 b1) (pss_cons (ps_sw h4 c1) (pss_cons (ps_ret (pe_var h3 hvr hdr hcr)) pss_nil)))), fun G0 H0 Z Γ σ G H D d s' R hF kf ⟨v0, hv0'⟩ => ?_⟩⟩
  obtain ⟨r1, e1, hF⟩ := obind hF
  cases r1 with
  | nx Γ1 =>
    replace hF : gRow1 FA FB Γ1 Γ1[0]? Γ1[1]? = some (d, s') := hF
    refine a2 G0 H0 Z Γ σ G H _ _ R e1 ?_
    intro σ1 G1 H1 R1
    unfold gRow1 at hF
    split at hF
    · rename_i c pts ks ss key q0 q1
      split at hF
      · rename_i hc
        subst hc
        obtain ⟨ky, e3, hF⟩ := obind hF
        obtain ⟨j, e4, hF⟩ := obind hF
        obtain ⟨sr, e5, hF⟩ := obind hF
        split at hF
        · rename_i hcond
          obtain ⟨hown, hfl, lenN⟩ := hcond
          obtain ⟨rb, e6, hF⟩ := obind hF
          cases rb with
          | nx Γ2 =>
            replace hF : ((Γ2[0]? : Option Sl).bind fun sr' => if isOwn sr' = true ∧ 4 ≤ Γ2.length then (toD sr').bind fun d => some (d, .ob 15 [.sh pts, .od ks (ss.set j sr')]) else none) = some (d, s') := hF
            obtain ⟨sr', e7, hF⟩ := obind hF
            split at hF
            · rename_i hown'
              obtain ⟨hown', len2⟩ := hown'
              obtain ⟨dd, e8, hF⟩ := obind hF
              cases hF
              -- what stands in slot 0
              obtain ⟨own, o1, o2, o3⟩ := R1.own
              have ev0 : σ1[0]? = some (some v0) := R1.an v0 _ hv0' q0 rfl
              have hd0 : Hd X.K X.mg G1 H1 v0 (own 0) (.ob 15 [.sh pts, .od ks ss]) := by
                rcases o3 0 _ q0 with z | ⟨v, z1, z2⟩ | ⟨_, _, z, _⟩
                · cases z
                · rw [ev0] at z1; cases z1; exact z2
                · cases z
              obtain ⟨p, C', dx, vs0, F0, ep, f0, hm0, hh0, n0, s0, rr0⟩ := hd0.obAt
              subst ep
              rw [ck.hm] at hm0
              cases hm0
              obtain ⟨wp, Fp0, ewp, hpts, _⟩ := rr0.upd 0 (s := .sh pts) rfl
              have rpts : Rep X.K X.mg G1 wp pts := by cases hpts with | sh h => exact h
              obtain ⟨w1, F1', ew1, hod, sub1, kk1⟩ := rr0.upd 1 (s := .od ks ss) rfl
              obtain ⟨q, vsd, Fd, e_w1, fq, hq, hlq, nq, sq, rq⟩ : ∃ q vs F', w1 = .ref q ∧ F1' q ∧ H1 q = some (.dK (ks.zip vs)) ∧ ks.length = vs.length ∧ ¬ F' q ∧ (∀ a, F' a → F1' a) ∧ HdL X.K X.mg G1 H1 vs F' ss := by
                cases hod with
                | od f h l n s r => exact ⟨_, _, _, rfl, f, h, l, n, s, r⟩
              subst e_w1
              obtain ⟨vr, F2, evr, hsr, sub2, kk2⟩ := rq.upd j e5
              have inOwn : ∀ a, F2 a → own 0 a := fun a y => s0 a (sub1 a (sq a (sub2 a y)))
              have np : ¬ F2 p := fun y => n0 (sub1 p (sq p (sub2 p y)))
              have nq2 : ¬ F2 q := fun y => nq (sub2 q y)
              obtain ⟨vk, ek, rk⟩ := R1.sh q1
              have hvk' := dKey_rep e3 rk
              subst hvk'
              refine ⟨.ref p, ev0, _, _, _, _, .ref q, rfl, hh0, ck.cl, ck.na "_rows" (by decide +kernel), zip_lookup (by decide +kernel) (by rfl) ew1, ?_⟩
              refine ⟨kV ky, ek, q, vr, rfl, ?_, ?_⟩
              · rw [← valX_ix e4 evr]
                exact DGet.k hq
              -- the object is lent: what else there is stays
              have len1 := R1.len
              have lenS : 4 ≤ (σ1.set 3 (some vr)).length := by rw [List.length_set, len1]; exact lenN
              have sg : ∀ i, (sw3 (σ1.set 3 (some vr)))[i]? = (σ1.set 3 (some vr))[swi i]? := fun i => sw3_get i lenS
              have Rb : Rel X.K X.mg G1 (fun a => if F2 a then none else H1 a) ⟨Z.z, some vr, Z.t⟩ (((sw3 Γ1).set 0 sr).set 3 (.bo (.obj 15 [pts]))) (sw3 (σ1.set 3 (some vr))) G1 H1 := by
                refine ⟨by simp [sw3_len, len1], R1.gh, fun a o q nt => ?_, Same.refl _, fun a h => .inl h, R1.zz, fun w s'' e1 e2 e3 => ?_, R1.tb, R1.tz, R1.tc, fun a h => ?_, fun i a => i = 0 ∧ F2 a, fun i a y => ?_, fun i k a y1 y2 => y1.1.trans y2.1.symm, fun i s'' qq => ?_⟩
                · split at q
                  · cases q
                  · exact q
                · cases e1
                  rw [sg 0]
                  show (σ1.set 3 (some vr))[3]? = _
                  rw [List.getElem?_set_self (by omega)]
                · by_cases x : F2 a
                  · simp [x] at h
                  · simpa [x] using h
                · obtain ⟨_, y⟩ := y
                  obtain ⟨z1, z2, z3, z4⟩ := o1 0 a (inOwn a y)
                  exact ⟨z1, by simp [y], z3, z4⟩
                · rcases set_get qq with ⟨ei, hl, rfl⟩ | ⟨ei, qq⟩
                  · subst ei
                    refine .inr (.inr ⟨.ref p, _, rfl, ?_, .obj ck.hm (by simp only [np, if_false]; exact hh0) ?_⟩)
                    · rw [sg 3]
                      show (σ1.set 3 (some vr))[0]? = _
                      rw [List.getElem?_set_ne (by omega)]
                      exact ev0
                    · cases vs0 with
                      | nil => cases ewp
                      | cons a t =>
                        cases ewp
                        exact .cons (.sh rpts) .nil
                  · rcases set_get qq with ⟨ei2, hl, rfl⟩ | ⟨ei2, qq⟩
                    · subst ei2
                      refine .inr (.inl ⟨vr, ?_, hsr.wide fun a y => ⟨rfl, y⟩⟩)
                      rw [sg 0]
                      show (σ1.set 3 (some vr))[3]? = _
                      rw [List.getElem?_set_self (by omega)]
                    · have es : swi i = i := by
                        unfold swi
                        split
                        · exact absurd rfl ei2
                        · exact absurd rfl ei
                        · rfl
                      rw [sw3_get i lenN, es] at qq
                      rcases flat_at hfl (fun e => ei2 e.symm) qq with ⟨dd, rfl⟩ | rfl
                      · obtain ⟨v2, z2, r2⟩ := R1.sh qq
                        refine .inr (.inl ⟨v2, ?_, .sh r2⟩)
                        rw [sg i, es, List.getElem?_set_ne ei]
                        exact z2
                      · exact .inl rfl
              obtain ⟨rA, eA, e6⟩ := obind e6
              cases rA with
              | nx ΓA =>
                replace e6 : FB ΓA = some (.nx Γ2) := e6
                refine b2 G1 _ _ _ _ G1 H1 _ (.nx ΓA) Rb eA ?_
                intro σA GA HA RA
                show tb _ (sw3 (sw3 σA)) HA
                rw [sw3_sw3]
                refine c2 G1 _ _ _ _ GA HA _ (.nx Γ2) RA e6 ?_
                intro σB G2 H2 RB
                have evr' : σB[0]? = some (some vr) := RB.an vr _ rfl e7 (keepS_own hown')
                refine ⟨vr, ?_, ?_⟩
                · show (sw3 σB)[3]? = _
                  rw [sw3_get 3 (by rw [RB.len]; exact len2)]
                  exact evr'
                obtain ⟨own', o1', o2', o3'⟩ := RB.own
                have hsr' : Hd X.K X.mg G2 H2 vr (own' 0) sr' := by
                  rcases o3' 0 _ e7 with z | ⟨v, z1, z2⟩ | ⟨_, _, z, _⟩
                  · rw [z] at hown'; cases hown'
                  · rw [evr'] at z1; cases z1; exact z2
                  · rw [z] at hown'; cases hown'
                have keep : ∀ a o, ¬ F2 a → H1 a = some o → NT o → H2 a = some o := fun a o nf q nt => RB.hh a o (by simp only [nf, if_false]; exact q) nt
                have kn : ∀ a, ¬ F2 a → H1 a ≠ none → H2 a ≠ none := fun a nf h => RB.hn a (by simp only [nf, if_false]; exact h)
                have newA : ∀ a, own' 0 a → F2 a ∨ H1 a = none := fun a y => by
                  have := (o1' 0 a y).2.1
                  by_cases x : F2 a
                  · exact .inl x
                  · simp only [x, if_false] at this
                    exact .inr this
                have n_old : ∀ a, own 0 a → own' 0 a → F2 a := fun a y z => by
                  rcases newA a z with x | x
                  · exact x
                  · exact absurd x (o1 0 a y).2.2.1
                have H0F : ∀ a, F2 a → H0 a = none := fun a y => (o1 0 a (inOwn a y)).2.1
                have st1 := kk2 G2 H2 (own' 0) sr' RB.gg (fun a o _ nf q nt => keep a o nf q nt) hsr' fun a y => by
                  by_cases x : F2 a
                  · exact .inl x
                  · exact .inr fun w => x (n_old a (s0 a (sub1 a (sq a w))) y)
                have st2 : Hd X.K X.mg G2 H2 (.ref q) (fun a => (F1' a ∧ ¬ F2 a) ∨ own' 0 a) (.od ks (ss.set j sr')) := by
                  refine .od (.inl ⟨fq, nq2⟩) (keep q _ nq2 hq nofun) hlq (fun y => ?_) (fun a y => ?_) st1
                  · rcases y with y | y
                    · exact nq y.1
                    · exact nq2 (n_old q (s0 q (sub1 q fq)) y)
                  · rcases y with y | y
                    · exact .inl ⟨sq a y.1, y.2⟩
                    · exact .inr y
                have st3 := kk1 G2 H2 _ (.od ks (ss.set j sr')) RB.gg (fun a o _ nf q nt => keep a o (fun y => nf (sq a (sub2 a y))) q nt) st2 fun a y => by
                  rcases y with y | y
                  · exact .inl y.1
                  · by_cases x : F2 a
                    · exact .inl (sq a (sub2 a x))
                    · exact .inr fun w => x (n_old a (s0 a w) y)
                have st4 : Hd X.K X.mg G2 H2 (.ref p) (fun a => (own 0 a ∧ ¬ F2 a) ∨ own' 0 a) (.ob 15 [.sh pts, .od ks (ss.set j sr')]) := by
                  refine .ob (.inl ⟨f0, np⟩) ck.hm (keep p _ np hh0 nofun) (fun y => ?_) (fun a y => ?_) st3
                  · rcases y with y | y
                    · exact n0 y.1
                    · rcases y with y | y
                      · exact n0 (sub1 p y.1)
                      · exact np (n_old p f0 y)
                  · rcases y with y | y
                    · exact .inl ⟨s0 a y.1, fun z => y.2 (sq a (sub2 a z))⟩
                    · rcases y with y | y
                      · exact .inl ⟨s0 a (sub1 a y.1), y.2⟩
                      · exact .inr y
                refine kf G2 H2 vr (.ref p) _ hv0' RB.gh (fun a o q nt => ?_) (R1.gg.trans RB.gg) (fun a q => ?_) RB.tb (fun a h => ?_) (hsr'.bo e8) st4 fun a y => ?_
                · refine keep a o (fun y => ?_) (R1.hh a o q nt) nt
                  rw [H0F a y] at q
                  cases q
                · rcases RB.new a q with z | z
                  · exact R1.new a z
                  · by_cases x : F2 a
                    · exact .inr (H0F a x)
                    · simp only [x, if_false] at z
                      exact .inr (R1.hf z)
                · exact kn a (fun y => h (H0F a y)) (R1.hn a h)
                · rcases y with ⟨y, nf⟩ | y
                  · obtain ⟨z1, z2, z3, z4⟩ := o1 0 a y
                    refine ⟨?_, z2, kn a nf z3⟩
                    cases q : G2 a with
                    | none => rfl
                    | some o =>
                      rcases RB.new a (by rw [q]; simp) with z | z
                      · exact absurd z1 z
                      · simp only [nf, if_false] at z
                        exact absurd z z3
                  · obtain ⟨z1, z2, z3, z4⟩ := o1' 0 a y
                    refine ⟨z1, ?_, z3⟩
                    rcases newA a y with x | x
                    · exact H0F a x
                    · exact R1.hf x
              | _ => cases e6
            · cases hF
          | _ => cases hF
        · cases hF
      · cases hF
    · cases hF
  | _ => cases hF
end
end DL

/-! DL54: x = [a call that changes a place] -/
namespace DL
open PySem L2
variable [TC : TabCtx]
section
variable {X : Cx} {e : Expr} {mx : Mx} {pos lp : Pos}
def sSetL1M (i : Nat) (f : Mx) : Sm := fun Γ => (f Γ).bind fun r => some (.nx (r.2.set i (.ow [r.1])))
theorem s_setL1M (i : Nat) {x : Str} {pos' : Pos} (hN : X.N.Nodup) (he : EM X e mx) (h0 : i ≠ 0 := by decide) (hi : X.N[i]? = some x := by rfl) (hx : Loc X.env.scope x := by first | exact Or.inl rfl | exact Or.inr rfl) (hs : swapsWith (.List [e] lp) (some (.Name x pos')) pos.line X.env = pure false := by rfl)
    (hf : X.fn x = true ∨ X.env.scope.names.lookup x = some .local := by first | exact .inl rfl | exact .inr rfl | assumption)
    (hpe : ∀ {te : TE}, PE X e te → PE X (.List [e] lp) (tLst (tCons te tNil)) := by intro te h; exact pe_lst (pa_cons h pa_nil)) : S X (.Assign [.Name x pos'] (.List [e] lp) pos) (sSetL1M i mx) := by
  obtain ⟨t, h1, h2⟩ := he.ex
  refine ⟨⟨_, ps_set hN hi hx (hpe h1) hs hf, fun G0 H0 Z Γ σ G H D r R hf k => ?_⟩⟩
  obtain ⟨⟨d, Γ'⟩, e1, hf⟩ := obind hf
  cases hf
  refine h2 G0 H0 Z Γ σ G H _ d Γ' R e1 fun G1 H1 v R1 r1 => ?_
  refine ⟨Nat.le_of_lt (small1000 (n := 1) (by decide)), fun p hp => ?_⟩
  exact k _ _ _ (set_own R1 (Ext.own1 R1.gh hp) hp (R1.gh.free hp) upd_same (.cons r1 .nil) i h0)
end
end DL

namespace K08
open PySem L2 DL
def topS (i : Nat) : Stmt := PySem.Challenge.pw_fewestlines_k08_least_errors.main.body.getD i (.Pass ⟨0, 0, 0, 0⟩)
section
variable {P : Program} {w : World} {K : PySem.W.Frag} {mg : Str → Option Value} {base : Heap}
/-! kept -/
abbrev s_kept : Stmt := topS 2
abbrev N_kept : List Str := ["chain", "vertex", "side", "place", "height", "_", "count", "back", "low", "near", "high"]
theorem sc_kept : FnScope N_kept ["chain", "vertex", "side"] (defScope s_kept) := ⟨rfl, rfl, rfl, by decide +kernel, rfl, by decide +kernel, by decide +kernel⟩
noncomputable def B_kept : Sm :=
  (sSeq (sUnp (gTg 3 (gTo (gN 3) (gTo (gN 4) (gTo (gN 5) gEnd)))) (gV 1))
  (sSeq (sSet 6 (gU dLen (gB 0)))
  (sSeq (sWhile (gT (gOp dGt (gV 6) (gI 1)))
  (sSeq (sUnp (gTg 3 (gTo (gN 7) (gTo (gN 8) (gTo (gN 5) gEnd)))) (gIx (gB 0) (gOp dSub (gV 6) (gI 2))))
  (sSeq (sUnp (gTg 3 (gTo (gN 9) (gTo (gN 10) (gTo (gN 5) gEnd)))) (gIx (gB 0) (gOp dSub (gV 6) (gI 1))))
  (sSeq (sIf (gT (gOp dGt (gOp dMul (gV 2) (gOp dSub (gOp dMul (gOp dSub (gV 10) (gV 8)) (gOp dSub (gV 3) (gV 7))) (gOp dMul (gOp dSub (gV 4) (gV 8)) (gOp dSub (gV 9) (gV 7))))) (gI 0)))
  sBrk
  sNil)
  (sAug dSub 6 (gI 1))))))
  (sRet (gV 6)))))
noncomputable def S_kept : List D → Option D := runK [true, false, false] 11 B_kept
theorem ok_kept {f : Addr} {fd : FuncData} (F : Fun K "kept" "kept" s_kept f fd) (m_len : mg "len" = none) : FnOk P w K mg base CX0 1 f fd ["chain", "vertex", "side"] (spK K mg [true, false, false] S_kept) :=
  def_okK F sc_kept rfl fun cdv A outer s H E hr =>
  (ss_cons (s_unp (e_var 1) (g_tup rfl (gl_cons (g_name 3 sc_kept.nd) (gl_cons (g_name 4 sc_kept.nd) (gl_cons (g_name 5 sc_kept.nd) gl_nil)))))
  (ss_cons (s_set 6 sc_kept.nd (e_cb cb_len (by rfl) m_len boot_len' (b_var 0)))
  (ss_cons (s_while PassesOwn.never (t_cmp od_gt (e_var 6) e_int)
  (ss_cons (s_unp (e_ix (b_var 0) (e_op od_sub (e_var 6) e_int)) (g_tup rfl (gl_cons (g_name 7 sc_kept.nd) (gl_cons (g_name 8 sc_kept.nd) (gl_cons (g_name 5 sc_kept.nd) gl_nil)))))
  (ss_cons (s_unp (e_ix (b_var 0) (e_op od_sub (e_var 6) e_int)) (g_tup rfl (gl_cons (g_name 9 sc_kept.nd) (gl_cons (g_name 10 sc_kept.nd) (gl_cons (g_name 5 sc_kept.nd) gl_nil)))))
  (ss_cons (s_if (t_cmp od_gt (e_op od_mul (e_var 2) (e_op od_sub (e_op od_mul (e_op od_sub (e_var 10) (e_var 8)) (e_op od_sub (e_var 3) (e_var 7))) (e_op od_mul (e_op od_sub (e_var 4) (e_var 8)) (e_op od_sub (e_var 9) (e_var 7))))) e_int)
  (ss_one s_break)
  ss_nil)
  (ss_one (s_augS 6 sc_kept.nd e_int))))))
  (ss_one (s_ret (e_var 6))))))
/-! farthest -/
abbrev s_farthest : Stmt := topS 3
abbrev N_farthest : List Str := ["chain", "rise", "run", "first", "last", "middle", "place", "height", "_", "farther", "other"]
theorem sc_farthest : FnScope N_farthest ["chain", "rise", "run"] (defScope s_farthest) := ⟨rfl, rfl, rfl, by decide +kernel, rfl, by decide +kernel, by decide +kernel⟩
noncomputable def B_farthest : Sm :=
  (sSeq (sPar [3, 4] (aC (gI 0) (aC (gOp dSub (gU dLen (gB 0)) (gI 1)) aN)))
  (sSeq (sWhile (gT (gOp dLt (gV 3) (gV 4)))
  (sSeq (sSet 5 (gOp dDiv (gOp dAdd (gV 3) (gV 4)) (gI 2)))
  (sSeq (sUnp (gTg 3 (gTo (gN 6) (gTo (gN 7) (gTo (gN 8) gEnd)))) (gIx (gB 0) (gV 5)))
  (sSeq (sUnp (gTg 3 (gTo (gN 9) (gTo (gN 10) (gTo (gN 8) gEnd)))) (gIx (gB 0) (gOp dAdd (gV 5) (gI 1))))
  (sIf (gT (gOp dGt (gOp dMul (gV 1) (gOp dSub (gV 9) (gV 6))) (gOp dMul (gV 2) (gOp dSub (gV 10) (gV 7)))))
  (sSet 3 (gOp dAdd (gV 5) (gI 1)))
  (sSet 4 (gV 5)))))))
  (sRet (gIx (gB 0) (gV 3)))))
noncomputable def S_farthest : List D → Option D := runK [true, false, false] 11 B_farthest
theorem ok_farthest {f : Addr} {fd : FuncData} (F : Fun K "farthest" "farthest" s_farthest f fd) (m_len : mg "len" = none) : FnOk P w K mg base CX0 1 f fd ["chain", "rise", "run"] (spK K mg [true, false, false] S_farthest) :=
  def_okK F sc_farthest rfl fun cdv A outer s H E hr =>
  (ss_cons (s_par rfl sc_farthest.nd (n_cons e_int (n_cons (e_op od_sub (e_cb cb_len (by rfl) m_len boot_len' (b_var 0)) e_int) n_nil)))
  (ss_cons (s_while PassesOwn.never (t_cmp od_lt (e_var 3) (e_var 4))
  (ss_cons (s_set 5 sc_farthest.nd (e_op od_div (e_op od_add (e_var 3) (e_var 4)) e_int))
  (ss_cons (s_unp (e_ix (b_var 0) (e_var 5)) (g_tup rfl (gl_cons (g_name 6 sc_farthest.nd) (gl_cons (g_name 7 sc_farthest.nd) (gl_cons (g_name 8 sc_farthest.nd) gl_nil)))))
  (ss_cons (s_unp (e_ix (b_var 0) (e_op od_add (e_var 5) e_int)) (g_tup rfl (gl_cons (g_name 9 sc_farthest.nd) (gl_cons (g_name 10 sc_farthest.nd) (gl_cons (g_name 8 sc_farthest.nd) gl_nil)))))
  (ss_one (s_if (t_cmp od_gt (e_op od_mul (e_var 1) (e_op od_sub (e_var 9) (e_var 6))) (e_op od_mul (e_var 2) (e_op od_sub (e_var 10) (e_var 7))))
  (ss_one (s_set 3 sc_farthest.nd (e_op od_add (e_var 5) e_int)))
  (ss_one (s_set 4 sc_farthest.nd (e_var 5)))))))))
  (ss_one (s_ret (e_ix (b_var 0) (e_var 3))))))
/-! reduced -/
abbrev s_reduced : Stmt := topS 5
abbrev N_reduced : List Str := ["line", "p", "q", "d", "divisor"]
theorem sc_reduced : FnScope N_reduced ["line"] (defScope s_reduced) := ⟨rfl, rfl, rfl, by decide +kernel, rfl, by decide +kernel, by decide +kernel⟩
noncomputable def B_reduced : Sm :=
  (sSeq (sUnp (gTg 3 (gTo (gN 1) (gTo (gN 2) (gTo (gN 3) gEnd)))) (gV 0))
  (sSeq (sSet 4 (gA dGcd (aC (gA dGcd (aC (gV 1) (aC (gV 2) aN))) (aC (gV 3) aN))))
  (sRet (gTu 3 (aC (gOp dDiv (gV 1) (gV 4)) (aC (gOp dDiv (gV 2) (gV 4)) (aC (gOp dDiv (gV 3) (gV 4)) aN)))))))
noncomputable def S_reduced : List D → Option D := runB 5 B_reduced
theorem ok_reduced {f : Addr} {fd : FuncData} (F : Fun K "reduced" "reduced" s_reduced f fd) (m_gcd : mg "gcd" = some (.builtin "math.gcd")) : FnOk P w K mg base CX0 1 f fd ["line"] (spD K mg 1 S_reduced) :=
  def_ok F sc_reduced fun cdv A outer s H E hr =>
  (ss_cons (s_unp (e_var 0) (g_tup rfl (gl_cons (g_name 1 sc_reduced.nd) (gl_cons (g_name 2 sc_reduced.nd) (gl_cons (g_name 3 sc_reduced.nd) gl_nil)))))
  (ss_cons (s_set 4 sc_reduced.nd (e_cbf cb_gcd (by rfl) m_gcd (n_cons (e_cbf cb_gcd (by rfl) m_gcd (n_cons (e_var 1) (n_cons (e_var 2) n_nil)).a) (n_cons (e_var 3) n_nil)).a))
  (ss_one (s_ret (e_tup (n_cons (e_op od_div (e_var 1) (e_var 4)) (n_cons (e_op od_div (e_var 2) (e_var 4)) (n_cons (e_op od_div (e_var 3) (e_var 4)) n_nil))))))))
/-! least_error_for -/
abbrev s_least_error_for : Stmt := topS 7
abbrev N_least_error_for : List Str := ["deviation"]
theorem sc_least_error_for : FnScope N_least_error_for ["deviation"] (defScope s_least_error_for) := ⟨rfl, rfl, rfl, by decide +kernel, rfl, by decide +kernel, by decide +kernel⟩
noncomputable def B_least_error_for : Sm :=
  (sRet (gU dNeg (gOp dDiv (gU dNeg (gIx (gB 0) (gI 0))) (gOp dMul (gI 2) (gIx (gB 0) (gI 1))))))
noncomputable def S_least_error_for : List D → Option D := runB 1 B_least_error_for
theorem ok_least_error_for {f : Addr} {fd : FuncData} (F : Fun K "least_error_for" "least_error_for" s_least_error_for f fd) : FnOk P w K mg base CX0 1 f fd ["deviation"] (spD K mg 1 S_least_error_for) :=
  def_ok F sc_least_error_for fun cdv A outer s H E hr =>
  (ss_one (s_ret (e_neg (e_op od_div (e_neg (e_ix (b_var 0) e_int)) (e_op od_mul e_int (e_ix (b_var 0) e_int))))))
/-! middle_line -/
abbrev s_middle_line : Stmt := topS 8
abbrev N_middle_line : List Str := ["deviation", "run", "place", "height", "_", "between", "level", "rise", "above"]
theorem sc_middle_line : FnScope N_middle_line ["deviation"] (defScope s_middle_line) := ⟨rfl, rfl, rfl, by decide +kernel, rfl, by decide +kernel, by decide +kernel⟩
noncomputable def B_middle_line : Sm :=
  (sSeq (sSet 1 (gIx (gB 0) (gI 1)))
  (sSeq (sUnp (gTg 3 (gTo (gN 2) (gTo (gN 3) (gTo (gN 4) gEnd)))) (gIx (gB 0) (gI 2)))
  (sSeq (sUnp (gTg 3 (gTo (gN 5) (gTo (gN 6) (gTo (gN 4) gEnd)))) (gIx (gB 0) (gI 3)))
  (sSeq (sSet 7 (gOp dSub (gIx (gIx (gB 0) (gI 4)) (gI 1)) (gV 3)))
  (sSeq (sSet 8 (gOp dAdd (gOp dMul (gV 1) (gOp dSub (gV 3) (gV 6))) (gOp dMul (gV 7) (gOp dSub (gV 5) (gV 2)))))
  (sRet (gCall S_reduced (aC (gTu 3 (aC (gOp dMul (gI 2) (gV 7)) (aC (gOp dSub (gOp dMul (gI 2) (gOp dSub (gOp dMul (gV 1) (gV 3)) (gOp dMul (gV 7) (gV 2)))) (gV 8)) (aC (gOp dMul (gI 2) (gV 1)) aN)))) aN))))))))
noncomputable def S_middle_line : List D → Option D := runB 9 B_middle_line
theorem ok_middle_line {f : Addr} {fd : FuncData} (F : Fun K "middle_line" "middle_line" s_middle_line f fd) (c_reduced : Cal P w K mg base "reduced" 1 ["line"] S_reduced) : FnOk P w K mg base CX0 2 f fd ["deviation"] (spD K mg 1 S_middle_line) :=
  def_ok F sc_middle_line fun cdv A outer s H E hr =>
  (ss_cons (s_set 1 sc_middle_line.nd (e_ix (b_var 0) e_int))
  (ss_cons (s_unp (e_ix (b_var 0) e_int) (g_tup rfl (gl_cons (g_name 2 sc_middle_line.nd) (gl_cons (g_name 3 sc_middle_line.nd) (gl_cons (g_name 4 sc_middle_line.nd) gl_nil)))))
  (ss_cons (s_unp (e_ix (b_var 0) e_int) (g_tup rfl (gl_cons (g_name 5 sc_middle_line.nd) (gl_cons (g_name 6 sc_middle_line.nd) (gl_cons (g_name 4 sc_middle_line.nd) gl_nil)))))
  (ss_cons (s_set 7 sc_middle_line.nd (e_op od_sub (e_ix (e_ix (b_var 0) e_int).bo e_int) (e_var 3)))
  (ss_cons (s_set 8 sc_middle_line.nd (e_op od_add (e_op od_mul (e_var 1) (e_op od_sub (e_var 3) (e_var 6))) (e_op od_mul (e_var 7) (e_op od_sub (e_var 5) (e_var 2)))))
  (ss_one (s_ret (e_callC c_reduced hr (by decide) (n_cons (e_tup (n_cons (e_op od_mul e_int (e_var 7)) (n_cons (e_op od_sub (e_op od_mul e_int (e_op od_sub (e_op od_mul (e_var 1) (e_var 3)) (e_op od_mul (e_var 7) (e_var 2)))) (e_var 8)) (n_cons (e_op od_mul e_int (e_var 1)) n_nil)))) n_nil)))))))))
/-! deviation_under -/
abbrev s_deviation_under : Stmt := topS 10
abbrev N_deviation_under : List Str := ["first", "vertex", "other", "side", "run", "rise", "middle", "over"]
theorem sc_deviation_under : FnScope N_deviation_under ["first", "vertex", "other", "side"] (defScope s_deviation_under) := ⟨rfl, rfl, rfl, by decide +kernel, rfl, by decide +kernel, by decide +kernel⟩
noncomputable def B_deviation_under : Sm :=
  (sSeq (sSet 4 (gOp dSub (gIx (gB 1) (gI 0)) (gIx (gB 0) (gI 0))))
  (sSeq (sSet 5 (gOp dSub (gIx (gB 1) (gI 1)) (gIx (gB 0) (gI 1))))
  (sSeq (sSet 6 (gCall S_farthest (aC (gB 2) (aC (gOp dMul (gV 3) (gV 5)) (aC (gOp dMul (gV 3) (gV 4)) aN)))))
  (sSeq (sIf (gT (gOp dLt (gIx (gB 6) (gI 0)) (gIx (gB 0) (gI 0))))
  (sRet (gC .non))
  sNil)
  (sSeq (sSet 7 (gOp dMul (gV 3) (gOp dAdd (gOp dMul (gV 4) (gOp dSub (gIx (gB 0) (gI 1)) (gIx (gB 6) (gI 1)))) (gOp dMul (gV 5) (gOp dSub (gIx (gB 6) (gI 0)) (gIx (gB 0) (gI 0)))))))
  (sRet (gTu 5 (aC (gV 7) (aC (gV 4) (aC (gV 0) (aC (gV 6) (aC (gV 1) aN))))))))))))
noncomputable def S_deviation_under : List D → Option D := runK [false, false, true, false] 8 B_deviation_under
theorem ok_deviation_under {f : Addr} {fd : FuncData} (F : Fun K "deviation_under" "deviation_under" s_deviation_under f fd) (c_farthest : CalK P w K mg base "farthest" 1 ["chain", "rise", "run"] [true, false, false] S_farthest) : FnOk P w K mg base CX0 2 f fd ["first", "vertex", "other", "side"] (spK K mg [false, false, true, false] S_deviation_under) :=
  def_okK F sc_deviation_under rfl fun cdv A outer s H E hr =>
  (ss_cons (s_set 4 sc_deviation_under.nd (e_op od_sub (e_ix (b_var 1) e_int) (e_ix (b_var 0) e_int)))
  (ss_cons (s_set 5 sc_deviation_under.nd (e_op od_sub (e_ix (b_var 1) e_int) (e_ix (b_var 0) e_int)))
  (ss_cons (s_set 6 sc_deviation_under.nd (e_callK c_farthest hr (by decide) (m_bo (b_var 2) (m_sh (e_op od_mul (e_var 3) (e_var 5)) (m_sh (e_op od_mul (e_var 3) (e_var 4)) m_nil)))))
  (ss_cons (s_if (t_cmp od_lt (e_ix (b_var 6) e_int) (e_ix (b_var 0) e_int))
  (ss_one (s_ret e_non))
  ss_nil)
  (ss_cons (s_set 7 sc_deviation_under.nd (e_op od_mul (e_var 3) (e_op od_add (e_op od_mul (e_var 4) (e_op od_sub (e_ix (b_var 0) e_int) (e_ix (b_var 6) e_int))) (e_op od_mul (e_var 5) (e_op od_sub (e_ix (b_var 6) e_int) (e_ix (b_var 0) e_int))))))
  (ss_one (s_ret (e_tup (n_cons (e_var 7) (n_cons (e_var 4) (n_cons (e_var 0) (n_cons (e_var 6) (n_cons (e_var 1) n_nil)))))))))))))
/-! Reaches.__init__ -/
abbrev s_Reaches___init__ : Stmt := inClass (topS 13) 0
abbrev N_Reaches___init__ : List Str := ["self", "points"]
theorem sc_Reaches___init__ : FnScope N_Reaches___init__ ["self", "points"] (defScope s_Reaches___init__) := ⟨rfl, rfl, rfl, by decide +kernel, rfl, by decide +kernel, by decide +kernel⟩
noncomputable def B_Reaches___init__ : Sm :=
  (sSeq (sFld 0 [] 15 0 (nSh (gL (gUL dList (gB 1)))))
  (sFld 0 [] 15 1 nDict))
noncomputable def S_Reaches___init__ : Sl → List D → Option (D × Sl) := runM 2 B_Reaches___init__
theorem ok_Reaches___init__ {f : Addr} {fd : FuncData} {C15 : Addr} (F : Fun K "__init__" "Reaches.__init__" s_Reaches___init__ f fd) (m_list : mg "list" = none) (ck15 : CK K mg 15 C15) : FnOk P w K mg base CX0 1 f fd ["self", "points"] (spM K mg 1 S_Reaches___init__) :=
  def_okM F sc_Reaches___init__ rfl fun cdv A outer s H E hr =>
  (ss_cons (s_fld (c := 15) (j := 0) ck15 (pl_var 0) (el_cty cb_list (by rfl) m_list boot_list' (b_var 1)).fz.nw)
  (ss_one (s_fld (c := 15) (j := 1) ck15 (pl_var 0) en_dnew)))
/-! Strip.__init__ -/
abbrev s_Strip___init__ : Stmt := inClass (topS 9) 0
abbrev N_Strip___init__ : List Str := ["self"]
theorem sc_Strip___init__ : FnScope N_Strip___init__ ["self"] (defScope s_Strip___init__) := ⟨rfl, rfl, rfl, by decide +kernel, rfl, by decide +kernel, by decide +kernel⟩
noncomputable def B_Strip___init__ : Sm :=
  (sSeq (sFld 0 [] 4 0 (nOw aN))
  (sSeq (sFld 0 [] 4 1 (nOw aN))
  (sFld 0 [] 4 2 (nSh (gC .non)))))
noncomputable def S_Strip___init__ : Sl → List D → Option (D × Sl) := runM 1 B_Strip___init__
theorem ok_Strip___init__ {f : Addr} {fd : FuncData} {C4 : Addr} (F : Fun K "__init__" "Strip.__init__" s_Strip___init__ f fd) (ck4 : CK K mg 4 C4) : FnOk P w K mg base CX0 1 f fd ["self"] (spM K mg 0 S_Strip___init__) :=
  def_okM F sc_Strip___init__ rfl fun cdv A outer s H E hr =>
  (ss_cons (s_fld (c := 4) (j := 0) ck4 (pl_var 0) (el_lst n_nil).nw)
  (ss_cons (s_fld (c := 4) (j := 1) ck4 (pl_var 0) (el_lst n_nil).nw)
  (ss_one (s_fld (c := 4) (j := 2) ck4 (pl_var 0) e_non.nw))))
/-! Row.__init__ -/
abbrev s_Row___init__ : Stmt := inClass (topS 12) 0
abbrev N_Row___init__ : List Str := ["self"]
theorem sc_Row___init__ : FnScope N_Row___init__ ["self"] (defScope s_Row___init__) := ⟨rfl, rfl, rfl, by decide +kernel, rfl, by decide +kernel, by decide +kernel⟩
noncomputable def B_Row___init__ : Sm :=
  (sSeq (sFld 0 [] 14 0 (nOw aN))
  (sFld 0 [] 14 1 (gMk 4 S_Strip___init__ aN)))
noncomputable def S_Row___init__ : Sl → List D → Option (D × Sl) := runM 1 B_Row___init__
theorem ok_Row___init__ {f : Addr} {fd : FuncData} {C14 : Addr} (F : Fun K "__init__" "Row.__init__" s_Row___init__ f fd) (ck14 : CK K mg 14 C14) (k_Strip : Mak P w K mg base 4 1 ["self"] S_Strip___init__) : FnOk P w K mg base CX0 3 f fd ["self"] (spM K mg 0 S_Row___init__) :=
  def_okM F sc_Row___init__ rfl fun cdv A outer s H E hr =>
  (ss_cons (s_fld (c := 14) (j := 0) ck14 (pl_var 0) (el_lst n_nil).nw)
  (ss_one (s_fld (c := 14) (j := 1) ck14 (pl_var 0) (e_mkC0 (c := 4) k_Strip hr (by decide)))))
/-! Strip.take -/
abbrev s_Strip_take : Stmt := inClass (topS 9) 2
abbrev N_Strip_take : List Str := ["self", "vertex", "step", "above", "below"]
theorem sc_Strip_take : FnScope N_Strip_take ["self", "vertex", "step"] (defScope s_Strip_take) := ⟨rfl, rfl, rfl, by decide +kernel, rfl, by decide +kernel, by decide +kernel⟩
noncomputable def B_Strip_take : Sm :=
  (sSeq (sUnpF 0 [] 4 2 3 (gTo (gN 3) (gTo (gN 4) gEnd)) (gV 2))
  (sSeq (sDelF 0 [(4, 0)] (gV 3))
  (sSeq (sApp 0 [(4, 0)] (gV 1))
  (sSeq (sDelF 0 [(4, 1)] (gV 4))
  (sApp 0 [(4, 1)] (gV 1))))))
noncomputable def S_Strip_take : Sl → List D → Option (D × Sl) := runM 5 B_Strip_take
theorem ok_Strip_take {f : Addr} {fd : FuncData} {C4 : Addr} (F : Fun K "take" "Strip.take" s_Strip_take f fd) (ck4 : CK K mg 4 C4) : FnOk P w K mg base CX0 1 f fd ["self", "vertex", "step"] (spM K mg 2 S_Strip_take) :=
  def_okM F sc_Strip_take rfl fun cdv A outer s H E hr =>
  (ss_cons (s_unpF (c := 4) (j := 2) ck4 (pl_var 0) (e_var 2) (gl_cons (g_name 3 sc_Strip_take.nd) (gl_cons (g_name 4 sc_Strip_take.nd) gl_nil)) rfl)
  (ss_cons (s_delF (pl_fld (c := 4) (j := 0) ck4 (pl_var 0)) (e_var 3))
  (ss_cons (s_app (pl_fld (c := 4) (j := 0) ck4 (pl_var 0)) (e_var 1))
  (ss_cons (s_delF (pl_fld (c := 4) (j := 1) ck4 (pl_var 0)) (e_var 4))
  (ss_one (s_app (pl_fld (c := 4) (j := 1) ck4 (pl_var 0)) (e_var 1)))))))
/-! Strip.step_with -/
abbrev s_Strip_step_with : Stmt := inClass (topS 9) 1
abbrev N_Strip_step_with : List Str := ["self", "vertex", "above", "below", "found"]
theorem sc_Strip_step_with : FnScope N_Strip_step_with ["self", "vertex"] (defScope s_Strip_step_with) := ⟨rfl, rfl, rfl, by decide +kernel, rfl, by decide +kernel, by decide +kernel⟩
noncomputable def B_Strip_step_with : Sm :=
  (sSeq (sIf (gNot (gTru (gU (dFld 4 0) (gB 0))))
  (sRet (gTu 3 (aC (gTu 5 (aC (gI 0) (aC (gI 1) (aC (gV 1) (aC (gV 1) (aC (gV 1) aN)))))) (aC (gI 0) (aC (gI 0) aN)))))
  sNil)
  (sSeq (sSet 2 (gCall S_kept (aC (gU (dFld 4 0) (gB 0)) (aC (gV 1) (aC (gI 1) aN)))))
  (sSeq (sSet 3 (gCall S_kept (aC (gU (dFld 4 1) (gB 0)) (aC (gV 1) (aC (gU dNeg (gI 1)) aN)))))
  (sSeq (sSet 4 (gCall S_deviation_under (aC (gIx (gU (dFld 4 0) (gB 0)) (gOp dSub (gV 2) (gI 1))) (aC (gV 1) (aC (gU (dFld 4 1) (gB 0)) (aC (gI 1) aN))))))
  (sSeq (sIf (gT (gOp dIsN (gB 4) (gC .non)))
  (sSet 4 (gCall S_deviation_under (aC (gIx (gU (dFld 4 1) (gB 0)) (gOp dSub (gV 3) (gI 1))) (aC (gV 1) (aC (gU (dFld 4 0) (gB 0)) (aC (gU dNeg (gI 1)) aN))))))
  sNil)
  (sSeq (sIf (gT (gOp dIsN (gB 4) (gC .non)))
  (sSet 4 (gIm (gU (dFld 4 2) (gB 0))))
  sNil)
  (sRet (gTu 3 (aC (gV 4) (aC (gV 2) (aC (gV 3) aN)))))))))))
noncomputable def S_Strip_step_with : List D → Option D := runK [true, false] 5 B_Strip_step_with
theorem ok_Strip_step_with {f : Addr} {fd : FuncData} {C4 : Addr} (F : Fun K "step_with" "Strip.step_with" s_Strip_step_with f fd) (ck4 : CK K mg 4 C4) (c_kept : CalK P w K mg base "kept" 1 ["chain", "vertex", "side"] [true, false, false] S_kept) (c_deviation_under : CalK P w K mg base "deviation_under" 2 ["first", "vertex", "other", "side"] [false, false, true, false] S_deviation_under) : FnOk P w K mg base CX0 3 f fd ["self", "vertex"] (spK K mg [true, false] S_Strip_step_with) :=
  def_okK F sc_Strip_step_with rfl fun cdv A outer s H E hr =>
  (ss_cons (s_if (t_not (t_tru (b_fld (c := 4) (j := 0) ck4 (b_var 0))))
  (ss_one (s_ret (e_tup (n_cons (e_tup (n_cons e_int (n_cons e_int (n_cons (e_var 1) (n_cons (e_var 1) (n_cons (e_var 1) n_nil)))))) (n_cons e_int (n_cons e_int n_nil))))))
  ss_nil)
  (ss_cons (s_set 2 sc_Strip_step_with.nd (e_callK c_kept hr (by decide) (m_bo (b_fld (c := 4) (j := 0) ck4 (b_var 0)) (m_sh (e_var 1) (m_sh e_int m_nil)))))
  (ss_cons (s_set 3 sc_Strip_step_with.nd (e_callK c_kept hr (by decide) (m_bo (b_fld (c := 4) (j := 1) ck4 (b_var 0)) (m_sh (e_var 1) (m_sh (e_neg e_int) m_nil)))))
  (ss_cons (s_set 4 sc_Strip_step_with.nd (e_callK c_deviation_under hr (by decide) (m_sh (e_ix (b_fld (c := 4) (j := 0) ck4 (b_var 0)) (e_op od_sub (e_var 2) e_int)) (m_sh (e_var 1) (m_bo (b_fld (c := 4) (j := 1) ck4 (b_var 0)) (m_sh e_int m_nil))))))
  (ss_cons (s_if (t_cmpB ob_isN (b_var 4) e_non.bo)
  (ss_one (s_set 4 sc_Strip_step_with.nd (e_callK c_deviation_under hr (by decide) (m_sh (e_ix (b_fld (c := 4) (j := 1) ck4 (b_var 0)) (e_op od_sub (e_var 3) e_int)) (m_sh (e_var 1) (m_bo (b_fld (c := 4) (j := 0) ck4 (b_var 0)) (m_sh (e_neg e_int) m_nil)))))))
  ss_nil)
  (ss_cons (s_if (t_cmpB ob_isN (b_var 4) e_non.bo)
  (ss_one (s_set 4 sc_Strip_step_with.nd (b_fld (c := 4) (j := 2) ck4 (b_var 0)).im))
  ss_nil)
  (ss_one (s_ret (e_tup (n_cons (e_var 4) (n_cons (e_var 2) (n_cons (e_var 3) n_nil))))))))))))
/-! Row.take -/
abbrev s_Row_take : Stmt := inClass (topS 12) 1
abbrev N_Row_take : List Str := ["self", "vertex", "step"]
theorem sc_Row_take : FnScope N_Row_take ["self", "vertex"] (defScope s_Row_take) := ⟨rfl, rfl, rfl, by decide +kernel, rfl, by decide +kernel, by decide +kernel⟩
noncomputable def B_Row_take : Sm :=
  (sSeq (sSet 2 (gMeth 4 S_Strip_step_with (gPB 0 [(14, 1)]) (aC (gV 1) aN)))
  (sSeq (sExpM (gMM 0 [(14, 1)] 4 S_Strip_take (aC (gV 1) (aC (gV 2) aN))))
  (sApp 0 [(14, 0)] (gCall S_least_error_for (aC (gIx (gB 2) (gI 0)) aN)))))
noncomputable def S_Row_take : Sl → List D → Option (D × Sl) := runM 3 B_Row_take
theorem ok_Row_take {f : Addr} {fd : FuncData} {C14 : Addr} (F : Fun K "take" "Row.take" s_Row_take f fd) (ck14 : CK K mg 14 C14) (c_Strip_step_with : MetK P w K mg base 4 "step_with" 3 ["self", "vertex"] [true, false] S_Strip_step_with) (c_Strip_take : MetM P w K mg base 4 "take" 1 ["self", "vertex", "step"] S_Strip_take) (c_least_error_for : Cal P w K mg base "least_error_for" 1 ["deviation"] S_least_error_for) : FnOk P w K mg base CX0 4 f fd ["self", "vertex"] (spM K mg 1 S_Row_take) :=
  def_okM F sc_Row_take rfl fun cdv A outer s H E hr =>
  (ss_cons (s_set 2 sc_Row_take.nd (e_metK c_Strip_step_with hr (by decide) ((pl_fld (c := 14) (j := 1) ck14 (pl_var 0))).br (m_sh (e_var 1) m_nil)))
  (ss_cons (s_exprM (em_met c_Strip_take hr (by decide) (pl_fld (c := 14) (j := 1) ck14 (pl_var 0)) (n_cons (e_var 1) (n_cons (e_var 2) n_nil))))
  (ss_one (s_app (pl_fld (c := 14) (j := 0) ck14 (pl_var 0)) (e_callC c_least_error_for hr (by decide) (n_cons (e_ix (b_var 2) e_int) n_nil))))))
/-! Reaches._row -/
abbrev s_Reaches__row : Stmt := inClass (topS 13) 2
abbrev N_Reaches__row : List Str := ["self", "start", "error", "row", "index", "place", "height"]
theorem sc_Reaches__row : FnScope N_Reaches__row ["self", "start", "error"] (defScope s_Reaches__row) := ⟨rfl, rfl, rfl, by decide +kernel, rfl, by decide +kernel, by decide +kernel⟩
theorem nd_Reaches__row : (sw3 N_Reaches__row).Nodup := by decide
noncomputable def B1_Reaches__row : Sm :=
  (sIf (gNinP 0 [(15, 1)] (gV 1))
  (sDPutN 0 [(15, 1)] (gV 1) (gMk 14 S_Row___init__ aN))
  sNil)
noncomputable def BA_Reaches__row : Sm :=
  (sSet 4 (gOp dAdd (gV 1) (gU dLen (gPB 0 [(14, 0)]))))
noncomputable def BB_Reaches__row : Sm :=
  (sWhile (gAnd (gT (gOp dLt (gV 4) (gU dLen (gU (dFld 15 0) (gB 3))))) (gOr (gNot (gTru (gPB 0 [(14, 0)]))) (gT (gOp dLe (gIx (gPB 0 [(14, 0)]) (gU dNeg (gI 1))) (gV 2)))))
  (sSeq (sUnp (gTg 2 (gTo (gN 5) (gTo (gN 6) gEnd))) (gIx (gU (dFld 15 0) (gB 3)) (gV 4)))
  (sSeq (sExpM (gMM 0 [] 14 S_Row_take (aC (gTu 3 (aC (gV 5) (aC (gV 6) (aC (gV 4) aN)))) aN)))
  (sAug dAddI 4 (gI 1)))))
noncomputable def S_Reaches__row : Sl → List D → Option (D × Sl) := runA 7 (gRow B1_Reaches__row BA_Reaches__row BB_Reaches__row)
theorem ok_Reaches__row {f : Addr} {fd : FuncData} {C14 : Addr} {C15 : Addr} (F : Fun K "_row" "Reaches._row" s_Reaches__row f fd) (ck15 : CK K mg 15 C15) (k_Row : Mak P w K mg base 14 3 ["self"] S_Row___init__) (ck14 : CK K mg 14 C14) (m_len : mg "len" = none) (c_Row_take : MetM P w K mg base 14 "take" 4 ["self", "vertex"] S_Row_take) : FnOk P w K mg base CX0 5 f fd ["self", "start", "error"] (spA K mg 2 S_Reaches__row) :=
  def_okA F sc_Reaches__row rfl fun cdv A outer s H E hr =>
  ss_row (show 4 ≤ 7 by decide) hr.u1 ck15
  (s_if (t_dninP hr.u1 (e_var 1) (pl_fld (c := 15) (j := 1) ck15 (pl_var 0)))
  (ss_one (s_dputN hr.u1 (pl_fld (c := 15) (j := 1) ck15 (pl_var 0)) (e_mkC0 (c := 14) k_Row hr (by decide)) (e_var 1)))
  ss_nil)
  (s_set 4 nd_Reaches__row (e_op od_add (e_var 1) (e_cb cb_len (by rfl) m_len boot_len' ((pl_fld (c := 14) (j := 0) ck14 (pl_var 0))).br)))
  (s_while PassesOwn.never (w_and (t_cmp od_lt (e_var 4) (e_cb cb_len (by rfl) m_len boot_len' (b_fld (c := 15) (j := 0) ck15 (b_var 3)))) (w_and1 (w_or (t_not (t_tru ((pl_fld (c := 14) (j := 0) ck14 (pl_var 0))).br)) (w_or1 (t_cmp od_le (e_ix ((pl_fld (c := 14) (j := 0) ck14 (pl_var 0))).br (e_neg e_int)) (e_var 2)))).t)).t
  (ss_cons (s_unp (e_ix (b_fld (c := 15) (j := 0) ck15 (b_var 3)) (e_var 4)) (g_tup rfl (gl_cons (g_name 5 nd_Reaches__row) (gl_cons (g_name 6 nd_Reaches__row) gl_nil))))
  (ss_cons (s_exprM (em_met c_Row_take hr (by decide) (pl_var 0) (n_cons (e_tup (n_cons (e_var 5) (n_cons (e_var 6) (n_cons (e_var 4) n_nil)))) n_nil)))
  (ss_one (s_augA 4 nd_Reaches__row e_int))))) sc_Reaches__row.nd
/-! Row.length -/
abbrev s_Row_length : Stmt := inClass (topS 12) 2
abbrev N_Row_length : List Str := ["self", "error", "first", "last", "middle"]
theorem sc_Row_length : FnScope N_Row_length ["self", "error"] (defScope s_Row_length) := ⟨rfl, rfl, rfl, by decide +kernel, rfl, by decide +kernel, by decide +kernel⟩
noncomputable def B_Row_length : Sm :=
  (sSeq (sPar [2, 3] (aC (gI 0) (aC (gU dLen (gU (dFld 14 0) (gB 0))) aN)))
  (sSeq (sWhile (gT (gOp dLt (gV 2) (gV 3)))
  (sSeq (sSet 4 (gOp dDiv (gOp dAdd (gV 2) (gV 3)) (gI 2)))
  (sIf (gT (gOp dLe (gIx (gU (dFld 14 0) (gB 0)) (gV 4)) (gV 1)))
  (sSet 2 (gOp dAdd (gV 4) (gI 1)))
  (sSet 3 (gV 4)))))
  (sRet (gV 2))))
noncomputable def S_Row_length : List D → Option D := runK [true, false] 5 B_Row_length
theorem ok_Row_length {f : Addr} {fd : FuncData} {C14 : Addr} (F : Fun K "length" "Row.length" s_Row_length f fd) (ck14 : CK K mg 14 C14) (m_len : mg "len" = none) : FnOk P w K mg base CX0 1 f fd ["self", "error"] (spK K mg [true, false] S_Row_length) :=
  def_okK F sc_Row_length rfl fun cdv A outer s H E hr =>
  (ss_cons (s_par rfl sc_Row_length.nd (n_cons e_int (n_cons (e_cb cb_len (by rfl) m_len boot_len' (b_fld (c := 14) (j := 0) ck14 (b_var 0))) n_nil)))
  (ss_cons (s_while PassesOwn.never (t_cmp od_lt (e_var 2) (e_var 3))
  (ss_cons (s_set 4 sc_Row_length.nd (e_op od_div (e_op od_add (e_var 2) (e_var 3)) e_int))
  (ss_one (s_if (t_cmp od_le (e_ix (b_fld (c := 14) (j := 0) ck14 (b_var 0)) (e_var 4)) (e_var 1))
  (ss_one (s_set 2 sc_Row_length.nd (e_op od_add (e_var 4) e_int)))
  (ss_one (s_set 3 sc_Row_length.nd (e_var 4)))))))
  (ss_one (s_ret (e_var 2)))))
/-! Reaches.stretch -/
abbrev s_Reaches_stretch : Stmt := inClass (topS 13) 1
abbrev N_Reaches_stretch : List Str := ["self", "error", "least", "beyond", "count", "start", "row", "length"]
theorem sc_Reaches_stretch : FnScope N_Reaches_stretch ["self", "error"] (defScope s_Reaches_stretch) := ⟨rfl, rfl, rfl, by decide +kernel, rfl, by decide +kernel, by decide +kernel⟩
noncomputable def B_Reaches_stretch : Sm :=
  (sSeq (sSet 2 (gI 0))
  (sSeq (sSet 3 (gC .non))
  (sSeq (sSet 4 (gI 0))
  (sSeq (sSet 5 (gI 0))
  (sSeq (sWhile (gT (gOp dLt (gV 5) (gU dLen (gPB 0 [(15, 0)]))))
  (sLook 15 6 S_Reaches__row (aC (gV 5) (aC (gV 1) aN))
  (sSeq (sSet 7 (gMeth 14 S_Row_length (gB 6) (aC (gV 1) aN)))
  (sSeq (sSet 2 (gA dMax2 (aC (gV 2) (aC (gIx (gU (dFld 14 0) (gB 6)) (gOp dSub (gV 7) (gI 1))) aN))))
  (sSeq (sIf (gAnd (gT (gOp dLt (gV 7) (gU dLen (gU (dFld 14 0) (gB 6))))) (gOr (gT (gOp dIsN (gB 3) (gC .non))) (gT (gOp dLt (gIx (gU (dFld 14 0) (gB 6)) (gV 7)) (gV 3)))))
  (sSet 3 (gIx (gU (dFld 14 0) (gB 6)) (gV 7)))
  sNil)
  (sSeq (sAug dAddI 5 (gV 7))
  (sAug dAddI 4 (gI 1))))))))
  (sRetM (gTu 3 (aC (gV 2) (aC (gV 3) (aC (gV 4) aN))))))))))
noncomputable def S_Reaches_stretch : Sl → List D → Option (D × Sl) := runM 8 B_Reaches_stretch
theorem ok_Reaches_stretch {f : Addr} {fd : FuncData} {C14 : Addr} {C15 : Addr} (F : Fun K "stretch" "Reaches.stretch" s_Reaches_stretch f fd) (ck15 : CK K mg 15 C15) (m_len : mg "len" = none) (c_Reaches__row : MetA P w K mg base 15 "_row" 5 ["self", "start", "error"] S_Reaches__row) (c_Row_length : MetK P w K mg base 14 "length" 1 ["self", "error"] [true, false] S_Row_length) (ck14 : CK K mg 14 C14) (m_max : mg "max" = none) : FnOk P w K mg base CX0 6 f fd ["self", "error"] (spM K mg 1 S_Reaches_stretch) :=
  def_okM F sc_Reaches_stretch rfl fun cdv A outer s H E hr =>
  (ss_cons (s_set 2 sc_Reaches_stretch.nd e_int)
  (ss_cons (s_set 3 sc_Reaches_stretch.nd e_non)
  (ss_cons (s_set 4 sc_Reaches_stretch.nd e_int)
  (ss_cons (s_set 5 sc_Reaches_stretch.nd e_int)
  (ss_cons (s_while PassesOwn.never (t_cmp od_lt (e_var 5) (e_cb cb_len (by rfl) m_len boot_len' ((pl_fld (c := 15) (j := 0) ck15 (pl_var 0))).br))
  (ss_look c_Reaches__row hr (by decide) (n_cons (e_var 5) (n_cons (e_var 1) n_nil))
  (ss_cons (s_set 7 sc_Reaches_stretch.nd (e_metK c_Row_length hr (by decide) (b_var 6) (m_sh (e_var 1) m_nil)))
  (ss_cons (s_set 2 sc_Reaches_stretch.nd (e_cba (cb_max2 rfl) (by rfl) m_max boot_max' (n_cons (e_var 2) (n_cons (e_ix (b_fld (c := 14) (j := 0) ck14 (b_var 6)) (e_op od_sub (e_var 7) e_int)) n_nil)).a))
  (ss_cons (s_if (w_and (t_cmp od_lt (e_var 7) (e_cb cb_len (by rfl) m_len boot_len' (b_fld (c := 14) (j := 0) ck14 (b_var 6)))) (w_and1 (w_or (t_cmpB ob_isN (b_var 3) e_non.bo) (w_or1 (t_cmp od_lt (e_ix (b_fld (c := 14) (j := 0) ck14 (b_var 6)) (e_var 7)) (e_var 3)))).t)).t
  (ss_one (s_set 3 sc_Reaches_stretch.nd (e_ix (b_fld (c := 14) (j := 0) ck14 (b_var 6)) (e_var 7))))
  ss_nil)
  (ss_cons (s_augA 5 sc_Reaches_stretch.nd (e_var 7))
  (ss_one (s_augA 4 sc_Reaches_stretch.nd e_int)))))) sc_Reaches_stretch.nd))
  (ss_one (s_retM (e_tup (n_cons (e_var 2) (n_cons (e_var 3) (n_cons (e_var 4) n_nil)))))))))))
/-! enough_error -/
abbrev s_enough_error : Stmt := topS 17
abbrev N_enough_error : List Str := ["points", "heights", "_", "height"]
theorem sc_enough_error : FnScope N_enough_error ["points"] (defScope s_enough_error) := ⟨rfl, rfl, rfl, by decide +kernel, rfl, by decide +kernel, by decide +kernel⟩
noncomputable def B_enough_error : Sm :=
  (sSeq (sSet 1 (gL (gLc [2, 3] (gIt (gV 0)) (gTg 2 (gTo (gN 2) (gTo (gN 3) gEnd))) gYes (gV 3))))
  (sRet (gOp dSub (gU dMax (gB 1)) (gU dMin (gB 1)))))
noncomputable def S_enough_error : List D → Option D := runB 4 B_enough_error
theorem ok_enough_error {f : Addr} {fd : FuncData} (F : Fun K "enough_error" "enough_error" s_enough_error f fd) (m_max : mg "max" = none) (m_min : mg "min" = none) : FnOk P w K mg base CX0 1 f fd ["points"] (spD K mg 1 S_enough_error) :=
  def_ok F sc_enough_error fun cdv A outer s H E hr =>
  (ss_cons (s_setLcS 1 (own := [("_", 2), ("height", 3)]) rfl sc_enough_error.nd (i_list (e_var 0)).c (blkOk_by (own := [("_", 2), ("height", 3)]) (N := N_enough_error) (sc := defScope s_enough_error) (by decide +kernel)) (by decide) (fun _ _ _ _ _ => (g_tup rfl (gl_cons (g_name 2 sc_enough_error.nd) (gl_cons (g_name 3 sc_enough_error.nd) gl_nil)))) (fun _ _ _ _ _ => ts_nil) (fun _ _ _ _ _ => (e_var 3)))
  (ss_one (s_ret (e_op od_sub (e_cb (cb_max rfl) (by rfl) m_max boot_max' (b_var 1)) (e_cb (cb_min rfl) (by rfl) m_min boot_min' (b_var 1))))))
/-! least_error -/
abbrev s_least_error : Stmt := topS 15
abbrev N_least_error : List Str := ["points", "pieces", "reaches", "below", "above", "between"]
theorem sc_least_error : FnScope N_least_error ["points", "pieces"] (defScope s_least_error) := ⟨rfl, rfl, rfl, by decide +kernel, rfl, by decide +kernel, by decide +kernel⟩
noncomputable def B_least_error : Sm :=
  (sSeq (sIf (gNot (gTru (gB 0)))
  (sRet (gI 0))
  sNil)
  (sSeq (sSetN 2 (gMk 15 S_Reaches___init__ (aC (gV 0) aN)))
  (sSeq (sSetM 3 (gMM 2 [] 15 S_Reaches_stretch (aC (gI 0) aN)))
  (sSeq (sIf (gT (gOp dLe (gIx (gB 3) (gI 2)) (gV 1)))
  (sRet (gI 0))
  sNil)
  (sSeq (sSetM 4 (gMM 2 [] 15 S_Reaches_stretch (aC (gCall S_enough_error (aC (gV 0) aN)) aN)))
  (sSeq (sWhile (gT (gOp dLt (gIx (gB 3) (gI 1)) (gIx (gB 4) (gI 0))))
  (sSeq (sSetM 5 (gMM 2 [] 15 S_Reaches_stretch (aC (gOp dDiv (gOp dAdd (gIx (gB 3) (gI 1)) (gIx (gB 4) (gI 0))) (gI 2)) aN)))
  (sIf (gT (gOp dLe (gIx (gB 5) (gI 2)) (gV 1)))
  (sSet 4 (gV 5))
  (sSet 3 (gV 5)))))
  (sRet (gIx (gB 4) (gI 0)))))))))
noncomputable def S_least_error : List D → Option D := runB 6 B_least_error
theorem ok_least_error {f : Addr} {fd : FuncData} (F : Fun K "least_error" "least_error" s_least_error f fd) (k_Reaches : Mak P w K mg base 15 1 ["self", "points"] S_Reaches___init__) (c_Reaches_stretch : MetM P w K mg base 15 "stretch" 6 ["self", "error"] S_Reaches_stretch) (c_enough_error : Cal P w K mg base "enough_error" 1 ["points"] S_enough_error) : FnOk P w K mg base CX0 7 f fd ["points", "pieces"] (spD K mg 2 S_least_error) :=
  def_ok F sc_least_error fun cdv A outer s H E hr =>
  (ss_cons (s_if (t_not (t_tru (b_var 0)))
  (ss_one (s_ret e_int))
  ss_nil)
  (ss_cons (s_setN 2 sc_least_error.nd (e_mkC (c := 15) k_Reaches hr (by decide) (n_cons (e_var 0) n_nil)))
  (ss_cons (s_setM 3 sc_least_error.nd (em_met c_Reaches_stretch hr (by decide) (pl_var 2) (n_cons e_int n_nil)))
  (ss_cons (s_if (t_cmp od_le (e_ix (b_var 3) e_int) (e_var 1))
  (ss_one (s_ret e_int))
  ss_nil)
  (ss_cons (s_setM 4 sc_least_error.nd (em_met c_Reaches_stretch hr (by decide) (pl_var 2) (n_cons (e_callC c_enough_error hr (by decide) (n_cons (e_var 0) n_nil)) n_nil)))
  (ss_cons (s_while PassesOwn.never (t_cmp od_lt (e_ix (b_var 3) e_int) (e_ix (b_var 4) e_int))
  (ss_cons (s_setM 5 sc_least_error.nd (em_met c_Reaches_stretch hr (by decide) (pl_var 2) (n_cons (e_op od_div (e_op od_add (e_ix (b_var 3) e_int) (e_ix (b_var 4) e_int)) e_int) n_nil)))
  (ss_one (s_if (t_cmp od_le (e_ix (b_var 5) e_int) (e_var 1))
  (ss_one (s_set 4 sc_least_error.nd (e_var 5)))
  (ss_one (s_set 3 sc_least_error.nd (e_var 5)))))))
  (ss_one (s_ret (e_ix (b_var 4) e_int)))))))))
/-! staircase -/
abbrev s_staircase : Stmt := topS 16
abbrev N_staircase : List Str := ["points", "reaches", "here", "steps", "ahead", "there"]
theorem sc_staircase : FnScope N_staircase ["points"] (defScope s_staircase) := ⟨rfl, rfl, rfl, by decide +kernel, rfl, by decide +kernel, by decide +kernel⟩
noncomputable def B_staircase : Sm :=
  (sSeq (sIf (gNot (gTru (gB 0)))
  (sRet (gL (aC (gTu 2 (aC (gI 0) (aC (gI 0) aN))) aN)))
  sNil)
  (sSeq (sSetN 1 (gMk 15 S_Reaches___init__ (aC (gV 0) aN)))
  (sSeq (sSetM 2 (gMM 1 [] 15 S_Reaches_stretch (aC (gI 0) aN)))
  (sSeq (sSetO 3 (aC (gTu 2 (aC (gI 0) (aC (gIx (gB 2) (gI 2)) aN))) aN))
  (sSeq (sSetL1M 4 (gMM 1 [] 15 S_Reaches_stretch (aC (gCall S_enough_error (aC (gV 0) aN)) aN)))
  (sSeq (sWhile (gTru (gB 4))
  (sSeq (sSet 5 (gIx (gB 4) (gU dNeg (gI 1))))
  (sIf (gT (gOp dEq (gIx (gB 2) (gI 2)) (gIx (gB 5) (gI 2))))
  (sSetM 2 (gMPop 4 []))
  (sIf (gT (gOp dEq (gIx (gB 2) (gI 1)) (gIx (gB 5) (gI 0))))
  (sSeq (sSetM 2 (gMPop 4 []))
  (sApp 3 [] (gTu 2 (aC (gIx (gB 2) (gI 0)) (aC (gIx (gB 2) (gI 2)) aN)))))
  (sAppM 4 (gMM 1 [] 15 S_Reaches_stretch (aC (gOp dDiv (gOp dAdd (gIx (gB 2) (gI 1)) (gIx (gB 5) (gI 0))) (gI 2)) aN)))))))
  (sFrz 3 (sRet (gV 3)))))))))
noncomputable def S_staircase : List D → Option D := runB 6 B_staircase
theorem ok_staircase {f : Addr} {fd : FuncData} (F : Fun K "staircase" "staircase" s_staircase f fd) (k_Reaches : Mak P w K mg base 15 1 ["self", "points"] S_Reaches___init__) (c_Reaches_stretch : MetM P w K mg base 15 "stretch" 6 ["self", "error"] S_Reaches_stretch) (c_enough_error : Cal P w K mg base "enough_error" 1 ["points"] S_enough_error) : FnOk P w K mg base CX0 7 f fd ["points"] (spD K mg 1 S_staircase) :=
  def_ok F sc_staircase fun cdv A outer s H E hr =>
  (ss_cons (s_if (t_not (t_tru (b_var 0)))
  (ss_one (s_ret (el_lst (n_cons (e_tup (n_cons e_int (n_cons e_int n_nil))) n_nil)).fz))
  ss_nil)
  (ss_cons (s_setN 1 sc_staircase.nd (e_mkC (c := 15) k_Reaches hr (by decide) (n_cons (e_var 0) n_nil)))
  (ss_cons (s_setM 2 sc_staircase.nd (em_met c_Reaches_stretch hr (by decide) (pl_var 1) (n_cons e_int n_nil)))
  (ss_cons (s_setO 3 sc_staircase.nd (el_lst (n_cons (e_tup (n_cons e_int (n_cons (e_ix (b_var 2) e_int) n_nil))) n_nil)))
  (ss_cons (s_setL1M 4 sc_staircase.nd (em_met c_Reaches_stretch hr (by decide) (pl_var 1) (n_cons (e_callC c_enough_error hr (by decide) (n_cons (e_var 0) n_nil)) n_nil)))
  (ss_cons (s_while PassesOwn.never (t_tru (b_var 4))
  (ss_cons (s_set 5 sc_staircase.nd (e_ix (b_var 4) (e_neg e_int)))
  (ss_one (s_if (t_cmpB (ob_eq hr.units) (e_ix (b_var 2) e_int).bo (e_ix (b_var 5) e_int).bo)
  (ss_one (s_setM 2 sc_staircase.nd (em_pop (pl_var 4))))
  (ss_one (s_if (t_cmpB (ob_eq hr.units) (e_ix (b_var 2) e_int).bo (e_ix (b_var 5) e_int).bo)
  (ss_cons (s_setM 2 sc_staircase.nd (em_pop (pl_var 4)))
  (ss_one (s_app (pl_var 3) (e_tup (n_cons (e_ix (b_var 2) e_int) (n_cons (e_ix (b_var 2) e_int) n_nil))))))
  (ss_one (s_appM (i := 4) (em_met c_Reaches_stretch hr (by decide) (pl_var 1) (n_cons (e_op od_div (e_op od_add (e_ix (b_var 2) e_int) (e_ix (b_var 5) e_int)) e_int) n_nil))))))))))
  (ss_one (s_frz 3 (s_ret (e_var 3))))))))))
/-! _law_cell -/
abbrev s__law_cell : Stmt := topS 19
abbrev N__law_cell : List Str := ["script", "k"]
theorem sc__law_cell : FnScope N__law_cell ["script", "k"] (defScope s__law_cell) := ⟨rfl, rfl, rfl, by decide +kernel, rfl, by decide +kernel, by decide +kernel⟩
noncomputable def B__law_cell : Sm :=
  (sSeq (sIf (gT (gOp dLt (gV 1) (gU dLen (gB 0))))
  (sRet (gIx (gB 0) (gV 1)))
  sNil)
  (sRet (gI 0)))
noncomputable def S__law_cell : List D → Option D := runB 2 B__law_cell
theorem ok__law_cell {f : Addr} {fd : FuncData} (F : Fun K "_law_cell" "_law_cell" s__law_cell f fd) (m_len : mg "len" = none) : FnOk P w K mg base CX0 1 f fd ["script", "k"] (spD K mg 2 S__law_cell) :=
  def_ok F sc__law_cell fun cdv A outer s H E hr =>
  (ss_cons (s_if (t_cmp od_lt (e_var 1) (e_cb cb_len (by rfl) m_len boot_len' (b_var 0)))
  (ss_one (s_ret (e_ix (b_var 0) (e_var 1))))
  ss_nil)
  (ss_one (s_ret e_int)))
/-! _law_digits -/
abbrev s__law_digits : Stmt := topS 20
abbrev N__law_digits : List Str := ["cell", "many", "count", "digits", "rest", "k", "mixed"]
theorem sc__law_digits : FnScope N__law_digits ["cell", "many", "count"] (defScope s__law_digits) := ⟨rfl, rfl, rfl, by decide +kernel, rfl, by decide +kernel, by decide +kernel⟩
noncomputable def B__law_digits : Sm :=
  (sSeq (sSetO 3 aN)
  (sSeq (sSet 4 (gV 0))
  (sSeq (sFor (gRng (aC (gV 2) aN)) (gN 5)
  (sIf (gT (gOp dGe (gV 0) (gOp dPow (gI 10) (gI 18))))
  (sSeq (sApp 3 [] (gOp dMod (gU dInt (gB 4)) (gV 1)))
  (sSet 4 (gOp dDiv (gV 4) (gV 1))))
  (sSeq (sSet 6 (gOp dMod (gU dInt (gOp dAdd (gOp dAdd (gOp dMul (gV 0) (gI 48271)) (gOp dMul (gV 5) (gI 69621))) (gI 1013))) (gI 2147483647)))
  (sSeq (sSet 6 (gOp dMod (gU dInt (gOp dAdd (gOp dAdd (gOp dMul (gV 6) (gV 6)) (gOp dMul (gI 7) (gV 6))) (gV 5))) (gI 2147483629)))
  (sApp 3 [] (gOp dMod (gU dInt (gOp dDiv (gV 6) (gI 31))) (gV 1)))))))
  (sFrz 3 (sRet (gV 3))))))
noncomputable def S__law_digits : List D → Option D := runB 7 B__law_digits
theorem ok__law_digits {f : Addr} {fd : FuncData} (F : Fun K "_law_digits" "_law_digits" s__law_digits f fd) (m_range : mg "range" = none) (m_int : mg "int" = none) : FnOk P w K mg base CX0 1 f fd ["cell", "many", "count"] (spD K mg 3 S__law_digits) :=
  def_ok F sc__law_digits fun cdv A outer s H E hr =>
  (ss_cons (s_setO 3 sc__law_digits.nd (el_lst n_nil))
  (ss_cons (s_set 4 sc__law_digits.nd (e_var 0))
  (ss_cons (s_for PassesOwn.never rfl (i_rng1 (by rfl) m_range (n_cons (e_var 2) n_nil)).fb (g_name 5 sc__law_digits.nd)
  (ss_one (s_if (t_cmp od_ge (e_var 0) (e_op od_pow e_int e_int))
  (ss_cons (s_app (pl_var 3) (e_op od_mod (e_cty cb_int (by rfl) m_int boot_int' (b_var 4)) (e_var 1)))
  (ss_one (s_set 4 sc__law_digits.nd (e_op od_div (e_var 4) (e_var 1)))))
  (ss_cons (s_set 6 sc__law_digits.nd (e_op od_mod (e_cty cb_int (by rfl) m_int boot_int' (e_op od_add (e_op od_add (e_op od_mul (e_var 0) e_int) (e_op od_mul (e_var 5) e_int)) e_int).bo) e_int))
  (ss_cons (s_set 6 sc__law_digits.nd (e_op od_mod (e_cty cb_int (by rfl) m_int boot_int' (e_op od_add (e_op od_add (e_op od_mul (e_var 6) (e_var 6)) (e_op od_mul e_int (e_var 6))) (e_var 5)).bo) e_int))
  (ss_one (s_app (pl_var 3) (e_op od_mod (e_cty cb_int (by rfl) m_int boot_int' (e_op od_div (e_var 6) e_int).bo) (e_var 1)))))))))
  (ss_one (s_frz 3 (s_ret (e_var 3)))))))
/-! _law_points -/
abbrev s__law_points : Stmt := topS 21
abbrev N__law_points : List Str := ["script", "place", "most", "cell", "size", "style", "gaps", "rises", "kinds", "x", "y", "slope", "points", "k"]
theorem sc__law_points : FnScope N__law_points ["script", "place", "most"] (defScope s__law_points) := ⟨rfl, rfl, rfl, by decide +kernel, rfl, by decide +kernel, by decide +kernel⟩
noncomputable def B__law_points : Sm :=
  (sSeq (sSet 3 (gCall S__law_cell (aC (gV 0) (aC (gV 1) aN))))
  (sSeq (sSet 4 (gOp dMod (gU dInt (gB 3)) (gOp dAdd (gV 2) (gI 1))))
  (sSeq (sSet 5 (gOp dMod (gU dInt (gOp dDiv (gV 3) (gOp dAdd (gV 2) (gI 1)))) (gI 6)))
  (sSeq (sSet 6 (gCall S__law_digits (aC (gCall S__law_cell (aC (gV 0) (aC (gOp dAdd (gV 1) (gI 1)) aN))) (aC (gIx (gL (aC (gI 1) (aC (gI 3) (aC (gI 9) (aC (gI 3) (aC (gOp dPow (gI 10) (gI 9)) (aC (gI 2) aN))))))) (gV 5)) (aC (gOp dAdd (gV 4) (gI 1)) aN)))))
  (sSeq (sSet 7 (gCall S__law_digits (aC (gCall S__law_cell (aC (gV 0) (aC (gOp dAdd (gV 1) (gI 2)) aN))) (aC (gIx (gL (aC (gI 2) (aC (gI 7) (aC (gI 4) (aC (gI 30) (aC (gOp dPow (gI 10) (gI 9)) (aC (gI 5) aN))))))) (gV 5)) (aC (gOp dAdd (gV 4) (gI 1)) aN)))))
  (sSeq (sSet 8 (gCall S__law_digits (aC (gCall S__law_cell (aC (gV 0) (aC (gOp dAdd (gV 1) (gI 3)) aN))) (aC (gI 12) (aC (gOp dAdd (gV 4) (gI 1)) aN)))))
  (sSeq (sSet 9 (gOp dSub (gU dInt (gIx (gB 6) (gV 4))) (gI 4)))
  (sSeq (sSet 10 (gOp dSub (gU dInt (gIx (gB 7) (gV 4))) (gI 3)))
  (sSeq (sSet 11 (gOp dSub (gOp dMod (gU dInt (gIx (gB 8) (gV 4))) (gI 5)) (gI 2)))
  (sSeq (sSetO 12 aN)
  (sSeq (sFor (gRng (aC (gV 4) aN)) (gN 13)
  (sSeq (sSet 9 (gOp dAdd (gOp dAdd (gV 9) (gI 1)) (gIx (gB 6) (gV 13))))
  (sSeq (sSet 10 (gOp dAdd (gOp dAdd (gV 10) (gOp dMul (gV 11) (gOp dAdd (gI 1) (gIx (gB 6) (gV 13))))) (gIx (gL (aC (gI 0) (aC (gI 0) (aC (gI 0) (aC (gI 0) (aC (gI 0) (aC (gI 1) (aC (gOp dSub (gI 0) (gI 1)) (aC (gI 2) (aC (gOp dSub (gI 0) (gI 3)) (aC (gIx (gB 7) (gV 13)) (aC (gOp dSub (gI 0) (gIx (gB 7) (gV 13))) (aC (gI 0) aN))))))))))))) (gU dInt (gIx (gB 8) (gV 13))))))
  (sApp 12 [] (gTu 2 (aC (gV 9) (aC (gV 10) aN)))))))
  (sFrz 12 (sRet (gV 12))))))))))))))
noncomputable def S__law_points : List D → Option D := runB 14 B__law_points
theorem ok__law_points {f : Addr} {fd : FuncData} (F : Fun K "_law_points" "_law_points" s__law_points f fd) (c__law_cell : Cal P w K mg base "_law_cell" 1 ["script", "k"] S__law_cell) (m_int : mg "int" = none) (c__law_digits : Cal P w K mg base "_law_digits" 1 ["cell", "many", "count"] S__law_digits) (m_range : mg "range" = none) : FnOk P w K mg base CX0 2 f fd ["script", "place", "most"] (spD K mg 3 S__law_points) :=
  def_ok F sc__law_points fun cdv A outer s H E hr =>
  (ss_cons (s_set 3 sc__law_points.nd (e_callC c__law_cell hr (by decide) (n_cons (e_var 0) (n_cons (e_var 1) n_nil))))
  (ss_cons (s_set 4 sc__law_points.nd (e_op od_mod (e_cty cb_int (by rfl) m_int boot_int' (b_var 3)) (e_op od_add (e_var 2) e_int)))
  (ss_cons (s_set 5 sc__law_points.nd (e_op od_mod (e_cty cb_int (by rfl) m_int boot_int' (e_op od_div (e_var 3) (e_op od_add (e_var 2) e_int)).bo) e_int))
  (ss_cons (s_set 6 sc__law_points.nd (e_callC c__law_digits hr (by decide) (n_cons (e_callC c__law_cell hr (by decide) (n_cons (e_var 0) (n_cons (e_op od_add (e_var 1) e_int) n_nil))) (n_cons (e_ix (el_lst (n_cons e_int (n_cons e_int (n_cons e_int (n_cons e_int (n_cons (e_op od_pow e_int e_int) (n_cons e_int n_nil))))))).fz.bo (e_var 5)) (n_cons (e_op od_add (e_var 4) e_int) n_nil)))))
  (ss_cons (s_set 7 sc__law_points.nd (e_callC c__law_digits hr (by decide) (n_cons (e_callC c__law_cell hr (by decide) (n_cons (e_var 0) (n_cons (e_op od_add (e_var 1) e_int) n_nil))) (n_cons (e_ix (el_lst (n_cons e_int (n_cons e_int (n_cons e_int (n_cons e_int (n_cons (e_op od_pow e_int e_int) (n_cons e_int n_nil))))))).fz.bo (e_var 5)) (n_cons (e_op od_add (e_var 4) e_int) n_nil)))))
  (ss_cons (s_set 8 sc__law_points.nd (e_callC c__law_digits hr (by decide) (n_cons (e_callC c__law_cell hr (by decide) (n_cons (e_var 0) (n_cons (e_op od_add (e_var 1) e_int) n_nil))) (n_cons e_int (n_cons (e_op od_add (e_var 4) e_int) n_nil)))))
  (ss_cons (s_set 9 sc__law_points.nd (e_op od_sub (e_cty cb_int (by rfl) m_int boot_int' (e_ix (b_var 6) (e_var 4)).bo) e_int))
  (ss_cons (s_set 10 sc__law_points.nd (e_op od_sub (e_cty cb_int (by rfl) m_int boot_int' (e_ix (b_var 7) (e_var 4)).bo) e_int))
  (ss_cons (s_set 11 sc__law_points.nd (e_op od_sub (e_op od_mod (e_cty cb_int (by rfl) m_int boot_int' (e_ix (b_var 8) (e_var 4)).bo) e_int) e_int))
  (ss_cons (s_setO 12 sc__law_points.nd (el_lst n_nil))
  (ss_cons (s_for PassesOwn.never rfl (i_rng1 (by rfl) m_range (n_cons (e_var 4) n_nil)).fb (g_name 13 sc__law_points.nd)
  (ss_cons (s_set 9 sc__law_points.nd (e_op od_add (e_op od_add (e_var 9) e_int) (e_ix (b_var 6) (e_var 13))))
  (ss_cons (s_set 10 sc__law_points.nd (e_op od_add (e_op od_add (e_var 10) (e_op od_mul (e_var 11) (e_op od_add e_int (e_ix (b_var 6) (e_var 13))))) (e_ix (el_lst (n_cons e_int (n_cons e_int (n_cons e_int (n_cons e_int (n_cons e_int (n_cons e_int (n_cons (e_op od_sub e_int e_int) (n_cons e_int (n_cons (e_op od_sub e_int e_int) (n_cons (e_ix (b_var 7) (e_var 13)) (n_cons (e_op od_sub e_int (e_ix (b_var 7) (e_var 13))) (n_cons e_int n_nil))))))))))))).fz.bo (e_cty cb_int (by rfl) m_int boot_int' (e_ix (b_var 8) (e_var 13)).bo))))
  (ss_one (s_app (pl_var 12) (e_tup (n_cons (e_var 9) (n_cons (e_var 10) n_nil))))))))
  (ss_one (s_frz 12 (s_ret (e_var 12)))))))))))))))
/-! _law_three -/
abbrev s__law_three : Stmt := topS 22
abbrev N__law_three : List Str := ["one", "two", "three", "error", "height"]
theorem sc__law_three : FnScope N__law_three ["one", "two", "three", "error"] (defScope s__law_three) := ⟨rfl, rfl, rfl, by decide +kernel, rfl, by decide +kernel, by decide +kernel⟩
noncomputable def B__law_three : Sm :=
  (sSeq (sSet 4 (gOp dSub (gOp dSub (gOp dMul (gIx (gB 1) (gI 1)) (gOp dSub (gIx (gB 2) (gI 0)) (gIx (gB 0) (gI 0)))) (gOp dMul (gIx (gB 0) (gI 1)) (gOp dSub (gIx (gB 2) (gI 0)) (gIx (gB 1) (gI 0))))) (gOp dMul (gIx (gB 2) (gI 1)) (gOp dSub (gIx (gB 1) (gI 0)) (gIx (gB 0) (gI 0))))))
  (sRet (gOp dLe (gU dAbs (gB 4)) (gOp dMul (gOp dMul (gI 2) (gV 3)) (gOp dSub (gIx (gB 2) (gI 0)) (gIx (gB 0) (gI 0)))))))
noncomputable def S__law_three : List D → Option D := runB 5 B__law_three
theorem ok__law_three {f : Addr} {fd : FuncData} (F : Fun K "_law_three" "_law_three" s__law_three f fd) (m_abs : mg "abs" = none) : FnOk P w K mg base CX0 1 f fd ["one", "two", "three", "error"] (spD K mg 4 S__law_three) :=
  def_ok F sc__law_three fun cdv A outer s H E hr =>
  (ss_cons (s_set 4 sc__law_three.nd (e_op od_sub (e_op od_sub (e_op od_mul (e_ix (b_var 1) e_int) (e_op od_sub (e_ix (b_var 2) e_int) (e_ix (b_var 0) e_int))) (e_op od_mul (e_ix (b_var 0) e_int) (e_op od_sub (e_ix (b_var 2) e_int) (e_ix (b_var 1) e_int)))) (e_op od_mul (e_ix (b_var 2) e_int) (e_op od_sub (e_ix (b_var 1) e_int) (e_ix (b_var 0) e_int)))))
  (ss_one (s_ret (e_cmp od_le (e_cb cb_abs (by rfl) m_abs boot_abs' (b_var 4)) (e_op od_mul (e_op od_mul e_int (e_var 3)) (e_op od_sub (e_ix (b_var 2) e_int) (e_ix (b_var 0) e_int)))))))
/-! _law_fits -/
abbrev s__law_fits : Stmt := topS 23
abbrev N__law_fits : List Str := ["points", "error", "k", "j", "i"]
theorem sc__law_fits : FnScope N__law_fits ["points", "error"] (defScope s__law_fits) := ⟨rfl, rfl, rfl, by decide +kernel, rfl, by decide +kernel, by decide +kernel⟩
noncomputable def B__law_fits : Sm :=
  (sSeq (sFor (gRng (aC (gI 2) (aC (gU dLen (gB 0)) aN))) (gN 2)
  (sFor (gRng (aC (gI 1) (aC (gV 2) aN))) (gN 3)
  (sFor (gRng (aC (gV 3) aN)) (gN 4)
  (sIf (gNot (gTru (gCall S__law_three (aC (gIx (gB 0) (gV 4)) (aC (gIx (gB 0) (gV 3)) (aC (gIx (gB 0) (gV 2)) (aC (gV 1) aN)))))))
  (sRet (gC (.bl false)))
  sNil))))
  (sRet (gC (.bl true))))
noncomputable def S__law_fits : List D → Option D := runB 5 B__law_fits
theorem ok__law_fits {f : Addr} {fd : FuncData} (F : Fun K "_law_fits" "_law_fits" s__law_fits f fd) (m_len : mg "len" = none) (m_range : mg "range" = none) (c__law_three : Cal P w K mg base "_law_three" 1 ["one", "two", "three", "error"] S__law_three) : FnOk P w K mg base CX0 2 f fd ["points", "error"] (spD K mg 2 S__law_fits) :=
  def_ok F sc__law_fits fun cdv A outer s H E hr =>
  (ss_cons (s_for PassesOwn.never rfl (i_rng2 (by rfl) m_range (n_cons e_int (n_cons (e_cb cb_len (by rfl) m_len boot_len' (b_var 0)) n_nil))).fb (g_name 2 sc__law_fits.nd)
  (ss_one (s_for PassesOwn.never rfl (i_rng2 (by rfl) m_range (n_cons e_int (n_cons (e_var 2) n_nil))).fb (g_name 3 sc__law_fits.nd)
  (ss_one (s_for PassesOwn.never rfl (i_rng1 (by rfl) m_range (n_cons (e_var 3) n_nil)).fb (g_name 4 sc__law_fits.nd)
  (ss_one (s_if (t_not (t_tru (e_callC c__law_three hr (by decide) (n_cons (e_ix (b_var 0) (e_var 4)) (n_cons (e_ix (b_var 0) (e_var 3)) (n_cons (e_ix (b_var 0) (e_var 2)) (n_cons (e_var 1) n_nil))))).bo))
  (ss_one (s_ret e_bl))
  ss_nil)))))))
  (ss_one (s_ret e_bl)))
/-! _law_starts -/
abbrev s__law_starts : Stmt := topS 24
abbrev N__law_starts : List Str := ["points", "error", "starts", "k"]
theorem sc__law_starts : FnScope N__law_starts ["points", "error"] (defScope s__law_starts) := ⟨rfl, rfl, rfl, by decide +kernel, rfl, by decide +kernel, by decide +kernel⟩
noncomputable def B__law_starts : Sm :=
  (sSeq (sSetO 2 aN)
  (sSeq (sFor (gRng (aC (gU dLen (gB 0)) aN)) (gN 3)
  (sIf (gOr (gT (gOp dEq (gU dLen (gB 2)) (gI 0))) (gNot (gTru (gCall S__law_fits (aC (gL (gSl (gB 0) (gSo (gIx (gB 2) (gOp dSub (gU dLen (gB 2)) (gI 1)))) (gSo (gOp dAdd (gV 3) (gI 1))))) (aC (gV 1) aN))))))
  (sApp 2 [] (gV 3))
  sNil))
  (sFrz 2 (sRet (gV 2)))))
noncomputable def S__law_starts : List D → Option D := runB 4 B__law_starts
theorem ok__law_starts {f : Addr} {fd : FuncData} (F : Fun K "_law_starts" "_law_starts" s__law_starts f fd) (m_len : mg "len" = none) (m_range : mg "range" = none) (c__law_fits : Cal P w K mg base "_law_fits" 2 ["points", "error"] S__law_fits) : FnOk P w K mg base CX0 3 f fd ["points", "error"] (spD K mg 2 S__law_starts) :=
  def_ok F sc__law_starts fun cdv A outer s H E hr =>
  (ss_cons (s_setO 2 sc__law_starts.nd (el_lst n_nil))
  (ss_cons (s_for PassesOwn.never rfl (i_rng1 (by rfl) m_range (n_cons (e_cb cb_len (by rfl) m_len boot_len' (b_var 0)) n_nil)).fb (g_name 3 sc__law_starts.nd)
  (ss_one (s_if (w_or (t_cmpB (ob_eq hr.units) (e_cb cb_len (by rfl) m_len boot_len' (b_var 2)).bo e_int.bo) (w_or1 (t_not (t_tru (e_callC c__law_fits hr (by decide) (n_cons (el_sl (b_var 0) (o_so (e_ix (b_var 2) (e_op od_sub (e_cb cb_len (by rfl) m_len boot_len' (b_var 2)) e_int))) (o_so (e_op od_add (e_var 3) e_int))).fz (n_cons (e_var 1) n_nil))).bo)))).t
  (ss_one (s_app (pl_var 2) (e_var 3)))
  ss_nil)))
  (ss_one (s_frz 2 (s_ret (e_var 2))))))
/-! _law_count -/
abbrev s__law_count : Stmt := topS 25
abbrev N__law_count : List Str := ["points", "error"]
theorem sc__law_count : FnScope N__law_count ["points", "error"] (defScope s__law_count) := ⟨rfl, rfl, rfl, by decide +kernel, rfl, by decide +kernel, by decide +kernel⟩
noncomputable def B__law_count : Sm :=
  (sRet (gU dLen (gCall S__law_starts (aC (gV 0) (aC (gV 1) aN)))))
noncomputable def S__law_count : List D → Option D := runB 2 B__law_count
theorem ok__law_count {f : Addr} {fd : FuncData} (F : Fun K "_law_count" "_law_count" s__law_count f fd) (c__law_starts : Cal P w K mg base "_law_starts" 3 ["points", "error"] S__law_starts) (m_len : mg "len" = none) : FnOk P w K mg base CX0 4 f fd ["points", "error"] (spD K mg 2 S__law_count) :=
  def_ok F sc__law_count fun cdv A outer s H E hr =>
  (ss_one (s_ret (e_cb cb_len (by rfl) m_len boot_len' (e_callC c__law_starts hr (by decide) (n_cons (e_var 0) (n_cons (e_var 1) n_nil))).bo)))
/-! law -/
abbrev s_law : Stmt := topS 26
abbrev N_law : List Str := ["script", "points", "pieces", "given", "error", "steps", "k", "count", "x", "y"]
theorem sc_law : FnScope N_law ["script"] (defScope s_law) := ⟨rfl, rfl, rfl, by decide +kernel, rfl, by decide +kernel, by decide +kernel⟩
noncomputable def B_law : Sm :=
  (sSeq (sSet 1 (gCall S__law_points (aC (gV 0) (aC (gI 0) (aC (gI 9) aN)))))
  (sSeq (sIf (gT (gOp dEq (gOp dMod (gU dInt (gCall S__law_cell (aC (gV 0) (aC (gI 5) aN)))) (gI 4)) (gI 3)))
  (sSet 1 (gL (gLc [8, 9] (gIt (gV 1)) (gTg 2 (gTo (gN 8) (gTo (gN 9) gEnd))) gYes (gTu 2 (aC (gV 8) (aC (gOp dMul (gV 9) (gOp dPow (gI 10) (gI 6))) aN))))))
  sNil)
  (sSeq (sSet 2 (gOp dAdd (gI 1) (gOp dMod (gU dInt (gCall S__law_cell (aC (gV 0) (aC (gI 4) aN)))) (gI 6))))
  (sSeq (sSet 3 (gL (gUL dList (gB 1))))
  (sSeq (sSet 4 (gCall S_least_error (aC (gV 3) (aC (gV 2) aN))))
  (sSeq (sIf (gOr (gNot (gTru (gU (dIsi "int") (gB 4)))) (gOr (gT (gOp dLt (gV 4) (gI 0))) (gT (gOp dGt (gCall S__law_count (aC (gV 1) (aC (gV 4) aN))) (gV 2)))))
  (sRet (gC (.bl false)))
  sNil)
  (sSeq (sIf (gAnd (gT (gOp dGt (gV 4) (gI 0))) (gT (gOp dLe (gCall S__law_count (aC (gV 1) (aC (gOp dSub (gV 4) (gI 1)) aN))) (gV 2))))
  (sRet (gC (.bl false)))
  sNil)
  (sSeq (sSet 5 (gCall S_staircase (aC (gV 3) aN)))
  (sSeq (sIf (gOr (gT (gOp dNe (gB 3) (gB 1))) (gOr (gNot (gTru (gU (dIsi "list") (gB 5)))) (gOr (gT (gOp dEq (gU dLen (gB 5)) (gI 0))) (gT (gOp dNe (gIx (gB 5) (gI 0)) (gTu 2 (aC (gI 0) (aC (gCall S__law_count (aC (gV 1) (aC (gI 0) aN))) aN))))))))
  (sRet (gC (.bl false)))
  sNil)
  (sSeq (sIf (gT (gOp dNe (gIx (gIx (gB 5) (gOp dSub (gU dLen (gB 5)) (gI 1))) (gI 1)) (gA dMin2 (aC (gI 1) (aC (gU dLen (gB 1)) aN)))))
  (sRet (gC (.bl false)))
  sNil)
  (sSeq (sFor (gRng (aC (gI 1) (aC (gU dLen (gB 5)) aN))) (gN 6)
  (sSeq (sUnp (gTg 2 (gTo (gN 4) (gTo (gN 7) gEnd))) (gIx (gB 5) (gV 6)))
  (sSeq (sIf (gOr (gT (gOp dLe (gV 4) (gIx (gIx (gB 5) (gOp dSub (gV 6) (gI 1))) (gI 0)))) (gOr (gT (gOp dNe (gCall S__law_count (aC (gV 1) (aC (gV 4) aN))) (gB 7))) (gT (gOp dGe (gV 7) (gIx (gIx (gB 5) (gOp dSub (gV 6) (gI 1))) (gI 1))))))
  (sRet (gC (.bl false)))
  sNil)
  (sIf (gT (gOp dNe (gCall S__law_count (aC (gV 1) (aC (gOp dSub (gV 4) (gI 1)) aN))) (gIx (gIx (gB 5) (gOp dSub (gV 6) (gI 1))) (gI 1))))
  (sRet (gC (.bl false)))
  sNil))))
  (sRet (gC (.bl true))))))))))))))
noncomputable def S_law : List D → Option D := runB 10 B_law
theorem ok_law {f : Addr} {fd : FuncData} (F : Fun K "law" "law" s_law f fd) (c__law_points : Cal P w K mg base "_law_points" 2 ["script", "place", "most"] S__law_points) (c__law_cell : Cal P w K mg base "_law_cell" 1 ["script", "k"] S__law_cell) (m_int : mg "int" = none) (m_list : mg "list" = none) (c_least_error : Cal P w K mg base "least_error" 7 ["points", "pieces"] S_least_error) (c__law_count : Cal P w K mg base "_law_count" 4 ["points", "error"] S__law_count) (m_isinstance : mg "isinstance" = none) (c_staircase : Cal P w K mg base "staircase" 7 ["points"] S_staircase) (m_len : mg "len" = none) (m_min : mg "min" = none) (m_range : mg "range" = none) : FnOk P w K mg base CX0 8 f fd ["script"] (spD K mg 1 S_law) :=
  def_ok F sc_law fun cdv A outer s H E hr =>
  (ss_cons (s_set 1 sc_law.nd (e_callC c__law_points hr (by decide) (n_cons (e_var 0) (n_cons e_int (n_cons e_int n_nil)))))
  (ss_cons (s_if (t_cmpB (ob_eq hr.units) (e_op od_mod (e_cty cb_int (by rfl) m_int boot_int' (e_callC c__law_cell hr (by decide) (n_cons (e_var 0) (n_cons e_int n_nil))).bo) e_int).bo e_int.bo)
  (ss_one (s_setLcS 1 (own := [("x", 8), ("y", 9)]) rfl sc_law.nd (i_list (e_var 1)).c (blkOk_by (own := [("x", 8), ("y", 9)]) (N := N_law) (sc := defScope s_law) (by decide +kernel)) (by decide) (fun _ _ _ _ _ => (g_tup rfl (gl_cons (g_name 8 sc_law.nd) (gl_cons (g_name 9 sc_law.nd) gl_nil)))) (fun _ _ _ _ _ => ts_nil) (fun _ _ _ _ _ => (e_tup (n_cons (e_var 8) (n_cons (e_op od_mul (e_var 9) (e_op od_pow e_int e_int)) n_nil))))))
  ss_nil)
  (ss_cons (s_set 2 sc_law.nd (e_op od_add e_int (e_op od_mod (e_cty cb_int (by rfl) m_int boot_int' (e_callC c__law_cell hr (by decide) (n_cons (e_var 0) (n_cons e_int n_nil))).bo) e_int)))
  (ss_cons (s_set 3 sc_law.nd (el_cty cb_list (by rfl) m_list boot_list' (b_var 1)).fz)
  (ss_cons (s_set 4 sc_law.nd (e_callC c_least_error hr (by decide) (n_cons (e_var 3) (n_cons (e_var 2) n_nil))))
  (ss_cons (s_if (w_or (t_not (t_tru (e_isi (by rfl) m_isinstance boot_isinstance' (by rfl) m_int boot_int' (b_var 4)).bo)) (w_or (t_cmp od_lt (e_var 4) e_int) (w_or1 (t_cmp od_gt (e_callC c__law_count hr (by decide) (n_cons (e_var 1) (n_cons (e_var 4) n_nil))) (e_var 2))))).t
  (ss_one (s_ret e_bl))
  ss_nil)
  (ss_cons (s_if (w_and (t_cmp od_gt (e_var 4) e_int) (w_and1 (t_cmp od_le (e_callC c__law_count hr (by decide) (n_cons (e_var 1) (n_cons (e_op od_sub (e_var 4) e_int) n_nil))) (e_var 2)))).t
  (ss_one (s_ret e_bl))
  ss_nil)
  (ss_cons (s_set 5 sc_law.nd (e_callC c_staircase hr (by decide) (n_cons (e_var 3) n_nil)))
  (ss_cons (s_if (w_or (t_cmpB (ob_ne hr.units) (b_var 3) (b_var 1)) (w_or (t_not (t_tru (e_isi (by rfl) m_isinstance boot_isinstance' (by rfl) m_list boot_list' (b_var 5)).bo)) (w_or (t_cmpB (ob_eq hr.units) (e_cb cb_len (by rfl) m_len boot_len' (b_var 5)).bo e_int.bo) (w_or1 (t_cmpB (ob_ne hr.units) (e_ix (b_var 5) e_int).bo (e_tup (n_cons e_int (n_cons (e_callC c__law_count hr (by decide) (n_cons (e_var 1) (n_cons e_int n_nil))) n_nil))).bo))))).t
  (ss_one (s_ret e_bl))
  ss_nil)
  (ss_cons (s_if (t_cmpB (ob_ne hr.units) (e_ix (e_ix (b_var 5) (e_op od_sub (e_cb cb_len (by rfl) m_len boot_len' (b_var 5)) e_int)).bo e_int).bo (e_cba (cb_min2 rfl) (by rfl) m_min boot_min' (n_cons e_int (n_cons (e_cb cb_len (by rfl) m_len boot_len' (b_var 1)) n_nil)).a).bo)
  (ss_one (s_ret e_bl))
  ss_nil)
  (ss_cons (s_for PassesOwn.never rfl (i_rng2 (by rfl) m_range (n_cons e_int (n_cons (e_cb cb_len (by rfl) m_len boot_len' (b_var 5)) n_nil))).fb (g_name 6 sc_law.nd)
  (ss_cons (s_unp (e_ix (b_var 5) (e_var 6)) (g_tup rfl (gl_cons (g_name 4 sc_law.nd) (gl_cons (g_name 7 sc_law.nd) gl_nil))))
  (ss_cons (s_if (w_or (t_cmp od_le (e_var 4) (e_ix (e_ix (b_var 5) (e_op od_sub (e_var 6) e_int)).bo e_int)) (w_or (t_cmpB (ob_ne hr.units) (e_callC c__law_count hr (by decide) (n_cons (e_var 1) (n_cons (e_var 4) n_nil))).bo (b_var 7)) (w_or1 (t_cmp od_ge (e_var 7) (e_ix (e_ix (b_var 5) (e_op od_sub (e_var 6) e_int)).bo e_int))))).t
  (ss_one (s_ret e_bl))
  ss_nil)
  (ss_one (s_if (t_cmpB (ob_ne hr.units) (e_callC c__law_count hr (by decide) (n_cons (e_var 1) (n_cons (e_op od_sub (e_var 4) e_int) n_nil))).bo (e_ix (e_ix (b_var 5) (e_op od_sub (e_var 6) e_int)).bo e_int).bo)
  (ss_one (s_ret e_bl))
  ss_nil)))))
  (ss_one (s_ret e_bl)))))))))))))
/-! Strip.line -/
abbrev s_Strip_line : Stmt := inClass (topS 9) 3
abbrev N_Strip_line : List Str := ["self"]
theorem sc_Strip_line : FnScope N_Strip_line ["self"] (defScope s_Strip_line) := ⟨rfl, rfl, rfl, by decide +kernel, rfl, by decide +kernel, by decide +kernel⟩
noncomputable def B_Strip_line : Sm :=
  (sSeq (sIf (gNot (gTru (gU (dFld 4 0) (gB 0))))
  (sRet (gTu 3 (aC (gI 0) (aC (gI 0) (aC (gI 1) aN)))))
  sNil)
  (sRet (gCall S_middle_line (aC (gIm (gU (dFld 4 2) (gB 0))) aN))))
noncomputable def S_Strip_line : List D → Option D := runK [true] 1 B_Strip_line
theorem ok_Strip_line {f : Addr} {fd : FuncData} {C4 : Addr} (F : Fun K "line" "Strip.line" s_Strip_line f fd) (ck4 : CK K mg 4 C4) (c_middle_line : Cal P w K mg base "middle_line" 2 ["deviation"] S_middle_line) : FnOk P w K mg base CX0 3 f fd ["self"] (spK K mg [true] S_Strip_line) :=
  def_okK F sc_Strip_line rfl fun cdv A outer s H E hr =>
  (ss_cons (s_if (t_not (t_tru (b_fld (c := 4) (j := 0) ck4 (b_var 0))))
  (ss_one (s_ret (e_tup (n_cons e_int (n_cons e_int (n_cons e_int n_nil))))))
  ss_nil)
  (ss_one (s_ret (e_callC c_middle_line hr (by decide) (n_cons (b_fld (c := 4) (j := 2) ck4 (b_var 0)).im n_nil)))))
end
end K08

namespace K08
open PySem L2 DL
local macro_rules | `(tactic| walk_at "ev call") => `(tactic| ((with_reducible (show _ = _)); with_reducible assumption))
local macro_rules | `(tactic| walk_at "ev mul") => `(tactic| first | (with_reducible assumption) | exact mulOk_l (by omega) (by omega) | exact mulOk_r (by omega) (by omega) | decide +kernel)
local macro_rules | `(tactic| walk_at "ev pos") => `(tactic| first | (with_reducible assumption) | decide | omega)
local macro_rules | `(tactic| walk_at "ev log") => `(tactic| first | (with_reducible assumption) | exact log_of (k := 100) (by omega) (by decide) (by decide) | decide +kernel)
local macro_rules | `(tactic| walk_at "ev") => `(tactic| (repeat' first
  | (with_reducible exact ev_I) | (with_reducible exact ev_C) | (with_reducible exact ev_nl) | (with_reducible exact ev_No)
  | ((with_reducible apply ev_V); exact rfl) | ((with_reducible apply ev_B); exact rfl) | ((with_reducible apply ev_Bo); exact rfl)
  | (with_reducible apply ev_cs) | (with_reducible apply ev_tu) | (with_reducible apply ev_L)
  | (with_reducible apply ev_op) | (with_reducible apply ev_U) | (with_reducible apply ev_call) | (with_reducible apply ev_A)
  | (with_reducible apply ev_UL) | (with_reducible apply ev_Sl) | (with_reducible apply ev_So) | (with_reducible apply ev_meth)
  | (with_reducible apply ev_T) | (with_reducible apply ev_Tru) | (with_reducible apply ev_not) | (with_reducible apply ev_bl)
  | (with_reducible apply ev_ch) | (with_reducible apply ev_ch1) | (with_reducible apply ev_chn)
  | (with_reducible apply ev_and) | (with_reducible apply ev_or)
  | (with_reducible exact d_add) | (with_reducible exact d_sub)
  | ((with_reducible refine d_mul ?_); walk_at "ev mul") | ((with_reducible refine d_mod ?_); walk_at "ev pos") | ((with_reducible refine d_div ?_ ?_) <;> first | walk_at "ev pos" | walk_at "ev log")
  | ((with_reducible (show dLt (.int _) (.int _) = _)); exact rfl) | ((with_reducible (show dLe (.int _) (.int _) = _)); exact rfl) | ((with_reducible (show dGt (.int _) (.int _) = _)); exact rfl) | ((with_reducible (show dGe (.int _) (.int _) = _)); exact rfl)
  | ((with_reducible (show dInt (.int _) = _)); exact rfl) | ((with_reducible (show dAbs (.int _) = _)); exact rfl) | ((with_reducible (show dNeg (.int _) = _)); exact rfl)
  | ((with_reducible (show dTru (.bl _) = _)); exact rfl) | ((with_reducible refine d_pow ?_); decide)
  | ((with_reducible (show dIsi _ (.bl _) = _)); exact rfl) | ((with_reducible (show dIsi _ (.tup _) = _)); exact rfl) | ((with_reducible (show dIsi _ (.int _) = _)); exact rfl) | ((with_reducible (show dIsi _ .non = _)); exact rfl)
  | ((with_reducible (show dIsN _ _ = _)); exact rfl) | ((with_reducible (show dNoN _ _ = _)); exact rfl)
  | ((with_reducible (show dLen (.lst _) = _)); exact rfl) | ((with_reducible (show dLen (.scr _) = _)); exact rfl) | ((with_reducible (show dLen (.tup _) = _)); exact rfl)
  | (with_reducible refine d_eq eqOk_int eqOk_int eqd_int) | (with_reducible refine d_eq eqOk_bl eqOk_bl eqd_bl) | (with_reducible refine d_ne eqOk_int eqOk_int eqd_int)
  | (with_reducible refine d_ne eqOk_bl eqOk_bl eqd_bl) | ((with_reducible (show dIx (.tup _) (.int _) = _)); exact rfl)
  | walk_at "ev call"))
local macro_rules | `(tactic| walk_at "ev norm") => `(tactic| simp only [List.map_cons, List.map_nil, List.length_cons, List.length_nil, Nat.reduceAdd, Nat.reduceSub, List.reduceReplicate, List.cons_append, List.nil_append, List.set_cons_zero, List.set_cons_succ, List.zip_cons_cons, List.zip_nil_left, List.zip_nil_right, List.foldl_cons, List.foldl_nil])
local macro_rules | `(tactic| walk_at "ev st") => `(tactic| first
  | ((with_reducible apply sq_set); walk_at "ev"; all_goals (try walk_at "ev norm"))
  | ((with_reducible apply sq_unp); (walk_at "ev"); (all_goals try exact rfl); all_goals (try walk_at "ev norm"))
  | ((with_reducible apply sq_par); walk_at "ev"; all_goals (try walk_at "ev norm"))
  | ((with_reducible apply sq_setO); walk_at "ev"; all_goals (try walk_at "ev norm"))
  | ((with_reducible apply sq_ret); walk_at "ev")
  | ((with_reducible apply sv_ret); walk_at "ev")
  | ((with_reducible apply sv_set); walk_at "ev")
  | (with_reducible apply sq_nil))
def absI (a : Int) : Int := if a < 0 then -a else a
theorem absI_le {a b : Int} : absI a ≤ b ↔ -b ≤ a ∧ a ≤ b := by unfold absI; split <;> omega
def encP (a : Int × Int) : D := .tup [.int a.1, .int a.2]
def encL (l : Int × Int × Int) : D := .tup [.int l.1, .int l.2.1, .int l.2.2]
theorem all_map_bl {α : Type} (xs : List α) (t : α → Bool) : dAll (.lst (xs.map fun a => D.bl (t a))) = some (.bl (xs.all t)) := by
  have e : xs.map (fun a => D.bl (t a)) = (xs.map t).map D.bl := by rw [List.map_map]; rfl
  rw [e, d_all]
  simp [List.all_map]
def cell (ns : List Int) (k : Nat) : Int := ns.getD k 0
theorem cell_eq (ns : List Int) (k : Int) (h0 : 0 ≤ k) : S__law_cell [.scr ns, .int k] = some (.int (cell ns k.toNat)) := by
  obtain ⟨k, rfl⟩ := Int.eq_ofNat_of_zero_le h0
  refine sv_run ?_
  unfold B__law_cell
  walk_at "ev norm"
  refine sv_ifS (b := decide ((k : Int) < (ns.length : Int))) ?_ ?_ ?_
  · walk_at "ev"
  · intro h
    have h : k < ns.length := by simpa using h
    refine sv_rt (sv_ret (ev_op (ev_B rfl) (ev_V rfl) ?_))
    show (atI ns (k : Int)).map D.int = _
    rw [atI_nat (List.getElem?_eq_getElem h)]
    simp [cell, h]
  · intro h
    have h : ns.length ≤ k := by simpa using h
    rw [sv_nilS]
    refine sv_ret ?_
    simp [cell, List.getElem?_eq_none h, gI]
local macro_rules | `(tactic| walk_at "ev call") => `(tactic| with_reducible exact cell_eq _ _ (by decide))
theorem forL_rng {gs : Gs} {F : Sm} (n : Nat) (lo : Int) (Iv : Nat → DEnv → Prop) (hs : ∀ (k : Nat) Γ, k < n → Iv k Γ → ∃ Γ1 Γ2, gs (.int (lo + (k : Nat))) Γ = some Γ1 ∧ (F Γ1 = some (.nx Γ2) ∨ F Γ1 = some (.ct Γ2)) ∧ Iv (k + 1) Γ2) (Γ : DEnv) (h0 : Iv 0 Γ) : ∃ Γ', forL gs F (rngD lo n) Γ = some (.nx Γ') ∧ Iv n Γ' := by
  have key : ∀ m k Γ, k + m = n → Iv k Γ → ∃ Γ', forL gs F ((List.range' k m).map fun i => D.int (lo + (i : Nat))) Γ = some (.nx Γ') ∧ Iv n Γ' := by
    intro m
    induction m with
    | zero =>
      intro k Γ e h
      obtain rfl : k = n := by omega
      exact ⟨Γ, rfl, h⟩
    | succ m ih =>
      intro k Γ e h
      obtain ⟨Γ1, Γ2, h1, h2, h3⟩ := hs k Γ (by omega) h
      obtain ⟨Γ', h4, h5⟩ := ih (k + 1) Γ2 (by omega) h3
      refine ⟨Γ', ?_, h5⟩
      rw [List.range'_succ, List.map_cons]
      rcases h2 with h2 | h2
      · exact forL_nx h1 h2 h4
      · exact forL_ct h1 h2 h4
  have := key n 0 Γ (by omega) h0
  rwa [← List.range_eq_range'] at this
def mix1 (c : Int) (k : Nat) : Int := (c * 48271 + k * 69621 + 1013) % 2147483647
def mix2 (c : Int) (k : Nat) : Int := (mix1 c k * mix1 c k + 7 * mix1 c k + k) % 2147483629
/-- the law's digits -/
theorem digits_eq (c many n : Int) (h0 : 0 < many) (h1 : many ≤ 10 ^ 15) (n0 : 0 ≤ n) (n1 : n ≤ 100000) : ∃ ds : List Int, S__law_digits [.int c, .int many, .int n] = some (.lst (ds.map D.int)) ∧ (ds.length : Int) = n ∧ ∀ d ∈ ds, 0 ≤ d ∧ d < many := by
  obtain ⟨n, rfl⟩ := Int.eq_ofNat_of_zero_le n0
  have hloop := forL_rng (gs := gN 5) (F := (sIf (gT (gOp dGe (gV 0) (gOp dPow (gI 10) (gI 18))))
  (sSeq (sApp 3 [] (gOp dMod (gU dInt (gB 4)) (gV 1)))
  (sSet 4 (gOp dDiv (gV 4) (gV 1))))
  (sSeq (sSet 6 (gOp dMod (gU dInt (gOp dAdd (gOp dAdd (gOp dMul (gV 0) (gI 48271)) (gOp dMul (gV 5) (gI 69621))) (gI 1013))) (gI 2147483647)))
  (sSeq (sSet 6 (gOp dMod (gU dInt (gOp dAdd (gOp dAdd (gOp dMul (gV 6) (gV 6)) (gOp dMul (gI 7) (gV 6))) (gV 5))) (gI 2147483629)))
  (sApp 3 [] (gOp dMod (gU dInt (gOp dDiv (gV 6) (gI 31))) (gV 1))))))) n 0
    (fun k Γ => ∃ (ds : List Int) (rest : Int) (s5 s6 : Sl), Γ = [.sh (.int c), .sh (.int many), .sh (.int n), .ow (ds.map D.int), .sh (.int rest), s5, s6] ∧ ds.length = k ∧ ∀ d ∈ ds, 0 ≤ d ∧ d < many) ?_
    [.sh (.int c), .sh (.int many), .sh (.int n), .ow [], .sh (.int c), .no, .no] ⟨[], c, .no, .no, rfl, rfl, by simp⟩
  · obtain ⟨Γ', hf, ds, rest, s5, s6, rfl, hl, hb⟩ := hloop
    refine ⟨ds, ?_, by omega, hb⟩
    refine sv_run ?_
    unfold B__law_digits
    walk_at "ev norm"
    walk_at "ev st"
    walk_at "ev st"
    refine sv_nx (sv_for (ev_rng1 (ev_cs (ev_V rfl) ev_nl) (by omega) (by omega)) hf) ?_
    refine sv_frz ?_
    exact sv_ret (ev_V rfl)
  · rintro k Γ hk ⟨ds, rest, s5, s6, rfl, hl, hb⟩
    have e : (0 + (k : Int)) = k := by omega
    rw [e]
    have push : ∀ x : Int, (∀ d ∈ ds ++ [x % many], 0 ≤ d ∧ d < many) := fun x d hd => by
      rcases List.mem_append.mp hd with z | z
      · exact hb d z
      · rw [List.mem_singleton] at z
        subst z
        exact ⟨Int.emod_nonneg _ (by omega), Int.emod_lt_of_pos _ h0⟩
    have len : (ds.map D.int).length < 1000000 := by rw [List.length_map]; omega
    refine ⟨[.sh (.int c), .sh (.int many), .sh (.int n), .ow (ds.map D.int), .sh (.int rest), .sh (.int k), s6], ?_⟩
    by_cases hc : c ≥ 10 ^ 18
    · refine ⟨_, rfl, .inl (sv_ifT ?_ (sv_nx (sv_app0 (xs := ds.map D.int) (d := .int (rest % many)) ?_ rfl len) (sv_set (d := .int (rest / many)) ?_))), ds ++ [rest % many], rest / many, .sh (.int k), s6, ?_, by simp [hl], push _⟩
      · refine ev_T (ev_op (ev_V rfl) (ev_op ev_I ev_I (d_pow (by decide))) ?_)
        show some (D.bl (decide _)) = _
        rw [decide_eq_true]
        exact hc
      · walk_at "ev"
      · exact ev_op (ev_V rfl) (ev_V rfl) (d_div h0 (log_of (k := 100) (by omega) (by decide) (by decide)))
      · simp
    · have b1 : -(2 ^ 64) < mix1 c k ∧ mix1 c k < 2 ^ 64 := by
        unfold mix1
        omega
      refine ⟨_, rfl, .inl (sv_ifF ?_ (sv_nx (sv_set (d := .int (mix1 c k)) ?_) (sv_nx (sv_set (d := .int (mix2 c k)) ?_) (sv_app0 (xs := ds.map D.int) (d := .int (mix2 c k / 31 % many)) ?_ rfl len)))), ds ++ [mix2 c k / 31 % many], rest, .sh (.int k), .sh (.int (mix2 c k)), ?_, by simp [hl], push _⟩
      · refine ev_T (ev_op (ev_V rfl) (ev_op ev_I ev_I (d_pow (by decide))) ?_)
        show some (D.bl (decide _)) = _
        rw [decide_eq_false]
        exact hc
      · unfold mix1
        walk_at "ev"
      · walk_at "ev norm"
        unfold mix2
        generalize mix1 c k = m at *
        refine ev_op (ev_U (ev_op (ev_op (ev_op (ev_V rfl) (ev_V rfl) (d_mul (mulOk_l b1.1 b1.2))) (ev_op ev_I (ev_V rfl) (d_mul (mulOk_r b1.1 b1.2))) d_add) (ev_V rfl) d_add) rfl) ev_I (d_mod (by decide))
      · walk_at "ev norm"
        generalize mix2 c k = m at *
        walk_at "ev"
      · simp
theorem ixm (ms : List Int) (i : Int) (h0 : 0 ≤ i) (h1 : i < ms.length) : ∃ m, m ∈ ms ∧ dIx (.lst (ms.map D.int)) (.int i) = some (.int m) := by
  obtain ⟨k, rfl⟩ := Int.eq_ofNat_of_zero_le h0
  have hk : k < ms.length := by omega
  exact ⟨ms[k], List.getElem_mem hk, d_ixL (by simp [hk])⟩
def Asc (pts : List (Int × Int)) : Prop := pts.Pairwise fun a b => a.1 < b.1
abbrev SmP (a : Int × Int) : Prop := (-(2 ^ 50) < a.1 ∧ a.1 < 2 ^ 50) ∧ -(2 ^ 50) < a.2 ∧ a.2 < 2 ^ 50
theorem maxI_mem {ns : List Int} (h : ns ≠ []) : maxI ns ∈ ns ∧ ∀ n ∈ ns, n ≤ maxI ns := maxI_spec ns (by cases ns with | nil => exact absurd rfl h | cons => simp)
theorem minI_mem {ns : List Int} (h : ns ≠ []) : minI ns ∈ ns ∧ ∀ n ∈ ns, minI ns ≤ n := minI_spec ns (by cases ns with | nil => exact absurd rfl h | cons => simp)
def three (a b c : Int × Int) (e : Int) : Bool := decide (absI (b.2 * (c.1 - a.1) - a.2 * (c.1 - b.1) - c.2 * (b.1 - a.1)) ≤ 2 * e * (c.1 - a.1))
theorem all_range_succ (n : Nat) (t : Nat → Bool) : (List.range (n + 1)).all t = (t 0 && (List.range n).all fun k => t (k + 1)) := by
  rw [List.range_succ_eq_map, List.all_cons, List.all_map]; rfl
/-- a loop that leaves with r at the first item that fails -/
theorem forL_chk {gs : Gs} {F : Sm} (r : D) (Iv : DEnv → Prop) : ∀ (ds : List D) (t : Nat → Bool) (hs : ∀ k d Γ, ds[k]? = some d → Iv Γ → ∃ Γ1, gs d Γ = some Γ1 ∧ (t k = true → ∃ Γ2, F Γ1 = some (.nx Γ2) ∧ Iv Γ2) ∧ (t k = false → F Γ1 = some (.rt r))) (Γ : DEnv), Iv Γ →
    ((List.range ds.length).all t = true → ∃ Γ', forL gs F ds Γ = some (.nx Γ') ∧ Iv Γ') ∧ ((List.range ds.length).all t = false → forL gs F ds Γ = some (.rt r))
  | [], t, hs, Γ, h => ⟨fun _ => ⟨Γ, rfl, h⟩, fun z => by simp at z⟩
  | d :: ds, t, hs, Γ, h => by
    obtain ⟨Γ1, g1, ht, hf⟩ := hs 0 d Γ rfl h
    rw [List.length_cons, all_range_succ]
    cases e : t 0 with
    | false => exact ⟨fun z => by simp at z, fun _ => forL_rt g1 (hf e)⟩
    | true =>
      obtain ⟨Γ2, f2, i2⟩ := ht e
      obtain ⟨k1, k2⟩ := forL_chk r Iv ds (fun k => t (k + 1)) (fun k d Γ hd => hs (k + 1) d Γ (by simpa using hd)) Γ2 i2
      refine ⟨fun z => ?_, fun z => forL_nx g1 f2 (k2 (by simpa using z))⟩
      obtain ⟨Γ', w1, w2⟩ := k1 (by simpa using z)
      exact ⟨Γ', forL_nx g1 f2 w1, w2⟩
theorem rngD_len {lo : Int} {n : Nat} : (rngD lo n).length = n := by simp [rngD]
theorem rngD_get {lo : Int} {n k : Nat} {d : D} (h : (rngD lo n)[k]? = some d) : k < n ∧ d = .int (lo + (k : Nat)) := by
  have hk : k < n := by
    have := (List.getElem?_eq_some_iff.mp h).1
    rwa [rngD_len] at this
  simp [rngD, hk] at h
  exact ⟨hk, h.symm⟩
def pAt (pts : List (Int × Int)) (k : Nat) : Int × Int := pts.getD k (0, 0)
theorem pAt_get {pts : List (Int × Int)} {k : Nat} (h : k < pts.length) : pts[k]? = some (pAt pts k) := by simp [pAt, h]
theorem pAt_mem {pts : List (Int × Int)} {k : Nat} (h : k < pts.length) : pAt pts k ∈ pts := List.mem_of_getElem? (pAt_get h)
theorem ixp {pts : List (Int × Int)} {k : Nat} {i : Int} (h : k < pts.length) (e : i = (k : Nat)) : dIx (.lst (pts.map encP)) (.int i) = some (encP (pAt pts k)) := by
  subst e
  exact d_ixL (by rw [List.getElem?_map, pAt_get h]; rfl)
def fitsB (pts : List (Int × Int)) (e : Int) : Bool := (List.range (pts.length - 2)).all fun k => (List.range (k + 1)).all fun j => (List.range (j + 1)).all fun i => three (pAt pts i) (pAt pts (j + 1)) (pAt pts (k + 2)) e
/-- the law's points -/
theorem points_eq (ns : List Int) (pl most : Int) (hp : 0 ≤ pl) (hm : 0 ≤ most) (hm2 : most ≤ 10) : ∃ pts : List (Int × Int), S__law_points [.scr ns, .int pl, .int most] = some (.lst (pts.map encP)) ∧ (pts.length : Int) ≤ most ∧ Asc pts ∧ ∀ a ∈ pts, (-(2 ^ 36) < a.1 ∧ a.1 < 2 ^ 36) ∧ -(2 ^ 36) < a.2 ∧ a.2 < 2 ^ 36 := by
  have c0 := cell_eq ns pl hp
  have c1 := cell_eq ns (pl + 1) (by omega)
  have c2 := cell_eq ns (pl + 2) (by omega)
  have c3 := cell_eq ns (pl + 3) (by omega)
  generalize cell ns pl.toNat = w0 at c0
  generalize cell ns (pl + 1).toNat = w1 at c1
  generalize cell ns (pl + 2).toNat = w2 at c2
  generalize cell ns (pl + 3).toNat = w3 at c3
  have hm3 : 0 < most + 1 := by omega
  have z0 := Int.emod_nonneg w0 (show most + 1 ≠ 0 by omega)
  have z1 := Int.emod_lt_of_pos w0 hm3
  have t0 := Int.emod_nonneg (w0 / (most + 1)) (show (6 : Int) ≠ 0 by omega)
  have t1 := Int.emod_lt_of_pos (w0 / (most + 1)) (show (0 : Int) < 6 by omega)
  generalize hz : w0 % (most + 1) = size at *
  generalize ht : w0 / (most + 1) % 6 = style at *
  obtain ⟨g, hg, ig⟩ := ixm [1, 3, 9, 3, 10 ^ 9, 2] style t0 (by simpa using t1)
  obtain ⟨r, hr, ir⟩ := ixm [2, 7, 4, 30, 10 ^ 9, 5] style t0 (by simpa using t1)
  have bg : 0 < g ∧ g ≤ 10 ^ 9 := by simp at hg; omega
  have br : 0 < r ∧ r ≤ 10 ^ 9 := by simp at hr; omega
  obtain ⟨gaps, dg, lg, vg⟩ := digits_eq w1 g (size + 1) bg.1 (by omega) (by omega) (by omega)
  obtain ⟨rises, dr, lr, vr⟩ := digits_eq w2 r (size + 1) br.1 (by omega) (by omega) (by omega)
  obtain ⟨kinds, dk, lk, vk⟩ := digits_eq w3 12 (size + 1) (by omega) (by omega) (by omega) (by omega)
  obtain ⟨x0, mx, ix⟩ := ixm gaps size z0 (by omega)
  obtain ⟨y0, my, iy⟩ := ixm rises size z0 (by omega)
  obtain ⟨s0, ms, is⟩ := ixm kinds size z0 (by omega)
  have vx := vg _ mx
  have vy := vr _ my
  have hs0 := Int.emod_nonneg s0 (show (5 : Int) ≠ 0 by omega)
  have hs1 := Int.emod_lt_of_pos s0 (show (0 : Int) < 5 by omega)
  generalize hsl : s0 % 5 - 2 = slope
  have bsl : -2 ≤ slope ∧ slope ≤ 2 := by omega
  obtain ⟨n, rfl⟩ := Int.eq_ofNat_of_zero_le z0
  have hloop := forL_rng (gs := gN 13) (F := (sSeq (sSet 9 (gOp dAdd (gOp dAdd (gV 9) (gI 1)) (gIx (gB 6) (gV 13))))
  (sSeq (sSet 10 (gOp dAdd (gOp dAdd (gV 10) (gOp dMul (gV 11) (gOp dAdd (gI 1) (gIx (gB 6) (gV 13))))) (gIx (gL (aC (gI 0) (aC (gI 0) (aC (gI 0) (aC (gI 0) (aC (gI 0) (aC (gI 1) (aC (gOp dSub (gI 0) (gI 1)) (aC (gI 2) (aC (gOp dSub (gI 0) (gI 3)) (aC (gIx (gB 7) (gV 13)) (aC (gOp dSub (gI 0) (gIx (gB 7) (gV 13))) (aC (gI 0) aN))))))))))))) (gU dInt (gIx (gB 8) (gV 13))))))
  (sApp 12 [] (gTu 2 (aC (gV 9) (aC (gV 10) aN))))))) n 0
    (fun k Γ => ∃ (pts : List (Int × Int)) (x y : Int) (s13 : Sl), Γ = [.sh (.scr ns), .sh (.int pl), .sh (.int most), .sh (.int w0), .sh (.int n), .sh (.int style), .sh (.lst (gaps.map D.int)), .sh (.lst (rises.map D.int)), .sh (.lst (kinds.map D.int)), .sh (.int x), .sh (.int y), .sh (.int slope), .ow (pts.map encP), s13] ∧ pts.length = k ∧ Asc pts ∧ (∀ a ∈ pts, a.1 ≤ x) ∧ (-4 ≤ x ∧ x ≤ 10 ^ 9 * (k + 1)) ∧ (-(3 * 10 ^ 9 * (k + 1)) ≤ y ∧ y ≤ 3 * 10 ^ 9 * (k + 1)) ∧ ∀ a ∈ pts, (-(2 ^ 36) < a.1 ∧ a.1 < 2 ^ 36) ∧ -(2 ^ 36) < a.2 ∧ a.2 < 2 ^ 36) ?_
    [.sh (.scr ns), .sh (.int pl), .sh (.int most), .sh (.int w0), .sh (.int n), .sh (.int style), .sh (.lst (gaps.map D.int)), .sh (.lst (rises.map D.int)), .sh (.lst (kinds.map D.int)), .sh (.int (x0 - 4)), .sh (.int (y0 - 3)), .sh (.int slope), .ow [], .no] ⟨[], x0 - 4, y0 - 3, .no, rfl, rfl, List.Pairwise.nil, by simp, by omega, by omega, by simp⟩
  · obtain ⟨Γ', hf, pts, x, y, s13, rfl, hl, ha, _, _, _, hb⟩ := hloop
    refine ⟨pts, ?_, by omega, ha, hb⟩
    refine sv_run ?_
    unfold B__law_points
    walk_at "ev norm"
    refine sq_set (ev_call (ev_cs (ev_V rfl) (ev_cs (ev_V rfl) ev_nl)) c0) ?_
    walk_at "ev norm"
    refine sq_set (ev_op (ev_U (ev_B rfl) rfl) (ev_op (ev_V rfl) ev_I d_add) (d_mod hm3)) ?_
    walk_at "ev norm"
    refine sq_set (ev_op (ev_U (ev_op (ev_V rfl) (ev_op (ev_V rfl) ev_I d_add) (d_div hm3 (log_of (k := 100) (by omega) (by decide) (by decide)))) rfl) ev_I (d_mod (by decide))) ?_
    walk_at "ev norm"
    rw [hz, ht]
    refine sq_set (ev_call (ev_cs (ev_call (ev_cs (ev_V rfl) (ev_cs (ev_op (ev_V rfl) ev_I d_add) ev_nl)) c1) (ev_cs (ev_op (ev_L (ev_cs ev_I (ev_cs ev_I (ev_cs ev_I (ev_cs ev_I (ev_cs (ev_op ev_I ev_I (d_pow (by decide))) (ev_cs ev_I ev_nl))))))) (ev_V rfl) ig) (ev_cs (ev_op (ev_V rfl) ev_I d_add) ev_nl))) dg) ?_
    walk_at "ev norm"
    refine sq_set (ev_call (ev_cs (ev_call (ev_cs (ev_V rfl) (ev_cs (ev_op (ev_V rfl) ev_I d_add) ev_nl)) c2) (ev_cs (ev_op (ev_L (ev_cs ev_I (ev_cs ev_I (ev_cs ev_I (ev_cs ev_I (ev_cs (ev_op ev_I ev_I (d_pow (by decide))) (ev_cs ev_I ev_nl))))))) (ev_V rfl) ir) (ev_cs (ev_op (ev_V rfl) ev_I d_add) ev_nl))) dr) ?_
    walk_at "ev norm"
    refine sq_set (ev_call (ev_cs (ev_call (ev_cs (ev_V rfl) (ev_cs (ev_op (ev_V rfl) ev_I d_add) ev_nl)) c3) (ev_cs ev_I (ev_cs (ev_op (ev_V rfl) ev_I d_add) ev_nl))) dk) ?_
    walk_at "ev norm"
    refine sq_set (ev_op (ev_U (ev_op (ev_B rfl) (ev_V rfl) ix) rfl) ev_I d_sub) ?_
    walk_at "ev norm"
    refine sq_set (ev_op (ev_U (ev_op (ev_B rfl) (ev_V rfl) iy) rfl) ev_I d_sub) ?_
    walk_at "ev norm"
    refine sq_set (ev_op (ev_op (ev_U (ev_op (ev_B rfl) (ev_V rfl) is) rfl) ev_I (d_mod (by decide))) ev_I d_sub) ?_
    walk_at "ev norm"
    rw [hsl]
    walk_at "ev st"
    refine sv_nx (sv_for (ev_rng1 (ev_cs (ev_V rfl) ev_nl) (by omega) (by omega)) hf) ?_
    refine sv_frz ?_
    exact sv_ret (ev_V rfl)
  · rintro k Γ hk ⟨pts, x, y, s13, rfl, hl, ha, hx, bx, bY, hb⟩
    have e : (0 + (k : Int)) = k := by omega
    rw [e]
    refine ⟨[.sh (.scr ns), .sh (.int pl), .sh (.int most), .sh (.int w0), .sh (.int n), .sh (.int style), .sh (.lst (gaps.map D.int)), .sh (.lst (rises.map D.int)), .sh (.lst (kinds.map D.int)), .sh (.int x), .sh (.int y), .sh (.int slope), .ow (pts.map encP), .sh (.int k)], ?_⟩
    obtain ⟨gk, mg, ig⟩ := ixm gaps k (by omega) (by omega)
    obtain ⟨rk, mr, ir⟩ := ixm rises k (by omega) (by omega)
    obtain ⟨kk, mk, ik⟩ := ixm kinds k (by omega) (by omega)
    have bg' := vg _ mg
    have br' := vr _ mr
    have bk' := vk _ mk
    obtain ⟨up, mu, iu⟩ := ixm [0, 0, 0, 0, 0, 1, 0 - 1, 2, 0 - 3, rk, 0 - rk, 0] kk bk'.1 (by simpa using bk'.2)
    have bu : -(10 ^ 9) ≤ up ∧ up ≤ 10 ^ 9 := by
      simp at mu
      omega
    have bs : -(2 * 10 ^ 9) ≤ slope * (1 + gk) ∧ slope * (1 + gk) ≤ 2 * 10 ^ 9 := by
      have h1 : slope * (1 + gk) ≤ 2 * (1 + gk) := Int.mul_le_mul_of_nonneg_right (by omega) (by omega)
      have h2 : -2 * (1 + gk) ≤ slope * (1 + gk) := Int.mul_le_mul_of_nonneg_right (by omega) (by omega)
      omega
    have len : (pts.map encP).length < 1000000 := by rw [List.length_map]; omega
    have e9 : (3 * 10 ^ 9 * ((k : Int) + 1)) + 3 * 10 ^ 9 = 3 * 10 ^ 9 * (((k + 1 : Nat) : Int) + 1) := by omega
    refine ⟨_, rfl, .inl (sv_nx (sv_set (d := .int (x + 1 + gk)) ?_) (sv_nx (sv_set (d := .int (y + slope * (1 + gk) + up)) ?_) (sv_app0 (xs := pts.map encP) (d := encP (x + 1 + gk, y + slope * (1 + gk) + up)) ?_ rfl len))), pts ++ [(x + 1 + gk, y + slope * (1 + gk) + up)], x + 1 + gk, y + slope * (1 + gk) + up, .sh (.int k), ?_, by simp [hl], ?_, ?_, by omega, by omega, ?_⟩
    · exact ev_op (ev_op (ev_V rfl) ev_I d_add) (ev_op (ev_B rfl) (ev_V rfl) ig) d_add
    · walk_at "ev norm"
      refine ev_op (ev_op (ev_V rfl) (ev_op (ev_V rfl) (ev_op ev_I (ev_op (ev_B rfl) (ev_V rfl) ig) d_add) (d_mul (mulOk_l (by omega) (by omega)))) d_add) (ev_op (ev_L (ev_cs ev_I (ev_cs ev_I (ev_cs ev_I (ev_cs ev_I (ev_cs ev_I (ev_cs ev_I (ev_cs (ev_op ev_I ev_I d_sub) (ev_cs ev_I (ev_cs (ev_op ev_I ev_I d_sub) (ev_cs (ev_op (ev_B rfl) (ev_V rfl) ir) (ev_cs (ev_op ev_I (ev_op (ev_B rfl) (ev_V rfl) ir) d_sub) (ev_cs ev_I ev_nl))))))))))))) (ev_U (ev_op (ev_B rfl) (ev_V rfl) ik) rfl) iu) d_add
    · walk_at "ev norm"
      exact ev_tu (ev_cs (ev_V rfl) (ev_cs (ev_V rfl) ev_nl))
    · simp
    · refine List.pairwise_append.mpr ⟨ha, List.pairwise_singleton _ _, fun a m b hb' => ?_⟩
      rw [List.mem_singleton] at hb'
      subst hb'
      have := hx a m
      show a.1 < x + 1 + gk
      omega
    · intro a m
      rcases List.mem_append.mp m with z | z
      · have := hx a z
        omega
      · rw [List.mem_singleton] at z
        subst z
        exact Int.le_refl _
    · intro a m
      rcases List.mem_append.mp m with z | z
      · exact hb a z
      · rw [List.mem_singleton] at z
        subst z
        refine ⟨⟨?_, ?_⟩, ?_, ?_⟩ <;> (show _ < _) <;> simp only [] <;> omega
theorem sv_runO {N : Nat} {B : Sm} {ds : List D} {s : Sl} (h : B (ds.map Sl.sh ++ List.replicate (N - ds.length) .no) = some (.ro s)) : DL.runN N B ds = some s := by unfold DL.runN; rw [h]; rfl
theorem cutD_map {α β : Type} (f : α → β) (xs : List α) (lo hi : Option Int) : cutD (xs.map f) lo hi = (cutD xs lo hi).map f := by
  unfold cutD
  rw [List.length_map, List.map_take, List.map_drop]
theorem cutD_mem {α : Type} {xs : List α} {lo hi : Option Int} {a : α} (h : a ∈ cutD xs lo hi) : a ∈ xs := List.mem_of_mem_drop (List.mem_of_mem_take h)
theorem cutD_len {α : Type} (xs : List α) (lo hi : Option Int) : (cutD xs lo hi).length ≤ xs.length := by
  unfold cutD
  rw [List.length_take, List.length_drop]
  omega
theorem d_cut {α : Type} {f : α → D} {xs : List α} {lo hi : Option Int} : dCut (.lst (xs.map f)) lo hi = some ((cutD xs lo hi).map f) := by
  show some (cutD (xs.map f) lo hi) = _
  rw [cutD_map]
theorem cutD_nat {α : Type} (xs : List α) (a b : Nat) (hb : b ≤ xs.length) : cutD xs (some a) (some b) = (xs.drop a).take (b - a) := by
  unfold cutD
  rw [HT.sIx_nat, HT.sIx_nat, Nat.min_eq_left hb]
  by_cases h : a ≤ xs.length
  · rw [Nat.min_eq_left h]
  · rw [Nat.min_eq_right (by omega), List.drop_eq_nil_of_le (Nat.le_refl _), List.drop_eq_nil_of_le (by omega), List.take_nil, List.take_nil]
theorem cutD_from {α : Type} (xs : List α) (a : Nat) : cutD xs (some a) none = xs.drop a := by
  unfold cutD
  rw [HT.sIx_nat, HT.sIx_none]
  by_cases h : a ≤ xs.length
  · rw [Nat.min_eq_left h, List.take_of_length_le (by simp)]
  · rw [Nat.min_eq_right (by omega), List.drop_eq_nil_of_le (Nat.le_refl _), List.drop_eq_nil_of_le (by omega), List.take_nil]
theorem cutD_to {α : Type} (xs : List α) (b : Nat) : cutD xs none (some b) = xs.take b := by
  unfold cutD
  rw [HT.sIx_nat, HT.sIx_none, List.drop_zero]
  by_cases h : b ≤ xs.length
  · rw [Nat.min_eq_left h]; rfl
  · rw [Nat.min_eq_right (by omega), List.take_of_length_le (by omega), List.take_of_length_le (by omega)]
theorem d_cat {α : Type} {f : α → D} {xs ys : List α} (h : xs.length + ys.length < 1000000) : dAdd (.lst (xs.map f)) (.lst (ys.map f)) = some (.lst ((xs ++ ys).map f)) := by
  show (if (xs.map f).length + (ys.map f).length < 1000000 then some (D.lst (xs.map f ++ ys.map f)) else none) = _
  rw [List.length_map, List.length_map, if_pos h, List.map_append]
/-- a loop that leaves with a good value, or goes on -/
theorem forL_ret {gs : Gs} {F : Sm} (P : D → Prop) (Iv : DEnv → Prop) : ∀ (ds : List D) (hs : ∀ d Γ, d ∈ ds → Iv Γ → ∃ Γ1, gs d Γ = some Γ1 ∧ ((∃ Γ2, F Γ1 = some (.nx Γ2) ∧ Iv Γ2) ∨ ∃ r, F Γ1 = some (.rt r) ∧ P r)) (Γ : DEnv), Iv Γ →
    (∃ Γ', forL gs F ds Γ = some (.nx Γ') ∧ Iv Γ') ∨ ∃ r, forL gs F ds Γ = some (.rt r) ∧ P r
  | [], hs, Γ, h => .inl ⟨Γ, rfl, h⟩
  | d :: ds, hs, Γ, h => by
    obtain ⟨Γ1, g1, q⟩ := hs d Γ List.mem_cons_self h
    rcases q with ⟨Γ2, f2, i2⟩ | ⟨r, f2, pr⟩
    · rcases forL_ret P Iv ds (fun d Γ hd => hs d Γ (List.mem_cons_of_mem _ hd)) Γ2 i2 with ⟨Γ', w1, w2⟩ | ⟨r, w1, w2⟩
      · exact .inl ⟨Γ', forL_nx g1 f2 w1, w2⟩
      · exact .inr ⟨r, forL_nx g1 f2 w1, w2⟩
    · exact .inr ⟨r, forL_rt g1 f2, pr⟩
theorem rngD_mem {lo : Int} {n : Nat} {d : D} (h : d ∈ rngD lo n) : ∃ k : Nat, k < n ∧ d = .int (lo + k) := by
  obtain ⟨k, hk, e⟩ := List.mem_map.mp h
  exact ⟨k, by simpa using hk, e.symm⟩
theorem d_ixC {f : α → D} {xs : List α} {k : Nat} {i : Int} {a : α} (h : xs[k]? = some a) (e : i = (k : Nat)) : dIx (.lst (xs.map f)) (.int i) = some (f a) := by
  subst e
  exact d_ixL (by rw [List.getElem?_map, h]; rfl)
theorem pAt_d (pts : List (Int × Int)) (hb : ∀ a ∈ pts, SmP a) {i j : Nat} (hi : i < pts.length) (hj : j < pts.length) : -(2 ^ 52) < (pAt pts j).1 - (pAt pts i).1 ∧ (pAt pts j).1 - (pAt pts i).1 < 2 ^ 52 := by
  have h1 := hb _ (pAt_mem hi)
  have h2 := hb _ (pAt_mem hj)
  omega
theorem compL_ex {gs : Gs} {f : Ex} {Γ : DEnv} {β : Type} (enc : β → D) : ∀ (ds : List D) (h : ∀ d ∈ ds, ∃ Γ1 v, gs d Γ = some Γ1 ∧ f Γ1 = some (enc v)), ∃ vs : List β, compL gs gYes f ds Γ = some (vs.map enc) ∧ vs.length = ds.length
  | [], _ => ⟨[], rfl, rfl⟩
  | d :: ds, h => by
    obtain ⟨Γ1, v, h1, h2⟩ := h d List.mem_cons_self
    obtain ⟨vs, h3, h4⟩ := compL_ex enc ds fun d hd => h d (List.mem_cons_of_mem _ hd)
    refine ⟨v :: vs, ?_, by simp [h4]⟩
    unfold compL
    rw [h1]
    show (f Γ1).bind _ = _
    rw [h2]
    show (compL gs gYes f ds Γ).bind _ = _
    rw [h3]
    rfl
def encC (c : Int × Int × Int × Int) : D := .tup [.int c.1, encL c.2]
/-- where the pieces end -/
def endsOf (sts : List Int) (n : Nat) : List Int := sts.drop 1 ++ [(n : Int)]
theorem ends_get {sts : List Int} {n k : Nat} (hk : k < sts.length) : (endsOf sts n)[k]? = some (if k + 1 < sts.length then sts.getD (k + 1) 0 else (n : Int)) := by
  unfold endsOf
  by_cases h : k + 1 < sts.length
  · rw [if_pos h, List.getElem?_append_left (by simp; omega), List.getElem?_drop]
    simp [Nat.add_comm 1 k, h]
  · rw [if_neg h, List.getElem?_append_right (by simp; omega)]
    have : k - (sts.drop 1).length = 0 := by simp; omega
    rw [this]
    rfl
theorem ends_len {sts : List Int} {n : Nat} : (endsOf sts n).length = sts.length - 1 + 1 := by simp [endsOf]
theorem ev_ends {sts : List Int} {n : Nat} {Γ : DEnv} {i j : Nat} {f : Ex} (hs : sts.length < 10000) (hi : gB i Γ = some (.lst (sts.map D.int))) (hj : f Γ = some (.int n)) : gOp dAdd (gL (gSl (gB i) (gSo (gI 1)) gNo)) (gL (aC f aN)) Γ = some (.lst ((endsOf sts n).map D.int)) := by
  refine ev_op (ev_L (ev_Sl hi (ev_So ev_I) ev_No d_cut)) (ev_L (ev_cs hj ev_nl)) ?_
  have e : cutD sts (some 1) none = sts.drop 1 := cutD_from sts 1
  rw [e]
  exact d_cat (xs := sts.drop 1) (ys := [(n : Int)]) (by simp; omega)
section
variable {p : Te} {F F' F'' : Sm} {Γ : DEnv} {b : Bool} {f : Ex} {d : D} {i : Nat} {P : D → Prop} {gs : Gs} {Γ1 : DEnv}
theorem ex_ifS (h : p Γ = some b) (h1 : b = true → ∃ r, P r ∧ sSeq F F'' Γ = some (.rt r)) (h2 : b = false → ∃ r, P r ∧ sSeq F' F'' Γ = some (.rt r)) : ∃ r, P r ∧ sSeq (sIf p F F') F'' Γ = some (.rt r) := by
  cases b with
  | true =>
    obtain ⟨r, h3, h4⟩ := h1 rfl
    exact ⟨r, h3, sv_ifS h (fun _ => h4) (fun z => by cases z)⟩
  | false =>
    obtain ⟨r, h3, h4⟩ := h2 rfl
    exact ⟨r, h3, sv_ifS h (fun z => by cases z) (fun _ => h4)⟩
theorem ex_set (h : f Γ = some d) (k : ∃ r, P r ∧ F' (Γ.set i (.sh d)) = some (.rt r)) : ∃ r, P r ∧ sSeq (sSet i f) F' Γ = some (.rt r) := by
  obtain ⟨r, h1, h2⟩ := k
  exact ⟨r, h1, sq_set h h2⟩
theorem ex_unp (h : f Γ = some d) (h2 : gs d Γ = some Γ1) (k : ∃ r, P r ∧ F' Γ1 = some (.rt r)) : ∃ r, P r ∧ sSeq (sUnp gs f) F' Γ = some (.rt r) := by
  obtain ⟨r, h3, h4⟩ := k
  exact ⟨r, h3, sq_unp h h2 h4⟩
theorem ex_ret (h : f Γ = some d) (hp : P d) : ∃ r, P r ∧ sRet f Γ = some (.rt r) := ⟨d, hp, sv_ret h⟩
theorem ex_retS (h : f Γ = some d) (hp : P d) : ∃ r, P r ∧ sSeq (sRet f) F' Γ = some (.rt r) := ⟨d, hp, sq_ret h⟩
theorem ex_seqA (h : ∃ r, P r ∧ sSeq F (sSeq F' F'') Γ = some (.rt r)) : ∃ r, P r ∧ sSeq (sSeq F F') F'' Γ = some (.rt r) := by
  obtain ⟨r, h1, h2⟩ := h
  exact ⟨r, h1, by rw [sv_seqA]; exact h2⟩
theorem ex_nilS (h : ∃ r, P r ∧ F Γ = some (.rt r)) : ∃ r, P r ∧ sSeq sNil F Γ = some (.rt r) := h
end
/-! a calculus of what a statement ends in -/
def W (F : Sm) (Γ : DEnv) (P : Res → Prop) : Prop := ∃ r, F Γ = some r ∧ P r
def thenP (F : Sm) (P : Res → Prop) : Res → Prop
  | .nx Γ => W F Γ P
  | r => P r
/-- what a loop's body may end in -/
def bodyP (Iv : DEnv → Prop) (P : Res → Prop) : Res → Prop
  | .nx Γ => Iv Γ
  | .ct Γ => Iv Γ
  | .bk Γ => P (.nx Γ)
  | .rt d => P (.rt d)
  | .rm d s => P (.rm d s)
  | .ro s => P (.ro s)
  | .ra n => P (.ra n)
def isRt (P : D → Prop) : Res → Prop
  | .rt d => P d
  | _ => False
def isRo (P : Sl → Prop) : Res → Prop
  | .ro s => P s
  | _ => False
def isRm (P : D → Sl → Prop) : Res → Prop
  | .rm d s => P d s
  | .nx (s :: _) => P .non s
  | _ => False
section
variable {F F' F'' : Sm} {Γ Γ1 : DEnv} {P Q : Res → Prop} {f : Ex} {fs : Ag} {d : D} {ds : List D} {i : Nat} {p : Te} {b : Bool} {gs : Gs} {it : Ag}
theorem W_mono (h : W F Γ Q) (k : ∀ r, Q r → P r) : W F Γ P := by
  obtain ⟨r, h1, h2⟩ := h
  exact ⟨r, h1, k r h2⟩
theorem W_seq (h : W F Γ (thenP F' P)) : W (sSeq F F') Γ P := by
  obtain ⟨r, h1, h2⟩ := h
  cases r with
  | nx Γ1 =>
    obtain ⟨r2, h3, h4⟩ := h2
    exact ⟨r2, sv_nx h1 h3, h4⟩
  | _ => exact ⟨_, by unfold sSeq; rw [h1]; rfl, h2⟩
theorem W_set (h : f Γ = some d) (k : P (.nx (Γ.set i (.sh d)))) : W (sSet i f) Γ P := ⟨_, sv_set h, k⟩
theorem W_setO (h : fs Γ = some ds) (k : P (.nx (Γ.set i (.ow ds)))) : W (sSetO i fs) Γ P := ⟨_, sv_setO h, k⟩
theorem W_ret (h : f Γ = some d) (k : P (.rt d)) : W (sRet f) Γ P := ⟨_, sv_ret h, k⟩
theorem W_nil (k : P (.nx Γ)) : W sNil Γ P := ⟨_, rfl, k⟩
theorem W_brk (k : P (.bk Γ)) : W sBrk Γ P := ⟨_, rfl, k⟩
theorem W_cnt (k : P (.ct Γ)) : W sCnt Γ P := ⟨_, rfl, k⟩
theorem W_if (h : p Γ = some b) (h1 : b = true → W F Γ P) (h2 : b = false → W F' Γ P) : W (sIf p F F') Γ P := by
  cases b with
  | true =>
    obtain ⟨r, h3, h4⟩ := h1 rfl
    exact ⟨r, sv_ifT h h3, h4⟩
  | false =>
    obtain ⟨r, h3, h4⟩ := h2 rfl
    exact ⟨r, sv_ifF h h3, h4⟩
theorem W_unp (h : f Γ = some d) (h2 : gs d Γ = some Γ1) (k : P (.nx Γ1)) : W (sUnp gs f) Γ P := ⟨_, sv_unp h h2, k⟩
theorem W_app {xs : List D} (h : f Γ = some d) (h1 : Γ[i]? = some (.ow xs)) (h2 : xs.length < 1000000) (k : P (.nx (Γ.set i (.ow (xs ++ [d]))))) : W (sApp i [] f) Γ P := ⟨_, sv_app0 h h1 h2, k⟩
theorem W_aug {x y : D} {o : D → D → Option D} (h1 : Γ[i]? = some (.sh x)) (h2 : f Γ = some y) (h3 : o x y = some d) (k : P (.nx (Γ.set i (.sh d)))) : W (sAug o i f) Γ P := ⟨_, sv_aug h1 h2 h3, k⟩
theorem W_frz (h : W F (frzE i Γ) P) : W (sFrz i F) Γ P := h
theorem W_par {is : List Nat} (h : fs Γ = some ds) (k : P (.nx ((is.zip ds).foldl (fun Γ p => Γ.set p.1 (.sh p.2)) Γ))) : W (sPar is fs) Γ P := ⟨_, sv_par h, k⟩
theorem W_forL (Iv : Nat → DEnv → Prop) : ∀ (ds : List D) (hs : ∀ k d Γ, ds[k]? = some d → Iv k Γ → ∃ Γ1, gs d Γ = some Γ1 ∧ W F Γ1 (bodyP (Iv (k + 1)) P)) (hn : ∀ Γ', Iv ds.length Γ' → P (.nx Γ')) (Γ : DEnv), Iv 0 Γ → W (forL gs F ds) Γ P := by
  have key : ∀ (ds : List D) (m : Nat) (hs : ∀ k d Γ, ds[k]? = some d → Iv (m + k) Γ → ∃ Γ1, gs d Γ = some Γ1 ∧ W F Γ1 (bodyP (Iv (m + k + 1)) P)) (hn : ∀ Γ', Iv (m + ds.length) Γ' → P (.nx Γ')) (Γ : DEnv), Iv m Γ → W (forL gs F ds) Γ P := by
    intro ds
    induction ds with
    | nil => intro m hs hn Γ h0; exact ⟨_, rfl, hn Γ h0⟩
    | cons d ds ih =>
      intro m hs hn Γ h0
      obtain ⟨Γ1, g1, r, h1, h2⟩ := hs 0 d Γ rfl h0
      have rest : ∀ Γ2, Iv (m + 1) Γ2 → W (forL gs F ds) Γ2 P := fun Γ2 h => ih (m + 1) (fun k d Γ hd hi => by
        have e : m + 1 + k = m + (k + 1) := by omega
        rw [e] at hi ⊢
        exact hs (k + 1) d Γ (by simpa using hd) hi) (fun Γ' hi => hn Γ' (by
        have e : m + (d :: ds).length = m + 1 + ds.length := by simp; omega
        rw [e]; exact hi)) Γ2 h
      cases r with
      | nx Γ2 =>
        obtain ⟨r2, h3, h4⟩ := rest Γ2 h2
        exact ⟨r2, forL_nx g1 h1 h3, h4⟩
      | ct Γ2 =>
        obtain ⟨r2, h3, h4⟩ := rest Γ2 h2
        exact ⟨r2, forL_ct g1 h1 h3, h4⟩
      | bk Γ2 => exact ⟨_, forL_bk g1 h1, h2⟩
      | rt d => exact ⟨_, forL_rt g1 h1, h2⟩
      | rm d s => exact ⟨_, by unfold forL; rw [g1]; show (F Γ1).bind _ = _; rw [h1]; rfl, h2⟩
      | ro s => exact ⟨_, by unfold forL; rw [g1]; show (F Γ1).bind _ = _; rw [h1]; rfl, h2⟩
      | ra n => exact ⟨_, by unfold forL; rw [g1]; show (F Γ1).bind _ = _; rw [h1]; rfl, h2⟩
  intro ds hs hn Γ h0
  exact key ds 0 (fun k d Γ hd hi => by rw [Nat.zero_add] at hi ⊢; exact hs k d Γ hd hi) (fun Γ' hi => hn Γ' (by rw [Nat.zero_add] at hi; exact hi)) Γ h0
theorem W_for (Iv : Nat → DEnv → Prop) (hit : it Γ = some ds) (h0 : Iv 0 Γ) (hs : ∀ k d Γ, ds[k]? = some d → Iv k Γ → ∃ Γ1, gs d Γ = some Γ1 ∧ W F Γ1 (bodyP (Iv (k + 1)) P)) (hn : ∀ Γ', Iv ds.length Γ' → P (.nx Γ')) : W (sFor it gs F) Γ P := by
  obtain ⟨r, h1, h2⟩ := W_forL Iv ds hs hn Γ h0
  exact ⟨r, sv_for hit h1, h2⟩
/-- for i in range(..) -/
theorem W_rng (Iv : Nat → DEnv → Prop) {lo : Int} {n : Nat} (hit : it Γ = some (rngD lo n)) (h0 : Iv 0 Γ) (hs : ∀ k Γ, k < n → Iv k Γ → ∃ Γ1, gs (.int (lo + (k : Nat))) Γ = some Γ1 ∧ W F Γ1 (bodyP (Iv (k + 1)) P)) (hn : ∀ Γ', Iv n Γ' → P (.nx Γ')) : W (sFor it gs F) Γ P :=
  W_for Iv hit h0 (fun k d Γ hd hi => by
    obtain ⟨h1, rfl⟩ := rngD_get hd
    exact hs k Γ h1 hi) (fun Γ' h => hn Γ' (by rw [rngD_len] at h; exact h))
/-- for x in xs, the list of the data of some things -/
theorem W_map {α : Type} {enc : α → D} {xs : List α} (Iv : Nat → DEnv → Prop) (hit : it Γ = some (xs.map enc)) (h0 : Iv 0 Γ) (hs : ∀ k a Γ, xs[k]? = some a → Iv k Γ → ∃ Γ1, gs (enc a) Γ = some Γ1 ∧ W F Γ1 (bodyP (Iv (k + 1)) P)) (hn : ∀ Γ', Iv xs.length Γ' → P (.nx Γ')) : W (sFor it gs F) Γ P :=
  W_for Iv hit h0 (fun k d Γ hd hi => by
    rw [List.getElem?_map] at hd
    obtain ⟨a, ha, rfl⟩ := Option.map_eq_some_iff.mp hd
    exact hs k a Γ ha hi) (fun Γ' h => hn Γ' (by rw [List.length_map] at h; exact h))
theorem W_while (Iv : Nat → DEnv → Prop) (h0 : ∃ m, Iv m Γ) (hs : ∀ m Γ, Iv m Γ → ∃ b, p Γ = some b ∧ (b = false → P (.nx Γ)) ∧ (b = true → W F Γ (bodyP (fun Γ' => ∃ m', m' < m ∧ Iv m' Γ') P))) : W (sWhile p F) Γ P := by
  obtain ⟨m, h0⟩ := h0
  have key : ∀ (n m : Nat) (Γ : DEnv), m < n → Iv m Γ → W (whileN n p F) Γ P := by
    intro n
    induction n with
    | zero => intro m Γ h; omega
    | succ n ih =>
      intro m Γ hm h
      obtain ⟨b, h1, h2, h3⟩ := hs m Γ h
      cases b with
      | false =>
        refine ⟨.nx Γ, ?_, h2 rfl⟩
        unfold whileN
        rw [h1]
        rfl
      | true =>
        obtain ⟨r, h4, h5⟩ := h3 rfl
        cases r with
        | nx Γ2 =>
          obtain ⟨m', k1, k2⟩ := h5
          obtain ⟨r2, h6, h7⟩ := ih m' Γ2 (by omega) k2
          exact ⟨r2, by rw [whileN, h1]; show (F Γ).bind _ = _; rw [h4]; exact h6, h7⟩
        | ct Γ2 =>
          obtain ⟨m', k1, k2⟩ := h5
          obtain ⟨r2, h6, h7⟩ := ih m' Γ2 (by omega) k2
          exact ⟨r2, by rw [whileN, h1]; show (F Γ).bind _ = _; rw [h4]; exact h6, h7⟩
        | bk Γ2 => exact ⟨_, by rw [whileN, h1]; show (F Γ).bind _ = _; rw [h4]; rfl, h5⟩
        | rt d => exact ⟨_, by rw [whileN, h1]; show (F Γ).bind _ = _; rw [h4]; rfl, h5⟩
        | rm d s => exact ⟨_, by rw [whileN, h1]; show (F Γ).bind _ = _; rw [h4]; rfl, h5⟩
        | ro s => exact ⟨_, by rw [whileN, h1]; show (F Γ).bind _ = _; rw [h4]; rfl, h5⟩
        | ra n => exact ⟨_, by rw [whileN, h1]; show (F Γ).bind _ = _; rw [h4]; rfl, h5⟩
  obtain ⟨r, h1, h2⟩ := key (m + 1) m Γ (by omega) h0
  exact ⟨r, sWhile_of h1, h2⟩
theorem run_W {N : Nat} {B : Sm} {P : D → Prop} (h : W B (ds.map Sl.sh ++ List.replicate (N - ds.length) .no) (isRt P)) : ∃ d, runB N B ds = some d ∧ P d := by
  obtain ⟨r, h1, h2⟩ := h
  cases r with
  | rt d => exact ⟨d, sv_run h1, h2⟩
  | _ => exact h2.elim
theorem run_Weq {N : Nat} {B : Sm} (h : W B (ds.map Sl.sh ++ List.replicate (N - ds.length) .no) (isRt (· = d))) : runB N B ds = some d := by
  obtain ⟨d', h1, rfl⟩ := run_W h
  exact h1
theorem run_WO {N : Nat} {B : Sm} {P : Sl → Prop} (h : W B (ds.map Sl.sh ++ List.replicate (N - ds.length) .no) (isRo P)) : ∃ s, DL.runN N B ds = some s ∧ P s := by
  obtain ⟨r, h1, h2⟩ := h
  cases r with
  | ro s => exact ⟨s, sv_runO h1, h2⟩
  | ra n => exact h2.elim
  | _ => exact h2.elim
/-- a loop that tests: at the first thing that fails it returns the value r -/
theorem W_chk {α : Type} {enc : α → D} {xs : List α} (t : Nat → Bool) (Iv : DEnv → Prop) (hit : it Γ = some (xs.map enc)) (h0 : Iv Γ) (hs : ∀ k a Γ, xs[k]? = some a → Iv Γ → ∃ Γ1, gs (enc a) Γ = some Γ1 ∧ W F Γ1 (bodyP (fun Γ' => t k = true ∧ Iv Γ') fun r => t k = false ∧ P r)) (hn : (List.range xs.length).all t = true → ∀ Γ', Iv Γ' → P (.nx Γ')) : W (sFor it gs F) Γ P := by
  refine W_map (fun k Γ => (∀ j, j < k → t j = true) ∧ Iv Γ) hit ⟨fun j h => by omega, h0⟩ (fun k a Γ ha hi => ?_) fun Γ' h => hn (by simpa [List.all_eq_true] using h.1) Γ' h.2
  obtain ⟨Γ1, h1, h2⟩ := hs k a Γ ha hi.2
  refine ⟨Γ1, h1, W_mono h2 fun r hr => ?_⟩
  have fin : ∀ Γ', (t k = true ∧ Iv Γ') → ((∀ j, j < k + 1 → t j = true) ∧ Iv Γ') := fun Γ' h => ⟨fun j hj => by
    by_cases e : j = k
    · rw [e]; exact h.1
    · exact hi.1 j (by omega), h.2⟩
  cases r with
  | nx Γ' => exact fin Γ' hr
  | ct Γ' => exact fin Γ' hr
  | bk Γ' => exact hr.2
  | rt d => exact hr.2
  | rm d s => exact hr.2
  | ro s => exact hr.2
  | ra n => exact hr.2
theorem wq_set (h : f Γ = some d) (k : W F' (Γ.set i (.sh d)) P) : W (sSeq (sSet i f) F') Γ P := W_seq (W_set h k)
theorem wq_setO (h : fs Γ = some ds) (k : W F' (Γ.set i (.ow ds)) P) : W (sSeq (sSetO i fs) F') Γ P := W_seq (W_setO h k)
theorem wq_unp (h : f Γ = some d) (h2 : gs d Γ = some Γ1) (k : W F' Γ1 P) : W (sSeq (sUnp gs f) F') Γ P := W_seq (W_unp h h2 k)
theorem wq_app {xs : List D} (h : f Γ = some d) (h1 : Γ[i]? = some (.ow xs)) (h2 : xs.length < 1000000) (k : W F' (Γ.set i (.ow (xs ++ [d]))) P) : W (sSeq (sApp i [] f) F') Γ P := W_seq (W_app h h1 h2 k)
theorem wq_par {is : List Nat} (h : fs Γ = some ds) (k : W F' ((is.zip ds).foldl (fun Γ p => Γ.set p.1 (.sh p.2)) Γ) P) : W (sSeq (sPar is fs) F') Γ P := W_seq (W_par h k)
theorem wq_if (h : p Γ = some b) (h1 : b = true → W F Γ (thenP F'' P)) (h2 : b = false → W F' Γ (thenP F'' P)) : W (sSeq (sIf p F F') F'') Γ P := W_seq (W_if h h1 h2)
/-- if p: return f -/
theorem wq_ifR (h : p Γ = some b) (h1 : b = true → ∃ d, f Γ = some d ∧ P (.rt d)) (h2 : b = false → W F'' Γ P) : W (sSeq (sIf p (sRet f) sNil) F'') Γ P :=
  W_seq (W_if h (fun e => by
    obtain ⟨d, h3, h4⟩ := h1 e
    exact W_ret h3 h4) fun e => W_nil (h2 e))
theorem wq_ret (h : f Γ = some d) (k : P (.rt d)) : W (sSeq (sRet f) F') Γ P := W_seq (W_ret h k)
theorem wq_ifN (h : p Γ = some b) (hb : b = false) (k : W F'' Γ P) : W (sSeq (sIf p F sNil) F'') Γ P := W_seq (W_if h (fun e => by rw [hb] at e; cases e) fun _ => W_nil k)
theorem wq_for (Iv : Nat → DEnv → Prop) (hit : it Γ = some ds) (h0 : Iv 0 Γ) (hs : ∀ k d Γ, ds[k]? = some d → Iv k Γ → ∃ Γ1, gs d Γ = some Γ1 ∧ W F Γ1 (bodyP (Iv (k + 1)) (thenP F' P))) (hn : ∀ Γ', Iv ds.length Γ' → W F' Γ' P) : W (sSeq (sFor it gs F) F') Γ P := W_seq (W_for Iv hit h0 hs hn)
theorem wq_rng (Iv : Nat → DEnv → Prop) {lo : Int} {n : Nat} (hit : it Γ = some (rngD lo n)) (h0 : Iv 0 Γ) (hs : ∀ k Γ, k < n → Iv k Γ → ∃ Γ1, gs (.int (lo + (k : Nat))) Γ = some Γ1 ∧ W F Γ1 (bodyP (Iv (k + 1)) (thenP F' P))) (hn : ∀ Γ', Iv n Γ' → W F' Γ' P) : W (sSeq (sFor it gs F) F') Γ P := W_seq (W_rng Iv hit h0 hs hn)
theorem wq_map {α : Type} {enc : α → D} {xs : List α} (Iv : Nat → DEnv → Prop) (hit : it Γ = some (xs.map enc)) (h0 : Iv 0 Γ) (hs : ∀ k a Γ, xs[k]? = some a → Iv k Γ → ∃ Γ1, gs (enc a) Γ = some Γ1 ∧ W F Γ1 (bodyP (Iv (k + 1)) (thenP F' P))) (hn : ∀ Γ', Iv xs.length Γ' → W F' Γ' P) : W (sSeq (sFor it gs F) F') Γ P := W_seq (W_map Iv hit h0 hs hn)
/-- a loop of tests over things that a list of data tells -/
theorem wq_chk (t : Nat → Bool) (Iv : DEnv → Prop) (hit : it Γ = some ds) (h0 : Iv Γ) (hs : ∀ k d Γ, ds[k]? = some d → Iv Γ → ∃ Γ1, gs d Γ = some Γ1 ∧ (t k = true → W F Γ1 (bodyP Iv fun _ => False)) ∧ (t k = false → W F Γ1 (bodyP (fun _ => False) (thenP F' P)))) (hn : (List.range ds.length).all t = true → ∀ Γ', Iv Γ' → W F' Γ' P) : W (sSeq (sFor it gs F) F') Γ P := by
  refine wq_for (fun k Γ => (∀ j, j < k → t j = true) ∧ Iv Γ) hit ⟨fun j h => by omega, h0⟩ (fun k a Γ ha hi => ?_) fun Γ' h => hn (by simpa [List.all_eq_true] using h.1) Γ' h.2
  obtain ⟨Γ1, h1, h2, h3⟩ := hs k a Γ ha hi.2
  refine ⟨Γ1, h1, ?_⟩
  cases e : t k with
  | false =>
    refine W_mono (h3 e) fun r hr => ?_
    cases r with
    | nx Γ' => exact hr.elim
    | ct Γ' => exact hr.elim
    | bk Γ' => exact hr
    | rt d => exact hr
    | rm d s => exact hr
    | ro s => exact hr
    | ra n => exact hr
  | true =>
    refine W_mono (h2 e) fun r hr => ?_
    have fin : ∀ Γ', Iv Γ' → ((∀ j, j < k + 1 → t j = true) ∧ Iv Γ') := fun Γ' h => ⟨fun j hj => by
      by_cases e2 : j = k
      · rw [e2]; exact e
      · exact hi.1 j (by omega), h⟩
    cases r with
    | nx Γ' => exact fin Γ' hr
    | ct Γ' => exact fin Γ' hr
    | bk Γ' => exact hr.elim
    | rt d => exact hr.elim
    | rm d s => exact hr.elim
    | ro s => exact hr.elim
    | ra n => exact hr.elim
theorem W_ifR (h : p Γ = some b) (h1 : b = true → ∃ d, f Γ = some d ∧ P (.rt d)) (h2 : b = false → P (.nx Γ)) : W (sIf p (sRet f) sNil) Γ P :=
  W_if h (fun e => by
    obtain ⟨d, h3, h4⟩ := h1 e
    exact W_ret h3 h4) fun e => W_nil (h2 e)
end
theorem ev_Bb {Γ : DEnv} {i : Nat} {d : D} (h : Γ[i]? = some (.bo d)) : gB i Γ = some d := by unfold gB; rw [h]
theorem run_WKeq {ms : List Bool} {N : Nat} {B : Sm} {ds : List D} {d : D} (h : W B (slM ms ds ++ List.replicate (N - ms.length) .no) (isRt (· = d))) : runK ms N B ds = some d := by
  obtain ⟨r, h1, h2⟩ := h
  cases r with
  | rt d' =>
    have e : d' = d := h2
    subst e
    unfold runK
    rw [h1]
    rfl
  | _ => exact h2.elim
theorem run_WK {ms : List Bool} {N : Nat} {B : Sm} {ds : List D} {P : D → Prop} (h : W B (slM ms ds ++ List.replicate (N - ms.length) .no) (isRt P)) : ∃ d, runK ms N B ds = some d ∧ P d := by
  obtain ⟨r, h1, h2⟩ := h
  cases r with
  | rt d' => exact ⟨d', by unfold runK; rw [h1]; rfl, h2⟩
  | _ => exact h2.elim
theorem W_pop {Γ : DEnv} {i : Nat} {xs : List D} {P : Res → Prop} (h1 : Γ[i]? = some (.ow xs)) (hne : xs ≠ []) (k : P (.nx (Γ.set i (.ow xs.dropLast)))) : W (sPop i []) Γ P := by
  refine ⟨.nx (Γ.set i (.ow xs.dropLast)), ?_, k⟩
  have e1 : gP i [] Γ = some (.ow xs) := by unfold gP; rw [h1]; rfl
  have e3 : upP i [] (.ow xs.dropLast) Γ = some (.nx (Γ.set i (.ow xs.dropLast))) := by unfold upP; rw [h1]; rfl
  unfold sPop
  rw [e1]
  show (if xs = [] then none else upP i [] (.ow xs.dropLast) Γ) = _
  rw [if_neg hne, e3]
theorem wq_while {F F' : Sm} {p : Te} {Γ : DEnv} {P : Res → Prop} (Iv : Nat → DEnv → Prop) (h0 : ∃ m, Iv m Γ) (hs : ∀ m Γ, Iv m Γ → ∃ b, p Γ = some b ∧ (b = false → W F' Γ P) ∧ (b = true → W F Γ (bodyP (fun Γ' => ∃ m', m' < m ∧ Iv m' Γ') (thenP F' P)))) : W (sSeq (sWhile p F) F') Γ P := W_seq (W_while Iv h0 hs)
/-- a loop of tests whose invariant tells the turn -/
theorem wq_chkI {F F' : Sm} {Γ : DEnv} {P : Res → Prop} {it : Ag} {gs : Gs} {ds : List D} (t : Nat → Bool) (Iv : Nat → DEnv → Prop) (hit : it Γ = some ds) (h0 : Iv 0 Γ) (hs : ∀ k d Γ, ds[k]? = some d → Iv k Γ → ∃ Γ1, gs d Γ = some Γ1 ∧ (t k = true → W F Γ1 (bodyP (Iv (k + 1)) fun _ => False)) ∧ (t k = false → W F Γ1 (bodyP (fun _ => False) (thenP F' P)))) (hn : (List.range ds.length).all t = true → ∀ Γ', Iv ds.length Γ' → W F' Γ' P) : W (sSeq (sFor it gs F) F') Γ P := by
  refine wq_for (fun k Γ => (∀ j, j < k → t j = true) ∧ Iv k Γ) hit ⟨fun j h => by omega, h0⟩ (fun k a Γ ha hi => ?_) fun Γ' h => hn (by simpa [List.all_eq_true] using h.1) Γ' h.2
  obtain ⟨Γ1, h1, h2, h3⟩ := hs k a Γ ha hi.2
  refine ⟨Γ1, h1, ?_⟩
  cases e : t k with
  | false =>
    refine W_mono (h3 e) fun r hr => ?_
    cases r with
    | nx Γ' => exact hr.elim
    | ct Γ' => exact hr.elim
    | bk Γ' => exact hr
    | rt d => exact hr
    | rm d s => exact hr
    | ro s => exact hr
    | ra n => exact hr
  | true =>
    refine W_mono (h2 e) fun r hr => ?_
    have fin : ∀ Γ', Iv (k + 1) Γ' → ((∀ j, j < k + 1 → t j = true) ∧ Iv (k + 1) Γ') := fun Γ' h => ⟨fun j hj => by
      by_cases e2 : j = k
      · rw [e2]; exact e
      · exact hi.1 j (by omega), h⟩
    cases r with
    | nx Γ' => exact fin Γ' hr
    | ct Γ' => exact fin Γ' hr
    | bk Γ' => exact hr.elim
    | rt d => exact hr.elim
    | rm d s => exact hr.elim
    | ro s => exact hr.elim
    | ra n => exact hr.elim
/-- a loop of tests: r is returned at the first that fails; such loops stand in one another -/
theorem W_tst {F : Sm} {Γ : DEnv} {P : Res → Prop} {it : Ag} {gs : Gs} {ds : List D} {r : D} (t : Nat → Bool) (Iv : DEnv → Prop) (hit : it Γ = some ds) (h0 : Iv Γ) (hs : ∀ k d Γ, ds[k]? = some d → Iv Γ → ∃ Γ1, gs d Γ = some Γ1 ∧ ∀ P' : Res → Prop, (t k = true → ∀ Γ2, Iv Γ2 → P' (.nx Γ2)) → (t k = false → P' (.rt r)) → W F Γ1 P') (h1 : (List.range ds.length).all t = true → ∀ Γ', Iv Γ' → P (.nx Γ')) (h2 : (List.range ds.length).all t = false → P (.rt r)) : W (sFor it gs F) Γ P := by
  refine W_for (fun k Γ => (∀ j, j < k → t j = true) ∧ Iv Γ) hit ⟨fun j h => by omega, h0⟩ (fun k d Γ hd hi => ?_) fun Γ' h => h1 (by simpa [List.all_eq_true] using h.1) Γ' h.2
  obtain ⟨Γ1, g1, hw⟩ := hs k d Γ hd hi.2
  refine ⟨Γ1, g1, hw _ (fun e Γ2 hi2 => ⟨fun j hj => ?_, hi2⟩) fun e => h2 ?_⟩
  · by_cases e2 : j = k
    · rw [e2]; exact e
    · exact hi.1 j (by omega)
  · rw [Bool.eq_false_iff]
    intro w
    have := List.all_eq_true.mp w k (List.mem_range.mpr (List.getElem?_eq_some_iff.mp hd).1)
    rw [e] at this
    cases this
/-! which ranges of points fit -/
def FitR (pts : List (Int × Int)) (e : Int) (a b : Nat) : Prop := ∀ i j m, a ≤ i → i < j → j < m → m < b → three (pAt pts i) (pAt pts j) (pAt pts m) e = true
theorem FitR.mono {pts : List (Int × Int)} {e : Int} {a b a' b' : Nat} (h : FitR pts e a b) (ha : a ≤ a') (hb : b' ≤ b) : FitR pts e a' b' := fun i j m h1 h2 h3 h4 => h i j m (by omega) h2 h3 (by omega)
theorem fitsB_iff {pts : List (Int × Int)} {e : Int} : fitsB pts e = true ↔ FitR pts e 0 pts.length := by
  unfold fitsB FitR
  simp only [List.all_eq_true, List.mem_range]
  constructor
  · intro h i j m _ h2 h3 h4
    obtain ⟨j, rfl⟩ : ∃ j', j = j' + 1 := ⟨j - 1, by omega⟩
    obtain ⟨m, rfl⟩ : ∃ m', m = m' + 2 := ⟨m - 2, by omega⟩
    exact h m (by omega) j (by omega) i (by omega)
  · intro h m hm j hj i hi
    exact h i (j + 1) (m + 2) (by omega) (by omega) (by omega) (by omega)
theorem slice_len {pts : List (Int × Int)} {a b : Nat} (hb : b ≤ pts.length) : (cutD pts (some (a : Int)) (some (b : Int))).length = b - a := by
  rw [cutD_nat pts a b hb]
  simp
  omega
theorem slice_at {pts : List (Int × Int)} {a b i : Nat} (hb : b ≤ pts.length) (hi : i < b - a) : pAt (cutD pts (some (a : Int)) (some (b : Int))) i = pAt pts (a + i) := by
  rw [cutD_nat pts a b hb]
  unfold pAt
  rw [List.getD_eq_getElem?_getD, List.getD_eq_getElem?_getD, List.getElem?_take_of_lt hi, List.getElem?_drop]
theorem fit_slice {pts : List (Int × Int)} {e : Int} {a b : Nat} (hb : b ≤ pts.length) : fitsB (cutD pts (some (a : Int)) (some (b : Int))) e = true ↔ FitR pts e a b := by
  rw [fitsB_iff, slice_len hb]
  constructor
  · intro h i j m h1 h2 h3 h4
    have := h (i - a) (j - a) (m - a) (by omega) (by omega) (by omega) (by omega)
    rw [slice_at hb (by omega), slice_at hb (by omega), slice_at hb (by omega)] at this
    have e1 : a + (i - a) = i := by omega
    have e2 : a + (j - a) = j := by omega
    have e3 : a + (m - a) = m := by omega
    rwa [e1, e2, e3] at this
  · intro h i j m _ h2 h3 h4
    rw [slice_at hb (by omega), slice_at hb (by omega), slice_at hb (by omega)]
    exact h _ _ _ (by omega) (by omega) (by omega) (by omega)
abbrev Vx := Int × Int × Int
/-- how high a point lies over lines of the slope rise / run, times run, for the side t -/
def val (t rise run : Int) (p : Vx) : Int := t * (run * p.2.1 - rise * p.1)
def cr (t : Int) (a b v : Vx) : Int := t * ((b.2.1 - a.2.1) * (v.1 - a.1) - (v.2.1 - a.2.1) * (b.1 - a.1))
theorem cr_val (t rise run : Int) (a b d : Vx) : run * cr t a b d = (val t rise run b - val t rise run a) * (d.1 - b.1) + (val t rise run b - val t rise run d) * (b.1 - a.1) := by
  unfold val cr; grind
theorem val_neg (t rise run : Int) (p : Vx) : val (-t) rise run p = -val t rise run p := by unfold val; grind
/-- of three, the middle one does not stand out: it is dominated -/
theorem dominated {t rise run : Int} {a b d : Vx} (h1 : a.1 < b.1) (h2 : b.1 < d.1) (hr : 0 < run) (h : cr t a b d ≤ 0) : val t rise run b ≤ val t rise run a ∨ val t rise run b ≤ val t rise run d := by
  by_cases x : val t rise run b ≤ val t rise run a
  · exact .inl x
  · by_cases y : val t rise run b ≤ val t rise run d
    · exact .inr y
    · have e := cr_val t rise run a b d
      have p1 := Int.mul_pos (a := val t rise run b - val t rise run a) (b := d.1 - b.1) (by omega) (by omega)
      have p2 := Int.mul_pos (a := val t rise run b - val t rise run d) (b := b.1 - a.1) (by omega) (by omega)
      have p3 := Int.mul_nonneg (a := run) (b := -cr t a b d) (by omega) (by omega)
      have : run * -cr t a b d = -(run * cr t a b d) := Int.mul_neg _ _
      omega
/-- behind a point that is not higher than the next one stands a lower one -/
theorem peakL {t rise run : Int} {a b d : Vx} (h1 : a.1 < b.1) (h2 : b.1 < d.1) (hr : 0 < run) (h : 0 < cr t a b d) (hb : val t rise run b ≤ val t rise run d) : val t rise run a ≤ val t rise run b := by
  by_cases x : val t rise run a ≤ val t rise run b
  · exact x
  · have e := cr_val t rise run a b d
    have p1 := Int.mul_nonneg (a := val t rise run a - val t rise run b) (b := d.1 - b.1) (by omega) (by omega)
    have p2 := Int.mul_nonneg (a := val t rise run d - val t rise run b) (b := b.1 - a.1) (by omega) (by omega)
    have p3 := Int.mul_pos hr h
    have e1 : (val t rise run a - val t rise run b) * (d.1 - b.1) = -((val t rise run b - val t rise run a) * (d.1 - b.1)) := by grind
    have e2 : (val t rise run d - val t rise run b) * (b.1 - a.1) = -((val t rise run b - val t rise run d) * (b.1 - a.1)) := by grind
    omega
theorem peakR {t rise run : Int} {a b d : Vx} (h1 : a.1 < b.1) (h2 : b.1 < d.1) (hr : 0 < run) (h : 0 < cr t a b d) (hb : val t rise run b ≤ val t rise run a) : val t rise run d ≤ val t rise run b := by
  by_cases x : val t rise run d ≤ val t rise run b
  · exact x
  · have e := cr_val t rise run a b d
    have p1 := Int.mul_nonneg (a := val t rise run a - val t rise run b) (b := d.1 - b.1) (by omega) (by omega)
    have p2 := Int.mul_nonneg (a := val t rise run d - val t rise run b) (b := b.1 - a.1) (by omega) (by omega)
    have p3 := Int.mul_pos hr h
    have e1 : (val t rise run a - val t rise run b) * (d.1 - b.1) = -((val t rise run b - val t rise run a) * (d.1 - b.1)) := by grind
    have e2 : (val t rise run d - val t rise run b) * (b.1 - a.1) = -((val t rise run b - val t rise run d) * (b.1 - a.1)) := by grind
    omega

/-! ### hulls -/
def vAt (c : List Vx) (i : Nat) : Vx := c.getD i (0, 0, 0)
theorem vAt_get {c : List Vx} {i : Nat} (h : i < c.length) : c[i]? = some (vAt c i) := by simp [vAt, h]
theorem vAt_mem {c : List Vx} {i : Nat} (h : i < c.length) : vAt c i ∈ c := List.mem_of_getElem? (vAt_get h)
theorem mem_vAt {c : List Vx} {q : Vx} (h : q ∈ c) : ∃ i, i < c.length ∧ vAt c i = q := by
  obtain ⟨i, hi, e⟩ := List.mem_iff_getElem.mp h
  exact ⟨i, hi, by simp [vAt, hi, e]⟩
def AscX (c : List Vx) : Prop := ∀ i j, i < j → j < c.length → (vAt c i).1 < (vAt c j).1 ∧ (vAt c i).2.2 < (vAt c j).2.2
structure Hull (t : Int) (c P : List Vx) : Prop where
  ne : c ≠ []
  sub : ∀ q ∈ c, q ∈ P
  asc : AscX c
  conv : ∀ i, i + 2 < c.length → 0 < cr t (vAt c i) (vAt c (i + 1)) (vAt c (i + 2))
  sup : ∀ p ∈ P, ∀ rise run, 0 < run → ∃ q ∈ c, val t rise run p ≤ val t rise run q
def keptN (t : Int) (c : List Vx) (v : Vx) : Nat → Nat
  | 0 => 0
  | 1 => 1
  | n + 2 => if 0 < cr t (vAt c n) (vAt c (n + 1)) v then n + 2 else keptN t c v (n + 1)
theorem keptN_le (t : Int) (c : List Vx) (v : Vx) : ∀ n, keptN t c v n ≤ n
  | 0 => Nat.le_refl _
  | 1 => Nat.le_refl _
  | n + 2 => by
    unfold keptN
    split
    · exact Nat.le_refl _
    · exact Nat.le_trans (keptN_le t c v (n + 1)) (by omega)
theorem keptN_pos (t : Int) (c : List Vx) (v : Vx) : ∀ n, 0 < n → 0 < keptN t c v n
  | 1, _ => by unfold keptN; omega
  | n + 2, _ => by
    unfold keptN
    split
    · omega
    · exact keptN_pos t c v (n + 1) (by omega)
theorem keptN_conv (t : Int) (c : List Vx) (v : Vx) : ∀ n k, keptN t c v n = k + 2 → 0 < cr t (vAt c k) (vAt c (k + 1)) v
  | 0, k, h => by unfold keptN at h; omega
  | 1, k, h => by unfold keptN at h; omega
  | n + 2, k, h => by
    unfold keptN at h
    split at h
    · have : n = k := by omega
      subst this
      assumption
    · exact keptN_conv t c v (n + 1) k h
theorem vAt_take {c : List Vx} {n i : Nat} (h : i < n) : vAt (c.take n) i = vAt c i := by
  unfold vAt
  rw [List.getD_eq_getElem?_getD, List.getD_eq_getElem?_getD, List.getElem?_take_of_lt h]
theorem vAt_app {c d : List Vx} {i : Nat} (h : i < c.length) : vAt (c ++ d) i = vAt c i := by
  unfold vAt
  rw [List.getD_eq_getElem?_getD, List.getD_eq_getElem?_getD, List.getElem?_append_left h]
theorem vAt_last {c : List Vx} {v : Vx} : vAt (c ++ [v]) c.length = v := by simp [vAt]
def putb (t : Int) (c : List Vx) (v : Vx) : List Vx := c.take (keptN t c v c.length) ++ [v]
theorem putb_len (t : Int) (c : List Vx) (v : Vx) : (putb t c v).length = keptN t c v c.length + 1 := by
  have := keptN_le t c v c.length
  simp [putb]; omega
theorem putb_at {t : Int} {c : List Vx} {v : Vx} {i : Nat} (h : i < keptN t c v c.length) : vAt (putb t c v) i = vAt c i := by
  have := keptN_le t c v c.length
  unfold putb
  rw [vAt_app (by simp; omega), vAt_take h]
theorem putb_end {t : Int} {c : List Vx} {v : Vx} : vAt (putb t c v) (keptN t c v c.length) = v := by
  have := keptN_le t c v c.length
  have h := vAt_last (c := c.take (keptN t c v c.length)) (v := v)
  have e : (c.take (keptN t c v c.length)).length = keptN t c v c.length := by simp; omega
  rw [e] at h
  exact h
/-- what is popped is dominated by what stays and the new one -/
theorem kept_sup {t : Int} {c : List Vx} {v : Vx} (asc : AscX c) (hv : ∀ q ∈ c, q.1 < v.1) {rise run : Int} (hr : 0 < run) : ∀ n, n ≤ c.length → ∀ i, i < n → (∃ j, j < keptN t c v n ∧ val t rise run (vAt c i) ≤ val t rise run (vAt c j)) ∨ val t rise run (vAt c i) ≤ val t rise run v
  | 0, _, i, h => by omega
  | 1, _, i, h => .inl ⟨0, by unfold keptN; omega, by have : i = 0 := by omega
                                                      subst this; exact Int.le_refl _⟩
  | n + 2, hn, i, hi => by
    unfold keptN
    split
    · exact .inl ⟨i, hi, Int.le_refl _⟩
    · rename_i hc
      have ih := kept_sup (t := t) (v := v) asc hv (rise := rise) hr (n + 1) (by omega)
      by_cases e : i < n + 1
      · exact ih i e
      · have : i = n + 1 := by omega
        subst this
        rcases dominated (t := t) (rise := rise) (run := run) (asc n (n + 1) (by omega) (by omega)).1 (hv _ (vAt_mem (c := c) (i := n + 1) (by omega))) hr (by omega) with h | h
        · rcases ih n (by omega) with ⟨j, h1, h2⟩ | h2
          · exact .inl ⟨j, h1, Int.le_trans h h2⟩
          · exact .inr (Int.le_trans h h2)
        · exact .inr h
theorem Hull.first {t : Int} {v : Vx} : Hull t [v] [v] :=
  ⟨by simp, fun q h => h, fun i j h1 h2 => by simp at h2; omega, fun i h => by simp at h, fun p hp rise run _ => ⟨p, hp, Int.le_refl _⟩⟩
theorem Hull.put {t : Int} {c P : List Vx} {v : Vx} (h : Hull t c P) (hv : ∀ q ∈ P, q.1 < v.1 ∧ q.2.2 < v.2.2) : Hull t (putb t c v) (P ++ [v]) := by
  have kle := keptN_le t c v c.length
  have hl := putb_len t c v
  have hcv : ∀ q ∈ c, q.1 < v.1 := fun q hq => (hv q (h.sub q hq)).1
  refine ⟨fun e => by rw [e] at hl; simp at hl, fun q hq => ?_, fun i j hij hj => ?_, fun i hi => ?_, fun p hp rise run hr => ?_⟩
  · rcases List.mem_append.mp hq with z | z
    · exact List.mem_append_left _ (h.sub q (List.mem_of_mem_take z))
    · exact List.mem_append_right _ z
  · rw [hl] at hj
    rw [putb_at (show i < keptN t c v c.length by omega)]
    by_cases e : j < keptN t c v c.length
    · rw [putb_at e]
      exact h.asc i j hij (by omega)
    · have : j = keptN t c v c.length := by omega
      subst this
      rw [putb_end]
      exact hv _ (h.sub _ (vAt_mem (by omega)))
  · rw [hl] at hi
    rw [putb_at (show i < keptN t c v c.length by omega), putb_at (show i + 1 < keptN t c v c.length by omega)]
    by_cases e : i + 2 < keptN t c v c.length
    · rw [putb_at e]
      exact h.conv i (by omega)
    · have e2 : keptN t c v c.length = i + 2 := by omega
      have := putb_end (t := t) (c := c) (v := v)
      rw [e2] at this
      rw [this]
      exact keptN_conv t c v c.length i e2
  · have inn : ∀ j, j < keptN t c v c.length → vAt c j ∈ putb t c v := fun j hj => by
      have := vAt_mem (c := putb t c v) (i := j) (by omega)
      rw [putb_at hj] at this
      exact this
    have inv : v ∈ putb t c v := List.mem_append_right _ (List.mem_singleton.mpr rfl)
    rcases List.mem_append.mp hp with z | z
    · obtain ⟨q, hq, hle⟩ := h.sup p z rise run hr
      obtain ⟨i, hi, rfl⟩ := mem_vAt hq
      rcases kept_sup (t := t) (v := v) h.asc hcv (rise := rise) hr c.length (Nat.le_refl _) i hi with ⟨j, h1, h2⟩ | h2
      · exact ⟨_, inn j h1, Int.le_trans hle h2⟩
      · exact ⟨v, inv, Int.le_trans hle h2⟩
    · rw [List.mem_singleton] at z
      subst z
      exact ⟨p, inv, Int.le_refl _⟩
/-- the last edge of a new hull: all points lie on one side of it -/
theorem Hull.tangent {t : Int} {c P : List Vx} {v : Vx} (h : Hull t c P) (hv : ∀ q ∈ P, q.1 < v.1 ∧ q.2.2 < v.2.2) {a : Vx} (ha : a = vAt c (keptN t c v c.length - 1)) :
    a ∈ P ∧ a.1 < v.1 ∧ a.2.2 < v.2.2 ∧ ∀ p ∈ P, val t (v.2.1 - a.2.1) (v.1 - a.1) p ≤ val t (v.2.1 - a.2.1) (v.1 - a.1) a := by
  have kle := keptN_le t c v c.length
  have cl : 0 < c.length := List.length_pos_iff.mpr h.ne
  have kp := keptN_pos t c v c.length cl
  have am : a ∈ P := by rw [ha]; exact h.sub _ (vAt_mem (by omega))
  have av := hv a am
  refine ⟨am, av.1, av.2, fun p hp => ?_⟩
  have H := h.put hv
  have hl := putb_len t c v
  generalize hK : keptN t c v c.length = K at *
  have hr : 0 < v.1 - a.1 := by omega
  have veq : val t (v.2.1 - a.2.1) (v.1 - a.1) v = val t (v.2.1 - a.2.1) (v.1 - a.1) a := by unfold val; grind
  have eK : vAt (putb t c v) K = v := by rw [← hK]; exact putb_end
  have eA : vAt (putb t c v) (K - 1) = a := by rw [putb_at (by omega), ha]
  -- along the chain
  have up : ∀ m, m ≤ K → val t (v.2.1 - a.2.1) (v.1 - a.1) (vAt (putb t c v) (K - m)) ≤ val t (v.2.1 - a.2.1) (v.1 - a.1) a ∧ (m ≠ 0 → val t (v.2.1 - a.2.1) (v.1 - a.1) (vAt (putb t c v) (K - m)) ≤ val t (v.2.1 - a.2.1) (v.1 - a.1) (vAt (putb t c v) (K - m + 1))) := fun m => by
    induction m with
    | zero => intro _; rw [Nat.sub_zero, eK, veq]; exact ⟨Int.le_refl _, fun z => absurd rfl z⟩
    | succ m ih =>
      intro hm
      obtain ⟨i1, i2⟩ := ih (by omega)
      by_cases m0 : m = 0
      · subst m0
        have e1 : K - (0 + 1) + 1 = K := by omega
        rw [e1, eA, eK, veq]
        exact ⟨Int.le_refl _, fun _ => Int.le_refl _⟩
      · have i2 := i2 m0
        have e1 : K - (m + 1) + 1 = K - m := by omega
        have e2 : K - (m + 1) + 2 = K - m + 1 := by omega
        have cv := H.conv (K - (m + 1)) (by omega)
        rw [e1, e2] at cv
        have le := peakL (H.asc _ _ (by omega) (by omega)).1 (H.asc _ _ (by omega) (by omega)).1 hr cv i2
        rw [e1]
        exact ⟨Int.le_trans le i1, fun _ => le⟩
  obtain ⟨q, hq, hle⟩ := H.sup p (List.mem_append_left _ hp) (v.2.1 - a.2.1) (v.1 - a.1) hr
  obtain ⟨i, hi, rfl⟩ := mem_vAt hq
  have := (up (K - i) (by omega)).1
  have e : K - (K - i) = i := by omega
  rw [e] at this
  exact Int.le_trans hle this

/-! ### the vertex that is farthest: by halving -/
def farN (g : Nat → Bool) : Nat → Nat → Nat → Nat
  | 0, a, _ => a
  | f + 1, a, b => if a < b then (if g ((a + b) / 2) then farN g f ((a + b) / 2 + 1) b else farN g f a ((a + b) / 2)) else a
/-- where g is true up to a place and false from there on, that place is found -/
theorem farN_spec (g : Nat → Bool) (mono : ∀ i, g (i + 1) = true → g i = true) : ∀ f a b, b - a ≤ f → a ≤ b → a ≤ farN g f a b ∧ farN g f a b ≤ b ∧ (∀ i, a ≤ i → i < farN g f a b → g i = true) ∧ (farN g f a b < b → g (farN g f a b) = false)
  | 0, a, b, h, hab => by
    unfold farN
    exact ⟨Nat.le_refl _, hab, fun i h1 h2 => by omega, fun z => by omega⟩
  | f + 1, a, b, h, hab => by
    have down : ∀ i k, g (i + k) = true → g i = true := fun i k => by
      induction k with
      | zero => exact id
      | succ k ih => exact fun z => ih (mono _ z)
    unfold farN
    split
    · split
      · rename_i hlt hg
        obtain ⟨h1, h2, h3, h4⟩ := farN_spec g mono f ((a + b) / 2 + 1) b (by omega) (by omega)
        refine ⟨by omega, h2, fun i i1 i2 => ?_, h4⟩
        by_cases e : (a + b) / 2 + 1 ≤ i
        · exact h3 i e i2
        · have : (a + b) / 2 = i + ((a + b) / 2 - i) := by omega
          rw [this] at hg
          exact down _ _ hg
      · rename_i hlt hg
        obtain ⟨h1, h2, h3, h4⟩ := farN_spec g mono f a ((a + b) / 2) (by omega) (by omega)
        refine ⟨h1, by omega, h3, fun z => ?_⟩
        by_cases e : farN g f a ((a + b) / 2) < (a + b) / 2
        · exact h4 e
        · have : farN g f a ((a + b) / 2) = (a + b) / 2 := by omega
          rw [this]
          exact Bool.not_eq_true _ ▸ hg
    · exact ⟨Nat.le_refl _, hab, fun i h1 h2 => by omega, fun z => by omega⟩
def farG (rise run : Int) (c : List Vx) (i : Nat) : Bool := decide (rise * ((vAt c (i + 1)).1 - (vAt c i).1) > run * ((vAt c (i + 1)).2.1 - (vAt c i).2.1))
def farI (rise run : Int) (c : List Vx) : Nat := farN (farG rise run c) c.length 0 (c.length - 1)
theorem farG_iff {t rise run : Int} {c : List Vx} {i : Nat} : farG (t * rise) (t * run) c i = decide (val (-t) rise run (vAt c i) < val (-t) rise run (vAt c (i + 1))) := by
  unfold farG
  have e : val (-t) rise run (vAt c (i + 1)) - val (-t) rise run (vAt c i) = t * rise * ((vAt c (i + 1)).1 - (vAt c i).1) - t * run * ((vAt c (i + 1)).2.1 - (vAt c i).2.1) := by unfold val; grind
  exact decide_eq_decide.mpr ⟨fun h => by omega, fun h => by omega⟩
/-- on the chain of the other side: the farthest of all points -/
theorem Hull.far {t rise run : Int} {c P : List Vx} (h : Hull (-t) c P) (hr : 0 < run) : farI (t * rise) (t * run) c < c.length ∧ ∀ p ∈ P, val t rise run (vAt c (farI (t * rise) (t * run) c)) ≤ val t rise run p := by
  have cl : 0 < c.length := List.length_pos_iff.mpr h.ne
  have G : ∀ i, farG (t * rise) (t * run) c i = decide (val (-t) rise run (vAt c i) < val (-t) rise run (vAt c (i + 1))) := fun i => farG_iff
  -- g is false from some place on, within the chain
  let g : Nat → Bool := fun i => decide (i + 1 < c.length) && farG (t * rise) (t * run) c i
  have mono : ∀ i, g (i + 1) = true → g i = true := fun i hi => by
    simp only [g, Bool.and_eq_true, decide_eq_true_eq] at hi ⊢
    refine ⟨by omega, ?_⟩
    rw [G] at hi ⊢
    rw [decide_eq_true_eq] at hi ⊢
    have := hi.2
    rw [show i + 1 + 1 = i + 2 from rfl] at this
    by_cases x : val (-t) rise run (vAt c i) < val (-t) rise run (vAt c (i + 1))
    · exact x
    · have := peakR (h.asc i (i + 1) (by omega) (by omega)).1 (h.asc (i + 1) (i + 2) (by omega) (by omega)).1 hr (h.conv i (by omega)) (by omega : val (-t) rise run (vAt c (i + 1)) ≤ val (-t) rise run (vAt c i))
      omega
  have same : ∀ f a b, b < c.length → farN (farG (t * rise) (t * run) c) f a b = farN g f a b := fun f => by
    induction f with
    | zero => intro a b _; rfl
    | succ f ih =>
      intro a b hb
      unfold farN
      split
      · have e : g ((a + b) / 2) = farG (t * rise) (t * run) c ((a + b) / 2) := by
          simp only [g]
          rw [decide_eq_true (by omega), Bool.true_and]
        rw [e]
        split
        · exact ih _ _ hb
        · exact ih _ _ (by omega)
      · rfl
  have S := farN_spec g mono c.length 0 (c.length - 1) (by omega) (by omega)
  have ef : farI (t * rise) (t * run) c = farN g c.length 0 (c.length - 1) := same _ _ _ (by omega)
  rw [ef]
  generalize farN g c.length 0 (c.length - 1) = k at *
  obtain ⟨_, s2, s3, s4⟩ := S
  refine ⟨by omega, fun p hp => ?_⟩
  -- ascending up to k, not ascending behind
  have lo : ∀ m, m ≤ k → val (-t) rise run (vAt c (k - m)) ≤ val (-t) rise run (vAt c k) := fun m => by
    induction m with
    | zero => intro _; exact Int.le_refl _
    | succ m ih =>
      intro hm
      have := s3 (k - (m + 1)) (by omega) (by omega)
      simp only [g, Bool.and_eq_true] at this
      have this := this.2
      rw [G, decide_eq_true_eq] at this
      have e : k - (m + 1) + 1 = k - m := by omega
      rw [e] at this
      have := ih (by omega)
      omega
  have hi : ∀ m, k + m < c.length → val (-t) rise run (vAt c (k + m)) ≤ val (-t) rise run (vAt c k) ∧ (k + m + 1 < c.length → val (-t) rise run (vAt c (k + m + 1)) ≤ val (-t) rise run (vAt c (k + m))) := fun m => by
    induction m with
    | zero =>
      intro hm
      refine ⟨Int.le_refl _, fun z => ?_⟩
      have := s4 (by omega)
      simp only [g] at this
      rw [Nat.add_zero] at z
      rw [decide_eq_true z, Bool.true_and, G, decide_eq_false_iff_not] at this
      rw [show k + 0 = k from rfl]
      omega
    | succ m ih =>
      intro hm
      obtain ⟨i1, i2⟩ := ih (by omega)
      have i2 := i2 (by omega)
      refine ⟨Int.le_trans i2 i1, fun z => ?_⟩
      exact peakR (h.asc (k + m) (k + m + 1) (by omega) (by omega)).1 (h.asc (k + m + 1) (k + (m + 1) + 1) (by omega) (by omega)).1 hr (h.conv (k + m) (by omega)) i2
  obtain ⟨q, hq, hle⟩ := h.sup p hp rise run hr
  obtain ⟨i, hi', rfl⟩ := mem_vAt hq
  have : val (-t) rise run (vAt c i) ≤ val (-t) rise run (vAt c k) := by
    by_cases e : i ≤ k
    · have := lo (k - i) (by omega)
      have e2 : k - (k - i) = i := by omega
      rw [e2] at this
      exact this
    · have := (hi (i - k) (by omega)).1
      have e2 : k + (i - k) = i := by omega
      rw [e2] at this
      exact this
  rw [val_neg, val_neg] at this
  rw [val_neg] at hle
  have := val_neg t rise run p
  have h1 := val_neg t rise run (vAt c i)
  omega

/-! ### the greatest deviation -/
structure Dv where
  over : Int
  run : Int
  a : Vx
  m : Vx
  z : Vx
def Dv.rise (g : Dv) : Int := g.z.2.1 - g.a.2.1
/-- all points lie in the strip of the deviation, on the side t -/
structure Gd (P : List Vx) (g : Dv) (t : Int) : Prop where
  tt : t = 1 ∨ t = -1
  run : 0 < g.run
  rx : g.run = g.z.1 - g.a.1 ∨ (g.over = 0 ∧ g.run = 1 ∧ g.a = g.z)
  ma : g.a ∈ P
  mm : g.m ∈ P
  mz : g.z ∈ P
  am : g.a.1 ≤ g.m.1
  mz' : g.m.1 ≤ g.z.1
  oz : val t g.rise g.run g.z = val t g.rise g.run g.a
  ov : g.over = val t g.rise g.run g.a - val t g.rise g.run g.m
  lo : ∀ p ∈ P, val t g.rise g.run g.m ≤ val t g.rise g.run p
  hi : ∀ p ∈ P, val t g.rise g.run p ≤ val t g.rise g.run g.a
theorem Gd.nn {P : List Vx} {g : Dv} {t : Int} (h : Gd P g t) : 0 ≤ g.over := by
  have := h.lo g.a h.ma
  have := h.ov
  omega
def AscV (P : List Vx) : Prop := P.Pairwise fun a b => a.1 < b.1 ∧ a.2.2 < b.2.2
theorem AscV.at {P : List Vx} (h : AscV P) {i j : Nat} (hij : i < j) (hj : j < P.length) : (vAt P i).1 < (vAt P j).1 ∧ (vAt P i).2.2 < (vAt P j).2.2 := by
  have := List.pairwise_iff_getElem.mp h i j (by omega) hj hij
  unfold vAt
  rw [List.getD_eq_getElem?_getD, List.getD_eq_getElem?_getD, List.getElem?_eq_getElem (by omega), List.getElem?_eq_getElem hj]
  exact this
theorem AscV.lt {P : List Vx} (h : AscV P) {a b : Vx} (ha : a ∈ P) (hb : b ∈ P) (hl : a.1 ≤ b.1) (hn : a ≠ b) : a.1 < b.1 ∧ a.2.2 < b.2.2 := by
  obtain ⟨i, hi, rfl⟩ := mem_vAt ha
  obtain ⟨j, hj, rfl⟩ := mem_vAt hb
  by_cases e : i < j
  · exact h.at e hj
  · by_cases e2 : j < i
    · have := (h.at e2 hi).1; omega
    · have : i = j := by omega
      subst this
      exact absurd rfl hn
/-- three points (x, y): how far the middle one is off -/
def dv3 (p q r : Vx) : Int := q.2.1 * (r.1 - p.1) - p.2.1 * (r.1 - q.1) - r.2.1 * (q.1 - p.1)
theorem dv3_val (t rise run : Int) (ht : t = 1 ∨ t = -1) (p q r : Vx) : run * dv3 p q r = t * (val t rise run q * (r.1 - p.1) - val t rise run p * (r.1 - q.1) - val t rise run r * (q.1 - p.1)) := by
  unfold dv3 val
  rcases ht with rfl | rfl <;> grind
/-- no three points deviate more -/
theorem Gd.most {P : List Vx} {g : Dv} {t : Int} (h : Gd P g t) {p q r : Vx} (hp : p ∈ P) (hq : q ∈ P) (hr : r ∈ P) (h1 : p.1 ≤ q.1) (h2 : q.1 ≤ r.1) {e : Int} (he : g.over ≤ 2 * e * g.run) : -(2 * e * (r.1 - p.1)) ≤ dv3 p q r ∧ dv3 p q r ≤ 2 * e * (r.1 - p.1) := by
  have key := dv3_val t g.rise g.run h.tt p q r
  generalize hfp : val t g.rise g.run p = fp at key
  generalize hfq : val t g.rise g.run q = fq at key
  generalize hfr : val t g.rise g.run r = fr at key
  have b1 := h.lo p hp; have b2 := h.hi p hp; have b3 := h.lo q hq; have b4 := h.hi q hq; have b5 := h.lo r hr; have b6 := h.hi r hr
  rw [hfp] at b1 b2; rw [hfq] at b3 b4; rw [hfr] at b5 b6
  have ov := h.ov
  generalize val t g.rise g.run g.a = hi at *
  generalize val t g.rise g.run g.m = lo at *
  have A : 0 ≤ r.1 - q.1 := by omega
  have B : 0 ≤ q.1 - p.1 := by omega
  have C : 0 ≤ r.1 - p.1 := by omega
  have m1 := Int.mul_le_mul_of_nonneg_right (show fq - fp ≤ hi - lo by omega) A
  have m2 := Int.mul_le_mul_of_nonneg_right (show fq - fr ≤ hi - lo by omega) B
  have m3 := Int.mul_le_mul_of_nonneg_right (show fp - fq ≤ hi - lo by omega) A
  have m4 := Int.mul_le_mul_of_nonneg_right (show fr - fq ≤ hi - lo by omega) B
  have e1 : fq * (r.1 - p.1) - fp * (r.1 - q.1) - fr * (q.1 - p.1) = (fq - fp) * (r.1 - q.1) + (fq - fr) * (q.1 - p.1) := by grind
  have e2 : (hi - lo) * (r.1 - q.1) + (hi - lo) * (q.1 - p.1) = (hi - lo) * (r.1 - p.1) := by grind
  have e3 : (fp - fq) * (r.1 - q.1) + (fr - fq) * (q.1 - p.1) = -((fq - fp) * (r.1 - q.1) + (fq - fr) * (q.1 - p.1)) := by grind
  have up : (hi - lo) * (r.1 - p.1) ≤ 2 * e * g.run * (r.1 - p.1) := Int.mul_le_mul_of_nonneg_right (by omega) C
  have e4 : g.run * (2 * e * (r.1 - p.1)) = 2 * e * g.run * (r.1 - p.1) := by grind
  have e5 : g.run * -(2 * e * (r.1 - p.1)) = -(2 * e * g.run * (r.1 - p.1)) := by grind
  have bnd : -(2 * e * g.run * (r.1 - p.1)) ≤ g.run * dv3 p q r ∧ g.run * dv3 p q r ≤ 2 * e * g.run * (r.1 - p.1) := by
    rw [key, e1]
    rcases h.tt with ht | ht
    · rw [ht, Int.one_mul]; omega
    · rw [ht, Int.neg_mul, Int.one_mul]; omega
  refine ⟨Int.le_of_mul_le_mul_left ?_ h.run, Int.le_of_mul_le_mul_left ?_ h.run⟩
  · rw [e5]; exact bnd.1
  · rw [e4]; exact bnd.2
/-- where the deviation is too great, its three points show it -/
theorem Gd.shown {P : List Vx} {g : Dv} {t : Int} (h : Gd P g t) (asc : AscV P) {e : Int} (he0 : 0 ≤ e) (he : 2 * e * g.run < g.over) : (g.a.1 < g.m.1 ∧ g.a.2.2 < g.m.2.2) ∧ (g.m.1 < g.z.1 ∧ g.m.2.2 < g.z.2.2) ∧ ¬ (-(2 * e * (g.z.1 - g.a.1)) ≤ dv3 g.a g.m g.z ∧ dv3 g.a g.m g.z ≤ 2 * e * (g.z.1 - g.a.1)) := by
  have p0 : 0 ≤ 2 * e * g.run := Int.mul_nonneg (by omega) (by have := h.run; omega)
  have o := h.ov
  have oz := h.oz
  have na : g.a ≠ g.m := fun z => by rw [← z] at o; omega
  have nz : g.m ≠ g.z := fun z => by rw [z] at o; omega
  refine ⟨asc.lt h.ma h.mm h.am na, asc.lt h.mm h.mz h.mz' nz, fun hb => ?_⟩
  have rx : g.run = g.z.1 - g.a.1 := by
    rcases h.rx with z | z
    · exact z
    · omega
  have key := dv3_val t g.rise g.run h.tt g.a g.m g.z
  rw [oz] at key
  have e1 : val t g.rise g.run g.m * (g.z.1 - g.a.1) - val t g.rise g.run g.a * (g.z.1 - g.m.1) - val t g.rise g.run g.a * (g.m.1 - g.a.1) = -(g.run * g.over) := by
    rw [o, rx]; grind
  rw [e1] at key
  have e2 : dv3 g.a g.m g.z = t * -g.over := by
    refine Int.eq_of_mul_eq_mul_left (a := g.run) (by have := h.run; omega) ?_
    rw [key]; grind
  rw [← rx, e2] at hb
  rcases h.tt with ht | ht
  · rw [ht] at hb; omega
  · rw [ht] at hb; omega
/-- the line in the middle of the strip -/
def midL (g : Dv) : Int × Int × Int := (2 * g.rise, 2 * (g.run * g.a.2.1 - g.rise * g.a.1) - (g.run * (g.a.2.1 - g.m.2.1) + g.rise * (g.m.1 - g.a.1)), 2 * g.run)
theorem Gd.line {P : List Vx} {g : Dv} {t : Int} (h : Gd P g t) {p : Vx} (hp : p ∈ P) {e : Int} (he : g.over ≤ 2 * e * g.run) :
    -(e * (midL g).2.2) ≤ (midL g).1 * p.1 + (midL g).2.1 - p.2.1 * (midL g).2.2 ∧ (midL g).1 * p.1 + (midL g).2.1 - p.2.1 * (midL g).2.2 ≤ e * (midL g).2.2 := by
  have b1 := h.lo p hp
  have b2 := h.hi p hp
  have o := h.ov
  have e1 : (midL g).1 * p.1 + (midL g).2.1 - p.2.1 * (midL g).2.2 = t * (2 * (val t g.rise g.run g.a - val t g.rise g.run p) - g.over) := by
    rw [o]
    unfold midL val
    rcases h.tt with ht | ht <;> (rw [ht]; grind)
  have e2 : e * (midL g).2.2 = 2 * e * g.run := by unfold midL; grind
  rw [e1, e2]
  generalize val t g.rise g.run g.a = fa at *
  generalize val t g.rise g.run p = fp at *
  generalize val t g.rise g.run g.m = fm at *
  rcases h.tt with ht | ht
  · rw [ht, Int.one_mul]; omega
  · rw [ht, Int.neg_mul, Int.one_mul]; omega
/-! one more point -/
theorem slopes {rise run rise1 run1 : Int} (hr : 0 < run) (hr1 : 0 < run1) {x y : Vx} (h : run * y.2.1 - rise * y.1 ≤ run * x.2.1 - rise * x.1) (h1 : run1 * x.2.1 - rise1 * x.1 ≤ run1 * y.2.1 - rise1 * y.1) : 0 ≤ (run * rise1 - rise * run1) * (x.1 - y.1) := by
  have a := Int.mul_le_mul_of_nonneg_left h (Int.le_of_lt hr1)
  have b := Int.mul_le_mul_of_nonneg_left h1 (Int.le_of_lt hr)
  have e : (run * rise1 - rise * run1) * (x.1 - y.1) = (run1 * (run * x.2.1 - rise * x.1) - run1 * (run * y.2.1 - rise * y.1)) + (run * (run1 * y.2.1 - rise1 * y.1) - run * (run1 * x.2.1 - rise1 * x.1)) := by grind
  omega
theorem sign_pos {k d : Int} (hk : 0 < k) (h : 0 ≤ k * d) : 0 ≤ d := by
  by_cases x : 0 ≤ d
  · exact x
  · have := Int.mul_pos hk (show 0 < -d by omega)
    rw [Int.mul_neg] at this
    omega
theorem sign_neg {k d : Int} (hk : k < 0) (h : 0 ≤ k * d) : d ≤ 0 := by
  have := sign_pos (k := -k) (d := -d) (by omega) (by rw [Int.neg_mul_neg]; exact h)
  omega
/-- the side t of the new edge: what deviation_under reckons -/
def under (t : Int) (c o : List Vx) (v : Vx) : Option Dv :=
  let a := vAt c (keptN t c v c.length - 1)
  let m := vAt o (farI (t * (v.2.1 - a.2.1)) (t * (v.1 - a.1)) o)
  if m.1 < a.1 then none else some ⟨t * ((v.1 - a.1) * (a.2.1 - m.2.1) + (v.2.1 - a.2.1) * (m.1 - a.1)), v.1 - a.1, a, m, v⟩
theorem under_some {t : Int} (ht : t = 1 ∨ t = -1) {c o P : List Vx} {v : Vx} {g : Dv} (hc : Hull t c P) (ho : Hull (-t) o P) (hv : ∀ q ∈ P, q.1 < v.1 ∧ q.2.2 < v.2.2) (h : under t c o v = some g) : Gd (P ++ [v]) g t := by
  obtain ⟨t1, t2, _, t3⟩ := hc.tangent hv rfl
  unfold under at h
  generalize vAt c (keptN t c v c.length - 1) = a at *
  have hr : 0 < v.1 - a.1 := by omega
  obtain ⟨f1, f2⟩ := ho.far (t := t) (rise := v.2.1 - a.2.1) (run := v.1 - a.1) hr
  have fm := ho.sub _ (vAt_mem f1)
  simp only at h
  generalize vAt o (farI (t * (v.2.1 - a.2.1)) (t * (v.1 - a.1)) o) = m at *
  split at h
  · cases h
  · rename_i hlt
    cases h
    have veq : val t (v.2.1 - a.2.1) (v.1 - a.1) v = val t (v.2.1 - a.2.1) (v.1 - a.1) a := by unfold val; grind
    refine ⟨ht, hr, .inl rfl, List.mem_append_left _ t1, List.mem_append_left _ fm, by simp, by show a.1 ≤ m.1; omega, by have := (hv m fm).1; show m.1 ≤ v.1; omega, veq, ?_, fun p hp => ?_, fun p hp => ?_⟩
    · show t * ((v.1 - a.1) * (a.2.1 - m.2.1) + (v.2.1 - a.2.1) * (m.1 - a.1)) = val t (v.2.1 - a.2.1) (v.1 - a.1) a - val t (v.2.1 - a.2.1) (v.1 - a.1) m
      unfold val; grind
    · show val t (v.2.1 - a.2.1) (v.1 - a.1) m ≤ val t (v.2.1 - a.2.1) (v.1 - a.1) p
      rcases List.mem_append.mp hp with z | z
      · exact f2 p z
      · rw [List.mem_singleton] at z; subst z; rw [veq]; exact f2 a t1
    · show val t (v.2.1 - a.2.1) (v.1 - a.1) p ≤ val t (v.2.1 - a.2.1) (v.1 - a.1) a
      rcases List.mem_append.mp hp with z | z
      · exact t3 p z
      · rw [List.mem_singleton] at z; subst z; rw [veq]; exact Int.le_refl _
/-- where the side t has nothing, the new point does not stand out there -/
theorem under_none {t : Int} (ht : t = 1 ∨ t = -1) {c o P : List Vx} {v : Vx} {g : Dv} {s : Int} (hc : Hull t c P) (ho : Hull (-t) o P) (hv : ∀ q ∈ P, q.1 < v.1 ∧ q.2.2 < v.2.2) (h : under t c o v = none) (G : Gd P g s) :
    ¬ ∀ p ∈ P, val t g.rise g.run p < val t g.rise g.run v := by
  intro hb
  obtain ⟨t1, t2, _, t3⟩ := hc.tangent hv rfl
  unfold under at h
  generalize vAt c (keptN t c v c.length - 1) = a at *
  have hr : 0 < v.1 - a.1 := by omega
  obtain ⟨f1, f2⟩ := ho.far (t := t) (rise := v.2.1 - a.2.1) (run := v.1 - a.1) hr
  have fm := ho.sub _ (vAt_mem f1)
  simp only at h
  generalize vAt o (farI (t * (v.2.1 - a.2.1)) (t * (v.1 - a.1)) o) = m at *
  split at h
  · rename_i hlt
    have gr := G.run
    have ha := hb a t1
    have l1 := G.lo a t1
    have l2 := G.hi a t1
    have l3 := G.lo m fm
    have l4 := G.hi m fm
    have q1 := t3 g.a G.ma
    have q2 := t3 g.m G.mm
    have q3 := t3 g.z G.mz
    have r1 := f2 g.a G.ma
    have r2 := f2 g.m G.mm
    have r3 := f2 g.z G.mz
    have oz := G.oz
    have am := G.am
    have mz := G.mz'
    have kk : (v.1 - a.1) * (g.run * (v.2.1 - a.2.1) - g.rise * (v.1 - a.1)) = (v.1 - a.1) * (t * (val t g.rise g.run v - val t g.rise g.run a)) := by
      unfold val
      rcases ht with rfl | rfl <;> grind
    have k2 := Int.eq_of_mul_eq_mul_left (by omega) kk
    generalize hK : g.run * (v.2.1 - a.2.1) - g.rise * (v.1 - a.1) = K at *
    unfold val at *
    rcases ht with rfl | rfl
    · have hK0 : 0 < K := by omega
      rcases G.tt with rfl | rfl
      · have s1 := slopes (rise := g.rise) (rise1 := v.2.1 - a.2.1) gr hr (x := g.a) (y := a) (by omega) (by omega)
        have s2 := slopes (rise := g.rise) (rise1 := v.2.1 - a.2.1) gr hr (x := m) (y := g.m) (by omega) (by omega)
        rw [hK] at s1 s2
        have := sign_pos hK0 s1
        have := sign_pos hK0 s2
        omega
      · have s1 := slopes (rise := g.rise) (rise1 := v.2.1 - a.2.1) gr hr (x := g.m) (y := a) (by omega) (by omega)
        have s2 := slopes (rise := g.rise) (rise1 := v.2.1 - a.2.1) gr hr (x := m) (y := g.z) (by omega) (by omega)
        rw [hK] at s1 s2
        have := sign_pos hK0 s1
        have := sign_pos hK0 s2
        omega
    · have hK0 : K < 0 := by omega
      rcases G.tt with rfl | rfl
      · have s1 := slopes (rise := g.rise) (rise1 := v.2.1 - a.2.1) gr hr (x := g.z) (y := m) (by omega) (by omega)
        have s2 := slopes (rise := g.rise) (rise1 := v.2.1 - a.2.1) gr hr (x := a) (y := g.m) (by omega) (by omega)
        rw [hK] at s1 s2
        have := sign_neg hK0 s1
        have := sign_neg hK0 s2
        omega
      · have s1 := slopes (rise := g.rise) (rise1 := v.2.1 - a.2.1) gr hr (x := g.m) (y := m) (by omega) (by omega)
        have s2 := slopes (rise := g.rise) (rise1 := v.2.1 - a.2.1) gr hr (x := a) (y := g.a) (by omega) (by omega)
        rw [hK] at s1 s2
        have := sign_neg hK0 s1
        have := sign_neg hK0 s2
        omega
  · cases h
/-- the strip of the points taken so far -/
structure Strp (P U L : List Vx) (g : Dv) : Prop where
  asc : AscV P
  hu : Hull 1 U P
  hl : Hull (-1) L P
  gd : ∃ t, Gd P g t
def devW (U L : List Vx) (g : Dv) (v : Vx) : Dv := match under 1 U L v with
  | some d => d
  | none => match under (-1) L U v with
    | some d => d
    | none => g
theorem Strp.dev {P U L : List Vx} {g : Dv} {v : Vx} (h : Strp P U L g) (hv : ∀ q ∈ P, q.1 < v.1 ∧ q.2.2 < v.2.2) : ∃ t, Gd (P ++ [v]) (devW U L g v) t := by
  unfold devW
  cases h1 : under 1 U L v with
  | some d => exact ⟨1, under_some (.inl rfl) h.hu h.hl hv h1⟩
  | none =>
    cases h2 : under (-1) L U v with
    | some d => exact ⟨-1, under_some (.inr rfl) h.hl h.hu hv h2⟩
    | none =>
      obtain ⟨t, G⟩ := h.gd
      have n1 := under_none (.inl rfl) h.hu h.hl hv h1 G
      have n2 := under_none (.inr rfl) h.hl h.hu hv h2 G
      have key : val t g.rise g.run g.m ≤ val t g.rise g.run v ∧ val t g.rise g.run v ≤ val t g.rise g.run g.a := by
        constructor
        · by_cases x : val t g.rise g.run g.m ≤ val t g.rise g.run v
          · exact x
          · exfalso
            rcases G.tt with rfl | rfl
            · exact n2 fun p hp => by have := G.lo p hp; unfold val at *; omega
            · exact n1 fun p hp => by have := G.lo p hp; unfold val at *; omega
        · by_cases x : val t g.rise g.run v ≤ val t g.rise g.run g.a
          · exact x
          · exfalso
            rcases G.tt with rfl | rfl
            · exact n1 fun p hp => by have := G.hi p hp; unfold val at *; omega
            · exact n2 fun p hp => by have := G.hi p hp; unfold val at *; omega
      refine ⟨t, G.tt, G.run, G.rx, List.mem_append_left _ G.ma, List.mem_append_left _ G.mm, List.mem_append_left _ G.mz, G.am, G.mz', G.oz, G.ov, fun p hp => ?_, fun p hp => ?_⟩
      · rcases List.mem_append.mp hp with z | z
        · exact G.lo p z
        · rw [List.mem_singleton] at z; subst z; exact key.1
      · rcases List.mem_append.mp hp with z | z
        · exact G.hi p z
        · rw [List.mem_singleton] at z; subst z; exact key.2
theorem Strp.take {P U L : List Vx} {g : Dv} {v : Vx} (h : Strp P U L g) (hv : ∀ q ∈ P, q.1 < v.1 ∧ q.2.2 < v.2.2) : Strp (P ++ [v]) (putb 1 U v) (putb (-1) L v) (devW U L g v) :=
  ⟨List.pairwise_append.mpr ⟨h.asc, List.pairwise_singleton _ _, fun a ha b hb => by rw [List.mem_singleton] at hb; subst hb; exact hv a ha⟩, h.hu.put hv, h.hl.put hv, h.dev hv⟩
theorem Strp.first (v : Vx) : Strp [v] [v] [v] ⟨0, 1, v, v, v⟩ :=
  ⟨List.pairwise_singleton _ _, Hull.first, Hull.first, 1, .inl rfl, by show (0 : Int) < 1; omega, .inr ⟨rfl, rfl, rfl⟩, by simp, by simp, by simp, Int.le_refl _, Int.le_refl _, rfl, by simp, fun p hp => by rw [List.mem_singleton] at hp; subst hp; exact Int.le_refl _, fun p hp => by rw [List.mem_singleton] at hp; subst hp; exact Int.le_refl _⟩
/-! ### the strip's defs, by the mathematics of strips -/
theorem whileN_nx {n : Nat} {c : Te} {body : Sm} {Γ Γ2 : DEnv} {r : Res} (h : c Γ = some true) (hb : body Γ = some (.nx Γ2)) (k : whileN n c body Γ2 = some r) : whileN (n + 1) c body Γ = some r := by
  unfold whileN
  rw [h]
  show ((body Γ).bind _) = _
  rw [hb]
  exact k
theorem whileN_bk {n : Nat} {c : Te} {body : Sm} {Γ Γ2 : DEnv} (h : c Γ = some true) (hb : body Γ = some (.bk Γ2)) : whileN (n + 1) c body Γ = some (.nx Γ2) := by
  unfold whileN
  rw [h]
  show ((body Γ).bind _) = _
  rw [hb]
  rfl
theorem whileN_no {n : Nat} {c : Te} {body : Sm} {Γ : DEnv} (h : c Γ = some false) : whileN (n + 1) c body Γ = some (.nx Γ) := by
  unfold whileN
  rw [h]
  rfl
theorem sv_runK {ms : List Bool} {N : Nat} {B : Sm} {ds : List D} {d : D} (h : B (slM ms ds ++ List.replicate (N - ms.length) .no) = some (.rt d)) : runK ms N B ds = some d := by unfold runK; rw [h]; rfl
abbrev SmV (v : Vx) : Prop := (-(2 ^ 56) < v.1 ∧ v.1 < 2 ^ 56) ∧ -(2 ^ 56) < v.2.1 ∧ v.2.1 < 2 ^ 56
abbrev SmQ (a : Int × Int) : Prop := (-(2 ^ 56) < a.1 ∧ a.1 < 2 ^ 56) ∧ -(2 ^ 56) < a.2 ∧ a.2 < 2 ^ 56
theorem smq {a : Int × Int} (h : SmP a) : SmQ a := ⟨⟨by omega, by omega⟩, by omega, by omega⟩
theorem smv {a : Int × Int} {i : Int} (h : SmP a) : SmV (a.1, a.2, i) := smq h
def encD (g : Dv) : D := .tup [.int g.over, .int g.run, encL g.a, encL g.m, encL g.z]
theorem ixv {c : List Vx} {k : Nat} {i : Int} (h : k < c.length) (e : i = (k : Nat)) : dIx (.lst (c.map encL)) (.int i) = some (encL (vAt c k)) := d_ixC (f := encL) (vAt_get h) e
theorem lenv {c : List Vx} : dLen (.lst (c.map encL)) = some (.int c.length) := by rw [d_lenL, List.length_map]
def kCond : Te := gT (gOp dGt (gV 6) (gI 1))
def kBody : Sm :=
  (sSeq (sUnp (gTg 3 (gTo (gN 7) (gTo (gN 8) (gTo (gN 5) gEnd)))) (gIx (gB 0) (gOp dSub (gV 6) (gI 2))))
  (sSeq (sUnp (gTg 3 (gTo (gN 9) (gTo (gN 10) (gTo (gN 5) gEnd)))) (gIx (gB 0) (gOp dSub (gV 6) (gI 1))))
  (sSeq (sIf (gT (gOp dGt (gOp dMul (gV 2) (gOp dSub (gOp dMul (gOp dSub (gV 10) (gV 8)) (gOp dSub (gV 3) (gV 7))) (gOp dMul (gOp dSub (gV 4) (gV 8)) (gOp dSub (gV 9) (gV 7))))) (gI 0)))
  sBrk
  sNil)
  (sAug dSub 6 (gI 1)))))
theorem kept_loop (t : Int) (ht : -(2 ^ 64) < t ∧ t < 2 ^ 64) (c : List Vx) (v : Vx) (hc : ∀ q ∈ c, SmV q) (hv : SmV v) : ∀ n, n ≤ c.length → ∀ (s5 s7 s8 s9 s10 : Sl), ∃ f Γ', whileN f kCond kBody [.bo (.lst (c.map encL)), .sh (encL v), .sh (.int t), .sh (.int v.1), .sh (.int v.2.1), s5, .sh (.int n), s7, s8, s9, s10] = some (.nx Γ') ∧ Γ'[6]? = some (.sh (.int (keptN t c v n)))
  | 0, _, s5, s7, s8, s9, s10 => ⟨1, _, whileN_no (ev_T (ev_op (ev_V rfl) ev_I rfl)), rfl⟩
  | 1, _, s5, s7, s8, s9, s10 => ⟨1, _, whileN_no (ev_T (ev_op (ev_V rfl) ev_I rfl)), rfl⟩
  | n + 2, hn, s5, s7, s8, s9, s10 => by
    have ca := hc _ (vAt_mem (c := c) (i := n) (by omega))
    have cb := hc _ (vAt_mem (c := c) (i := n + 1) (by omega))
    have h0 : kCond [.bo (.lst (c.map encL)), .sh (encL v), .sh (.int t), .sh (.int v.1), .sh (.int v.2.1), s5, .sh (.int ((n + 2 : Nat) : Int)), s7, s8, s9, s10] = some true := by
      unfold kCond
      refine ev_T ((ev_op (ev_V rfl) ev_I rfl).trans ?_)
      show some (D.bl (decide (((n + 2 : Nat) : Int) > 1))) = _
      rw [decide_eq_true (by omega)]
    have test : gT (gOp dGt (gOp dMul (gV 2) (gOp dSub (gOp dMul (gOp dSub (gV 10) (gV 8)) (gOp dSub (gV 3) (gV 7))) (gOp dMul (gOp dSub (gV 4) (gV 8)) (gOp dSub (gV 9) (gV 7))))) (gI 0)) [.bo (.lst (c.map encL)), .sh (encL v), .sh (.int t), .sh (.int v.1), .sh (.int v.2.1), .sh (.int (vAt c (n + 1)).2.2), .sh (.int ((n + 2 : Nat) : Int)), .sh (.int (vAt c n).1), .sh (.int (vAt c n).2.1), .sh (.int (vAt c (n + 1)).1), .sh (.int (vAt c (n + 1)).2.1)]
        = some (decide (0 < cr t (vAt c n) (vAt c (n + 1)) v)) :=
      ev_T (ev_op (ev_op (ev_V rfl) (ev_op (ev_op (ev_op (ev_V rfl) (ev_V rfl) d_sub) (ev_op (ev_V rfl) (ev_V rfl) d_sub) (d_mul (mulOk_l (by omega) (by omega)))) (ev_op (ev_op (ev_V rfl) (ev_V rfl) d_sub) (ev_op (ev_V rfl) (ev_V rfl) d_sub) (d_mul (mulOk_l (by omega) (by omega)))) d_sub) (d_mul (mulOk_l ht.1 ht.2))) ev_I rfl)
    have pre : ∀ r, (sSeq (sIf (gT (gOp dGt (gOp dMul (gV 2) (gOp dSub (gOp dMul (gOp dSub (gV 10) (gV 8)) (gOp dSub (gV 3) (gV 7))) (gOp dMul (gOp dSub (gV 4) (gV 8)) (gOp dSub (gV 9) (gV 7))))) (gI 0)))
        sBrk
        sNil)
        (sAug dSub 6 (gI 1))) [.bo (.lst (c.map encL)), .sh (encL v), .sh (.int t), .sh (.int v.1), .sh (.int v.2.1), .sh (.int (vAt c (n + 1)).2.2), .sh (.int ((n + 2 : Nat) : Int)), .sh (.int (vAt c n).1), .sh (.int (vAt c n).2.1), .sh (.int (vAt c (n + 1)).1), .sh (.int (vAt c (n + 1)).2.1)] = r →
        kBody [.bo (.lst (c.map encL)), .sh (encL v), .sh (.int t), .sh (.int v.1), .sh (.int v.2.1), s5, .sh (.int ((n + 2 : Nat) : Int)), s7, s8, s9, s10] = r := fun r h => by
      unfold kBody
      refine sq_unp (d := encL (vAt c n)) (ev_op (ev_Bb rfl) (ev_op (ev_V rfl) ev_I d_sub) (ixv (by omega) (by omega))) rfl ?_
      exact sq_unp (d := encL (vAt c (n + 1))) (ev_op (ev_Bb rfl) (ev_op (ev_V rfl) ev_I d_sub) (ixv (by omega) (by omega))) rfl h
    by_cases h : 0 < cr t (vAt c n) (vAt c (n + 1)) v
    · refine ⟨1, _, whileN_bk h0 (pre _ (sv_bk (sv_ifT (test.trans (by rw [decide_eq_true h])) rfl))), ?_⟩
      unfold keptN
      rw [if_pos h]
      rfl
    · obtain ⟨f, Γ', e1, e2⟩ := kept_loop t ht c v hc hv (n + 1) (by omega) (.sh (.int (vAt c (n + 1)).2.2)) (.sh (.int (vAt c n).1)) (.sh (.int (vAt c n).2.1)) (.sh (.int (vAt c (n + 1)).1)) (.sh (.int (vAt c (n + 1)).2.1))
      refine ⟨f + 1, Γ', whileN_nx h0 (pre _ (sv_nx (sv_ifF (test.trans (by rw [decide_eq_false h])) rfl) (sv_aug rfl ev_I (d_sub.trans ?_)))) e1, ?_⟩
      · congr 2; omega
      · unfold keptN
        rw [if_neg h]
        exact e2
theorem kept_eq (t : Int) (ht : -(2 ^ 64) < t ∧ t < 2 ^ 64) (c : List Vx) (v : Vx) (hc : ∀ q ∈ c, SmV q) (hv : SmV v) : S_kept [.lst (c.map encL), encL v, .int t] = some (.int (keptN t c v c.length)) := by
  obtain ⟨f, Γ', e1, e2⟩ := kept_loop t ht c v hc hv c.length (Nat.le_refl _) (.sh (.int v.2.2)) .no .no .no .no
  refine sv_runK ?_
  unfold B_kept
  refine sq_unp (d := encL v) (ev_V rfl) rfl ?_
  refine sq_set (ev_U (ev_Bb rfl) lenv) ?_
  exact sv_nx (sWhile_of e1) (sv_ret (ev_V e2))

def fCond : Te := gT (gOp dLt (gV 3) (gV 4))
def fBody : Sm :=
  (sSeq (sSet 5 (gOp dDiv (gOp dAdd (gV 3) (gV 4)) (gI 2)))
  (sSeq (sUnp (gTg 3 (gTo (gN 6) (gTo (gN 7) (gTo (gN 8) gEnd)))) (gIx (gB 0) (gV 5)))
  (sSeq (sUnp (gTg 3 (gTo (gN 9) (gTo (gN 10) (gTo (gN 8) gEnd)))) (gIx (gB 0) (gOp dAdd (gV 5) (gI 1))))
  (sIf (gT (gOp dGt (gOp dMul (gV 1) (gOp dSub (gV 9) (gV 6))) (gOp dMul (gV 2) (gOp dSub (gV 10) (gV 7)))))
  (sSet 3 (gOp dAdd (gV 5) (gI 1)))
  (sSet 4 (gV 5))))))
theorem far_loop (rise run : Int) (c : List Vx) (hc : ∀ q ∈ c, SmV q) : ∀ f (a b : Nat), b - a ≤ f → b < c.length → ∀ (s5 s6 s7 s8 s9 s10 : Sl), ∃ n Γ', whileN n fCond fBody [.bo (.lst (c.map encL)), .sh (.int rise), .sh (.int run), .sh (.int a), .sh (.int b), s5, s6, s7, s8, s9, s10] = some (.nx Γ') ∧ Γ'[0]? = some (.bo (.lst (c.map encL))) ∧ Γ'[3]? = some (.sh (.int (farN (farG rise run c) f a b))) ∧ farN (farG rise run c) f a b < c.length ∨ ¬ a ≤ b
  | 0, a, b, h, hb, s5, s6, s7, s8, s9, s10 => by
    by_cases hab : a ≤ b
    · have : a = b := by omega
      subst this
      refine ⟨1, _, .inl ⟨whileN_no (ev_T ((ev_op (ev_V rfl) (ev_V rfl) rfl).trans ?_)), rfl, rfl, hb⟩⟩
      show some (D.bl (decide ((a : Int) < a))) = _
      rw [decide_eq_false (by omega)]
    · exact ⟨0, [], .inr hab⟩
  | f + 1, a, b, h, hb, s5, s6, s7, s8, s9, s10 => by
    by_cases hab : a ≤ b
    rotate_left
    · exact ⟨0, [], .inr hab⟩
    by_cases hlt : a < b
    rotate_left
    · refine ⟨1, _, .inl ⟨whileN_no (ev_T ((ev_op (ev_V rfl) (ev_V rfl) rfl).trans ?_)), rfl, ?_, ?_⟩⟩
      · show some (D.bl (decide ((a : Int) < b))) = _
        rw [decide_eq_false (by omega)]
      · unfold farN; rw [if_neg hlt]; rfl
      · unfold farN; rw [if_neg hlt]; omega
    have h0 : fCond [.bo (.lst (c.map encL)), .sh (.int rise), .sh (.int run), .sh (.int a), .sh (.int b), s5, s6, s7, s8, s9, s10] = some true := by
      unfold fCond
      refine ev_T ((ev_op (ev_V rfl) (ev_V rfl) rfl).trans ?_)
      show some (D.bl (decide ((a : Int) < b))) = _
      rw [decide_eq_true (by omega)]
    have em : ((a : Int) + b) / 2 = (((a + b) / 2 : Nat) : Int) := by omega
    have hm : (a + b) / 2 + 1 < c.length := by omega
    have ca := hc _ (vAt_mem (c := c) (i := (a + b) / 2) (by omega))
    have cb := hc _ (vAt_mem (c := c) (i := (a + b) / 2 + 1) hm)
    generalize hM : (a + b) / 2 = M at *
    have test : gT (gOp dGt (gOp dMul (gV 1) (gOp dSub (gV 9) (gV 6))) (gOp dMul (gV 2) (gOp dSub (gV 10) (gV 7)))) [.bo (.lst (c.map encL)), .sh (.int rise), .sh (.int run), .sh (.int a), .sh (.int b), .sh (.int M), .sh (.int (vAt c M).1), .sh (.int (vAt c M).2.1), .sh (.int (vAt c (M + 1)).2.2), .sh (.int (vAt c (M + 1)).1), .sh (.int (vAt c (M + 1)).2.1)]
        = some (farG rise run c M) :=
      ev_T (ev_op (ev_op (ev_V rfl) (ev_op (ev_V rfl) (ev_V rfl) d_sub) (d_mul (mulOk_r (by omega) (by omega)))) (ev_op (ev_V rfl) (ev_op (ev_V rfl) (ev_V rfl) d_sub) (d_mul (mulOk_r (by omega) (by omega)))) rfl)
    have pre : ∀ r, (sIf (gT (gOp dGt (gOp dMul (gV 1) (gOp dSub (gV 9) (gV 6))) (gOp dMul (gV 2) (gOp dSub (gV 10) (gV 7)))))
        (sSet 3 (gOp dAdd (gV 5) (gI 1)))
        (sSet 4 (gV 5))) [.bo (.lst (c.map encL)), .sh (.int rise), .sh (.int run), .sh (.int a), .sh (.int b), .sh (.int M), .sh (.int (vAt c M).1), .sh (.int (vAt c M).2.1), .sh (.int (vAt c (M + 1)).2.2), .sh (.int (vAt c (M + 1)).1), .sh (.int (vAt c (M + 1)).2.1)] = r →
        fBody [.bo (.lst (c.map encL)), .sh (.int rise), .sh (.int run), .sh (.int a), .sh (.int b), s5, s6, s7, s8, s9, s10] = r := fun r h => by
      unfold fBody
      refine sq_set (d := .int M) (ev_op (ev_op (ev_V rfl) (ev_V rfl) d_add) ev_I ((d_div (by decide) (by decide)).trans (by rw [em]))) ?_
      refine sq_unp (d := encL (vAt c M)) (ev_op (ev_Bb rfl) (ev_V rfl) (ixv (by omega) rfl)) rfl ?_
      exact sq_unp (d := encL (vAt c (M + 1))) (ev_op (ev_Bb rfl) (ev_op (ev_V rfl) ev_I d_add) (ixv hm (by omega))) rfl h
    cases hg : farG rise run c M with
    | true =>
      rw [hg] at test
      obtain ⟨n, Γ', e⟩ := far_loop rise run c hc f (M + 1) b (by omega) hb (.sh (.int M)) (.sh (.int (vAt c M).1)) (.sh (.int (vAt c M).2.1)) (.sh (.int (vAt c (M + 1)).2.2)) (.sh (.int (vAt c (M + 1)).1)) (.sh (.int (vAt c (M + 1)).2.1))
      rcases e with ⟨e1, e2, e3, e4⟩ | e
      · refine ⟨n + 1, Γ', .inl ⟨whileN_nx h0 (pre _ (sv_ifT test (sv_set (d := .int ((M + 1 : Nat) : Int)) (ev_op (ev_V rfl) ev_I d_add)))) e1, e2, ?_, ?_⟩⟩
        · unfold farN; rw [if_pos hlt, hM, hg]; exact e3
        · unfold farN; rw [if_pos hlt, hM, hg]; exact e4
      · omega
    | false =>
      rw [hg] at test
      obtain ⟨n, Γ', e⟩ := far_loop rise run c hc f a M (by omega) (by omega) (.sh (.int M)) (.sh (.int (vAt c M).1)) (.sh (.int (vAt c M).2.1)) (.sh (.int (vAt c (M + 1)).2.2)) (.sh (.int (vAt c (M + 1)).1)) (.sh (.int (vAt c (M + 1)).2.1))
      rcases e with ⟨e1, e2, e3, e4⟩ | e
      · refine ⟨n + 1, Γ', .inl ⟨whileN_nx h0 (pre _ (sv_ifF test (sv_set (ev_V rfl)))) e1, e2, ?_, ?_⟩⟩
        · unfold farN; rw [if_pos hlt, hM, hg]; exact e3
        · unfold farN; rw [if_pos hlt, hM, hg]; exact e4
      · omega
theorem far_eq (rise run : Int) (c : List Vx) (hc : ∀ q ∈ c, SmV q) (hn : c ≠ []) : S_farthest [.lst (c.map encL), .int rise, .int run] = some (encL (vAt c (farI rise run c))) := by
  have cl : 0 < c.length := List.length_pos_iff.mpr hn
  obtain ⟨n, Γ', e⟩ := far_loop rise run c hc c.length 0 (c.length - 1) (by omega) (by omega) .no .no .no .no .no .no
  rcases e with ⟨e1, e2, e3, e4⟩ | e
  · refine sv_runK ?_
    unfold B_farthest
    refine sq_par (ds := [.int 0, .int ((c.length - 1 : Nat) : Int)]) (ev_cs ev_I (ev_cs (ev_op (ev_U (ev_Bb rfl) lenv) ev_I (d_sub.trans ?_)) ev_nl)) ?_
    · congr 2; omega
    · exact sv_nx (sWhile_of e1) (sv_ret (ev_op (ev_Bb e2) (ev_V e3) (ixv e4 rfl)))
  · omega
theorem keptN_nil (t : Int) (v : Vx) : putb t [] v = [v] := rfl
theorem under_eq (t : Int) (ht : -(2 ^ 13) < t ∧ t < 2 ^ 13) (c o : List Vx) (v : Vx) (hc : ∀ q ∈ c, SmV q) (ho : ∀ q ∈ o, SmV q) (hv : SmV v) (nc : c ≠ []) (no : o ≠ []) (hfar : farI (t * (v.2.1 - (vAt c (keptN t c v c.length - 1)).2.1)) (t * (v.1 - (vAt c (keptN t c v c.length - 1)).1)) o < o.length) :
    S_deviation_under [encL (vAt c (keptN t c v c.length - 1)), encL v, .lst (o.map encL), .int t] = some (match under t c o v with | none => .non | some g => encD g) := by
  have kle := keptN_le t c v c.length
  have cl : 0 < c.length := List.length_pos_iff.mpr nc
  have kp := keptN_pos t c v c.length cl
  have hf := far_eq (t * (v.2.1 - (vAt c (keptN t c v c.length - 1)).2.1)) (t * (v.1 - (vAt c (keptN t c v c.length - 1)).1)) o ho no
  have ha := hc _ (vAt_mem (c := c) (i := keptN t c v c.length - 1) (by omega))
  have hm := ho _ (vAt_mem hfar)
  unfold under
  simp only
  generalize vAt c (keptN t c v c.length - 1) = a at *
  generalize vAt o (farI (t * (v.2.1 - a.2.1)) (t * (v.1 - a.1)) o) = m at *
  have i0 : ∀ a : Vx, dIx (encL a) (.int 0) = some (.int a.1) := fun _ => rfl
  have i1 : ∀ a : Vx, dIx (encL a) (.int 1) = some (.int a.2.1) := fun _ => rfl
  refine run_WKeq ?_
  unfold B_deviation_under
  show W _ [.sh (encL a), .sh (encL v), .bo (.lst (o.map encL)), .sh (.int t), .no, .no, .no, .no] _
  refine wq_set (ev_op (ev_op (ev_B rfl) ev_I (i0 _)) (ev_op (ev_B rfl) ev_I (i0 _)) d_sub) ?_
  walk_at "ev norm"
  refine wq_set (ev_op (ev_op (ev_B rfl) ev_I (i1 _)) (ev_op (ev_B rfl) ev_I (i1 _)) d_sub) ?_
  walk_at "ev norm"
  refine wq_set (ev_call (ev_cs (ev_Bb rfl) (ev_cs (ev_op (ev_V rfl) (ev_V rfl) (d_mul (mulOk_l (by omega) (by omega)))) (ev_cs (ev_op (ev_V rfl) (ev_V rfl) (d_mul (mulOk_l (by omega) (by omega)))) ev_nl))) hf) ?_
  walk_at "ev norm"
  refine wq_ifR (ev_T (ev_op (ev_op (ev_B rfl) ev_I (i0 _)) (ev_op (ev_B rfl) ev_I (i0 _)) rfl)) (fun h => ⟨_, ev_C, ?_⟩) (fun h => ?_)
  · rw [if_pos (by simpa using h)]
    rfl
  have h : ¬ m.1 < a.1 := by simpa using h
  rw [if_neg h]
  refine wq_set (ev_op (ev_V rfl) (ev_op (ev_op (ev_V rfl) (ev_op (ev_op (ev_B rfl) ev_I (i1 _)) (ev_op (ev_B rfl) ev_I (i1 _)) d_sub) (d_mul (mulOk_l (by omega) (by omega)))) (ev_op (ev_V rfl) (ev_op (ev_op (ev_B rfl) ev_I (i0 _)) (ev_op (ev_B rfl) ev_I (i0 _)) d_sub) (d_mul (mulOk_l (by omega) (by omega)))) d_add) (d_mul (mulOk_l (by omega) (by omega)))) ?_
  walk_at "ev norm"
  exact W_ret (ev_tu (ev_cs (ev_V rfl) (ev_cs (ev_V rfl) (ev_cs (ev_V rfl) (ev_cs (ev_V rfl) (ev_cs (ev_V rfl) ev_nl)))))) rfl
/-- the object, as it is looked at and as one's own -/
def stD (U L : List Vx) (g : D) : D := .obj 4 [.lst (U.map encL), .lst (L.map encL), g]
def stS (U L : List Vx) (g : D) : Sl := .ob 4 [.ow (U.map encL), .ow (L.map encL), .sh g]
/-- the state after the points P: with none, nothing; else the strip -/
def StOk (P U L : List Vx) (g : D) : Prop := (P = [] ∧ U = [] ∧ L = [] ∧ g = .non) ∨ ∃ d, g = encD d ∧ Strp P U L d
def stepT (U L : List Vx) (v : Vx) (d : D) : D := .tup [d, .int (keptN 1 U v U.length : Nat), .int (keptN (-1) L v L.length : Nat)]
theorem dev_eq {P U L : List Vx} {g : D} {v : Vx} (h : StOk P U L g) (hP : ∀ q ∈ P, SmV q) (hv : SmV v) (lt : ∀ q ∈ P, q.1 < v.1 ∧ q.2.2 < v.2.2) :
    ∃ d : Dv, S_Strip_step_with [stD U L g, encL v] = some (stepT U L v (encD d)) ∧ StOk (P ++ [v]) (putb 1 U v) (putb (-1) L v) (encD d) ∧ (∃ t, Gd (P ++ [v]) d t) ∧ AscV (P ++ [v]) := by
  rcases h with ⟨rfl, rfl, rfl, rfl⟩ | ⟨g, rfl, h⟩
  · have F := Strp.first v
    refine ⟨⟨0, 1, v, v, v⟩, ?_, .inr ⟨_, rfl, F⟩, F.gd, F.asc⟩
    refine run_WKeq ?_
    unfold B_Strip_step_with
    exact wq_ifR (b := true) (ev_not (b := false) (ev_Tru (x := .lst []) (ev_U (ev_Bb rfl) rfl) rfl)) (fun _ => ⟨_, ev_tu (ev_cs (ev_tu (ev_cs ev_I (ev_cs ev_I (ev_cs (ev_V rfl) (ev_cs (ev_V rfl) (ev_cs (ev_V rfl) ev_nl)))))) (ev_cs ev_I (ev_cs ev_I ev_nl))), rfl⟩) (fun z => by cases z)
  · have T := h.take lt
    refine ⟨devW U L g v, ?_, .inr ⟨_, rfl, T⟩, T.gd, T.asc⟩
    have hU : ∀ q ∈ U, SmV q := fun q hq => hP q (h.hu.sub q hq)
    have hL : ∀ q ∈ L, SmV q := fun q hq => hP q (h.hl.sub q hq)
    have t1 := h.hu.tangent lt rfl
    have t2 := h.hl.tangent lt rfl
    have f1 := (h.hl.far (t := 1) (rise := v.2.1 - (vAt U (keptN 1 U v U.length - 1)).2.1) (run := v.1 - (vAt U (keptN 1 U v U.length - 1)).1) (by omega)).1
    have f2 := (Hull.far (t := -1) (c := U) (P := P) (by rw [Int.neg_neg]; exact h.hu) (rise := v.2.1 - (vAt L (keptN (-1) L v L.length - 1)).2.1) (run := v.1 - (vAt L (keptN (-1) L v L.length - 1)).1) (by omega)).1
    have u1 := under_eq 1 (by omega) U L v hU hL hv h.hu.ne h.hl.ne f1
    have u2 := under_eq (-1) (by omega) L U v hL hU hv h.hl.ne h.hu.ne f2
    have k1 := kept_eq 1 (by omega) U v hU hv
    have k2 := kept_eq (-1) (by omega) L v hL hv
    have kl1 := keptN_le 1 U v U.length
    have kl2 := keptN_le (-1) L v L.length
    have kp1 := keptN_pos 1 U v U.length (List.length_pos_iff.mpr h.hu.ne)
    have kp2 := keptN_pos (-1) L v L.length (List.length_pos_iff.mpr h.hl.ne)
    have ne : (!(U.map encL).isEmpty) = true := by
      have := h.hu.ne
      cases U with
      | nil => exact absurd rfl this
      | cons => rfl
    have f0 : dFld 4 0 (stD U L (encD g)) = some (.lst (U.map encL)) := rfl
    have f1' : dFld 4 1 (stD U L (encD g)) = some (.lst (L.map encL)) := rfl
    have f2' : dFld 4 2 (stD U L (encD g)) = some (encD g) := rfl
    have fi : dIsN (encD (devW U L g v)) .non = some (.bl false) := rfl
    refine run_WKeq ?_
    unfold B_Strip_step_with
    show W _ [.bo (stD U L (encD g)), .sh (encL v), .no, .no, .no] _
    generalize stD U L (encD g) = sd at *
    refine wq_ifN (b := !true) (ev_not (ev_Tru (x := .lst (U.map encL)) (ev_U (ev_Bb rfl) f0) (by show some (!(U.map encL).isEmpty) = _; rw [ne]))) rfl ?_
    refine wq_set (ev_call (ev_cs (ev_U (ev_Bb rfl) f0) (ev_cs (ev_V rfl) (ev_cs ev_I ev_nl))) k1) ?_
    walk_at "ev norm"
    refine wq_set (ev_call (ev_cs (ev_U (ev_Bb rfl) f1') (ev_cs (ev_V rfl) (ev_cs (ev_U ev_I rfl) ev_nl))) k2) ?_
    walk_at "ev norm"
    refine wq_set (ev_call (ev_cs (ev_op (ev_U (ev_Bb rfl) f0) (ev_op (ev_V rfl) ev_I d_sub) (ixv (k := keptN 1 U v U.length - 1) (by omega) (by omega))) (ev_cs (ev_V rfl) (ev_cs (ev_U (ev_Bb rfl) f1') (ev_cs ev_I ev_nl)))) u1) ?_
    walk_at "ev norm"
    unfold devW
    cases h1 : under 1 U L v with
    | some d =>
      refine wq_ifN (b := false) (ev_T (ev_op (ev_B rfl) ev_C rfl)) rfl ?_
      refine wq_ifN (b := false) (ev_T (ev_op (ev_B rfl) ev_C rfl)) rfl ?_
      exact W_ret (ev_tu (ev_cs (ev_V rfl) (ev_cs (ev_V rfl) (ev_cs (ev_V rfl) ev_nl)))) rfl
    | none =>
      refine wq_if (b := true) (ev_T (ev_op (ev_B rfl) ev_C rfl)) (fun _ => W_set (ev_call (ev_cs (ev_op (ev_U (ev_Bb rfl) f1') (ev_op (ev_V rfl) ev_I d_sub) (ixv (k := keptN (-1) L v L.length - 1) (by omega) (by omega))) (ev_cs (ev_V rfl) (ev_cs (ev_U (ev_Bb rfl) f0) (ev_cs (ev_U ev_I rfl) ev_nl)))) u2) ?_) (fun z => by cases z)
      show W _ _ _
      walk_at "ev norm"
      cases h2 : under (-1) L U v with
      | some d =>
        refine wq_ifN (b := false) (ev_T (ev_op (ev_B rfl) ev_C rfl)) rfl ?_
        exact W_ret (ev_tu (ev_cs (ev_V rfl) (ev_cs (ev_V rfl) (ev_cs (ev_V rfl) ev_nl)))) rfl
      | none =>
        have e : gIm (gU (dFld 4 2) (gB 0)) [.bo sd, .sh (encL v), .sh (.int (keptN 1 U v U.length : Nat)), .sh (.int (keptN (-1) L v L.length : Nat)), .sh .non] = some (encD g) := by
          have e : gU (dFld 4 2) (gB 0) [.bo sd, .sh (encL v), .sh (.int (keptN 1 U v U.length : Nat)), .sh (.int (keptN (-1) L v L.length : Nat)), .sh .non] = some (encD g) := ev_U (ev_Bb rfl) f2'
          show ((gU (dFld 4 2) (gB 0) [.bo sd, .sh (encL v), .sh (.int (keptN 1 U v U.length : Nat)), .sh (.int (keptN (-1) L v L.length : Nat)), .sh .non]).bind _) = _
          rw [e]
          rfl
        refine wq_if (b := true) (ev_T (ev_op (ev_B rfl) ev_C rfl)) (fun _ => W_set e ?_) (fun z => by cases z)
        show W _ _ _
        walk_at "ev norm"
        exact W_ret (ev_tu (ev_cs (ev_V rfl) (ev_cs (ev_V rfl) (ev_cs (ev_V rfl) ev_nl)))) rfl
theorem putb_le (t : Int) (c : List Vx) (v : Vx) : (putb t c v).length ≤ c.length + 1 := by
  rw [putb_len]
  have := keptN_le t c v c.length
  omega
theorem sv_delF {Γ : DEnv} {i : Nat} {rp : Pth} {f : Ex} {xs : List D} {k : Nat} (h : gP i rp Γ = some (.ow xs)) (hf : f Γ = some (.int (k : Nat))) (hk : k ≤ xs.length) : sDelF i rp f Γ = upP i rp (.ow (xs.take k)) Γ := by
  unfold sDelF
  rw [h]
  show ((f Γ).bind _) = _
  rw [hf]
  show (if 0 ≤ ((k : Nat) : Int) ∧ ((k : Nat) : Int).toNat ≤ xs.length then upP i rp (.ow (xs.take ((k : Nat) : Int).toNat)) Γ else none) = _
  rw [if_pos ⟨by omega, by omega⟩, Int.toNat_natCast]
theorem sv_appP {Γ : DEnv} {i : Nat} {rp : Pth} {f : Ex} {xs : List D} {d : D} (h : gP i rp Γ = some (.ow xs)) (hf : f Γ = some d) (hk : xs.length < 1000000) : sApp i rp f Γ = upP i rp (.ow (xs ++ [d])) Γ := by
  unfold sApp
  rw [hf]
  show (match gP i rp Γ with
    | some (.ow xs) => if xs.length < 1000000 then upP i rp (.ow (xs ++ [d])) Γ else none
    | _ => none) = _
  rw [h]
  show (if xs.length < 1000000 then upP i rp (.ow (xs ++ [d])) Γ else none) = _
  rw [if_pos hk]
theorem take_eq {U L : List Vx} {g d : D} {v : Vx} (l1 : U.length < 100000) (l2 : L.length < 100000) :
    S_Strip_take (stS U L g) [encL v, stepT U L v d] = some (.non, stS (putb 1 U v) (putb (-1) L v) d) := by
  have kl1 := keptN_le 1 U v U.length
  have kl2 := keptN_le (-1) L v L.length
  unfold putb stepT
  generalize keptN 1 U v U.length = a at *
  generalize keptN (-1) L v L.length = b at *
  have h0 : sUnpF 0 [] 4 2 3 (gTo (gN 3) (gTo (gN 4) gEnd)) (gV 2) [stS U L g, .sh (encL v), .sh (.tup [d, .int a, .int b]), .no, .no] = some (.nx [stS U L d, .sh (encL v), .sh (.tup [d, .int a, .int b]), .sh (.int a), .sh (.int b)]) := rfl
  have h1 : sDelF 0 [(4, 0)] (gV 3) [stS U L d, .sh (encL v), .sh (.tup [d, .int a, .int b]), .sh (.int a), .sh (.int b)] = some (.nx [stS (U.take a) L d, .sh (encL v), .sh (.tup [d, .int a, .int b]), .sh (.int a), .sh (.int b)]) := by
    refine (sv_delF (xs := U.map encL) (k := a) rfl (ev_V rfl) (by rw [List.length_map]; exact kl1)).trans ?_
    rw [← List.map_take]
    rfl
  have h2 : sApp 0 [(4, 0)] (gV 1) [stS (U.take a) L d, .sh (encL v), .sh (.tup [d, .int a, .int b]), .sh (.int a), .sh (.int b)] = some (.nx [stS (U.take a ++ [v]) L d, .sh (encL v), .sh (.tup [d, .int a, .int b]), .sh (.int a), .sh (.int b)]) := by
    refine (sv_appP (xs := (U.take a).map encL) rfl (ev_V rfl) (by rw [List.length_map, List.length_take]; omega)).trans ?_
    have e : (U.take a).map encL ++ [encL v] = (U.take a ++ [v]).map encL := by rw [List.map_append]; rfl
    rw [e]
    rfl
  have h3 : sDelF 0 [(4, 1)] (gV 4) [stS (U.take a ++ [v]) L d, .sh (encL v), .sh (.tup [d, .int a, .int b]), .sh (.int a), .sh (.int b)] = some (.nx [stS (U.take a ++ [v]) (L.take b) d, .sh (encL v), .sh (.tup [d, .int a, .int b]), .sh (.int a), .sh (.int b)]) := by
    refine (sv_delF (xs := L.map encL) (k := b) rfl (ev_V rfl) (by rw [List.length_map]; exact kl2)).trans ?_
    rw [← List.map_take]
    rfl
  have h4 : sApp 0 [(4, 1)] (gV 1) [stS (U.take a ++ [v]) (L.take b) d, .sh (encL v), .sh (.tup [d, .int a, .int b]), .sh (.int a), .sh (.int b)] = some (.nx [stS (U.take a ++ [v]) (L.take b ++ [v]) d, .sh (encL v), .sh (.tup [d, .int a, .int b]), .sh (.int a), .sh (.int b)]) := by
    refine (sv_appP (xs := (L.take b).map encL) rfl (ev_V rfl) (by rw [List.length_map, List.length_take]; omega)).trans ?_
    have e : (L.take b).map encL ++ [encL v] = (L.take b ++ [v]).map encL := by rw [List.map_append]; rfl
    rw [e]
    rfl
  have hB : B_Strip_take [stS U L g, .sh (encL v), .sh (.tup [d, .int a, .int b]), .no, .no] = some (.nx [stS (U.take a ++ [v]) (L.take b ++ [v]) d, .sh (encL v), .sh (.tup [d, .int a, .int b]), .sh (.int a), .sh (.int b)]) := sv_nx h0 (sv_nx h1 (sv_nx h2 (sv_nx h3 h4)))
  show (B_Strip_take [stS U L g, .sh (encL v), .sh (.tup [d, .int a, .int b]), .no, .no]).bind _ = _
  rw [hB]
  rfl
theorem sv_rm {F F' : Sm} {Γ : DEnv} {d : D} {s : Sl} (h : F Γ = some (.rm d s)) : sSeq F F' Γ = some (.rm d s) := by unfold sSeq; rw [h]; rfl
theorem Gd.bounds {P : List Vx} {g : Dv} {t : Int} (h : Gd P g t) (hP : ∀ q ∈ P, SmV q) : 0 < g.run ∧ g.run < 2 ^ 57 ∧ -(2 ^ 57) < g.rise ∧ g.rise < 2 ^ 57 := by
  have ha := hP _ h.ma
  have hz := hP _ h.mz
  refine ⟨h.run, ?_, ?_⟩
  · rcases h.rx with e | e <;> omega
  · unfold Dv.rise; omega
theorem three_dv {a b c : Int × Int} {i j k e : Int} : three a b c e = true ↔ -(2 * e * (c.1 - a.1)) ≤ dv3 (a.1, a.2, i) (b.1, b.2, j) (c.1, c.2, k) ∧ dv3 (a.1, a.2, i) (b.1, b.2, j) (c.1, c.2, k) ≤ 2 * e * (c.1 - a.1) := by
  unfold three dv3
  rw [decide_eq_true_eq, absI_le]
/-- a chain has at most as many vertices as there are points -/
theorem AscX_len {c P : List Vx} (h : AscX c) (hs : ∀ q ∈ c, q ∈ P) (hP : AscV P) : c.length ≤ P.length := by
  have : ∀ n, n ≤ c.length → ∀ i, i < n → ∃ j, i ≤ j ∧ j < P.length ∧ vAt P j = vAt c i := fun n => by
    intro hn i hi
    induction i with
    | zero =>
      obtain ⟨j, hj, ej⟩ := mem_vAt (hs _ (vAt_mem (c := c) (i := 0) (by omega)))
      exact ⟨j, by omega, hj, ej⟩
    | succ i ih =>
      obtain ⟨j, h1, h2, h3⟩ := ih (by omega)
      obtain ⟨k, hk, ek⟩ := mem_vAt (hs _ (vAt_mem (c := c) (i := i + 1) (by omega)))
      refine ⟨k, ?_, hk, ek⟩
      have lt := (h i (i + 1) (by omega) (by omega)).1
      rw [← h3, ← ek] at lt
      by_cases x : i + 1 ≤ k
      · exact x
      · by_cases y : k = j
        · subst y; omega
        · have := (hP.at (i := k) (j := j) (by omega) h2).1
          omega
  by_cases z : c.length = 0
  · omega
  · obtain ⟨j, h1, h2, _⟩ := this c.length (Nat.le_refl _) (c.length - 1) (by omega)
    omega
/-! ### points from a start on, and the longest piece -/
def vx (pts : List (Int × Int)) (i : Nat) : Vx := ((pAt pts i).1, (pAt pts i).2, (i : Int))
def seg (pts : List (Int × Int)) (s k : Nat) : List Vx := (List.range k).map fun i => vx pts (s + i)
theorem seg_len {pts : List (Int × Int)} {s k : Nat} : (seg pts s k).length = k := by simp [seg]
theorem seg_at {pts : List (Int × Int)} {s k i : Nat} (h : i < k) : vAt (seg pts s k) i = vx pts (s + i) := by simp [vAt, seg, h]
theorem seg_snoc {pts : List (Int × Int)} {s k : Nat} : seg pts s (k + 1) = seg pts s k ++ [vx pts (s + k)] := by simp [seg, List.range_succ]
theorem seg_mem {pts : List (Int × Int)} {s k : Nat} {v : Vx} (h : v ∈ seg pts s k) : ∃ i, i < k ∧ v = vx pts (s + i) := by
  obtain ⟨i, hi, rfl⟩ := List.mem_map.mp h
  exact ⟨i, List.mem_range.mp hi, rfl⟩
theorem seg_sm {pts : List (Int × Int)} {s k : Nat} (hb : ∀ a ∈ pts, SmQ a) (h : s + k ≤ pts.length) : ∀ q ∈ seg pts s k, SmV q := fun q hq => by
  obtain ⟨i, hi, rfl⟩ := seg_mem hq
  exact hb _ (pAt_mem (by omega))
theorem seg_lt {pts : List (Int × Int)} {s k : Nat} (ha : ∀ i j, i < j → j < pts.length → (pAt pts i).1 < (pAt pts j).1) (h : s + k < pts.length) : ∀ q ∈ seg pts s k, q.1 < (vx pts (s + k)).1 ∧ q.2.2 < (vx pts (s + k)).2.2 := fun q hq => by
  obtain ⟨i, hi, rfl⟩ := seg_mem hq
  exact ⟨ha _ _ (by omega) h, by show ((s + i : Nat) : Int) < ((s + k : Nat) : Int); omega⟩
theorem fit_seg {pts : List (Int × Int)} {s k : Nat} {g : Dv} {t e : Int} (G : Gd (seg pts s k) g t) (asc : AscV (seg pts s k)) (he : 0 ≤ e) : FitR pts e s (s + k) ↔ g.over ≤ 2 * e * g.run := by
  constructor
  · intro h
    by_cases x : g.over ≤ 2 * e * g.run
    · exact x
    · obtain ⟨⟨a1, a2⟩, ⟨b1, b2⟩, no⟩ := G.shown asc he (by omega)
      obtain ⟨i, hi, ei⟩ := seg_mem G.ma
      obtain ⟨j, hj, ej⟩ := seg_mem G.mm
      obtain ⟨m, hm, em⟩ := seg_mem G.mz
      rw [ei, ej] at a2
      rw [ej, em] at b2
      replace a2 : ((s + i : Nat) : Int) < ((s + j : Nat) : Int) := a2
      replace b2 : ((s + j : Nat) : Int) < ((s + m : Nat) : Int) := b2
      have := (three_dv (i := ((s + i : Nat) : Int)) (j := ((s + j : Nat) : Int)) (k := ((s + m : Nat) : Int))).mp (h (s + i) (s + j) (s + m) (by omega) (by omega) (by omega) (by omega))
      rw [ei, ej, em] at no
      exact absurd this no
  · intro h i j m h1 h2 h3 h4
    have := G.most (p := vAt (seg pts s k) (i - s)) (q := vAt (seg pts s k) (j - s)) (r := vAt (seg pts s k) (m - s)) (vAt_mem (by rw [seg_len]; omega)) (vAt_mem (by rw [seg_len]; omega)) (vAt_mem (by rw [seg_len]; omega)) (Int.le_of_lt (asc.at (by omega) (by rw [seg_len]; omega)).1) (Int.le_of_lt (asc.at (by omega) (by rw [seg_len]; omega)).1) h
    rw [seg_at (i := i - s) (by omega), seg_at (i := j - s) (by omega), seg_at (i := m - s) (by omega)] at this
    have e1 : s + (i - s) = i := by omega
    have e2 : s + (j - s) = j := by omega
    have e3 : s + (m - s) = m := by omega
    rw [e1, e2, e3] at this
    exact (three_dv (i := (i : Int)) (j := (j : Int)) (k := (m : Int))).mpr this
theorem StOk.len {P U L : List Vx} {g : D} (h : StOk P U L g) : U.length ≤ P.length ∧ L.length ≤ P.length := by
  rcases h with ⟨rfl, rfl, rfl, rfl⟩ | ⟨d, rfl, h⟩
  · simp
  · exact ⟨AscX_len h.hu.asc h.hu.sub h.asc, AscX_len h.hl.asc h.hl.sub h.asc⟩
theorem StOk.sub {P U L : List Vx} {g : D} (h : StOk P U L g) : (∀ q ∈ U, q ∈ P) ∧ (∀ q ∈ L, q ∈ P) := by
  rcases h with ⟨rfl, rfl, rfl, rfl⟩ | ⟨d, rfl, h⟩
  · exact ⟨fun _ z => z, fun _ z => z⟩
  · exact ⟨h.hu.sub, h.hl.sub⟩
theorem lthree_eq (a b c : Int × Int) (e : Int) (ha : SmQ a) (hb : SmQ b) (hc : SmQ c) : S__law_three [encP a, encP b, encP c, .int e] = some (.bl (three a b c e)) := by
  obtain ⟨x, y⟩ := a
  obtain ⟨u, v⟩ := b
  obtain ⟨s, t⟩ := c
  obtain ⟨⟨a1, a2⟩, a3, a4⟩ := ha
  obtain ⟨⟨b1, b2⟩, b3, b4⟩ := hb
  obtain ⟨⟨c1, c2⟩, c3, c4⟩ := hc
  simp only [] at a1 a2 a3 a4 b1 b2 b3 b4 c1 c2 c3 c4
  refine sv_run ?_
  unfold B__law_three three encP
  walk_at "ev norm"
  walk_at "ev st"
  walk_at "ev st"
theorem lfits_eq (pts : List (Int × Int)) (e : Int) (hl : pts.length < 1000000) (hb : ∀ a ∈ pts, SmQ a) : S__law_fits [.lst (pts.map encP), .int e] = some (.bl (fitsB pts e)) := by
  have hs := forL_chk (gs := gN 2) (F := (sFor (gRng (aC (gI 1) (aC (gV 2) aN))) (gN 3)
  (sFor (gRng (aC (gV 3) aN)) (gN 4)
  (sIf (gNot (gTru (gCall S__law_three (aC (gIx (gB 0) (gV 4)) (aC (gIx (gB 0) (gV 3)) (aC (gIx (gB 0) (gV 2)) (aC (gV 1) aN)))))))
  (sRet (gC (.bl false)))
  sNil)))) (.bl false) (fun Γ => ∃ s2 s3 s4, Γ = [.sh (.lst (pts.map encP)), .sh (.int e), s2, s3, s4]) (rngD 2 (pts.length - 2)) (fun k => (List.range (k + 1)).all fun j => (List.range (j + 1)).all fun i => three (pAt pts i) (pAt pts (j + 1)) (pAt pts (k + 2)) e)
  specialize hs ?_ [.sh (.lst (pts.map encP)), .sh (.int e), .no, .no, .no] ⟨_, _, _, rfl⟩
  rotate_left
  · obtain ⟨c1, c2⟩ := hs
    rw [rngD_len] at c1 c2
    refine sv_run ?_
    unfold B__law_fits
    walk_at "ev norm"
    have hr : gRng (aC (gI 2) (aC (gU dLen (gB 0)) aN)) [.sh (.lst (pts.map encP)), .sh (.int e), .no, .no, .no] = some (rngD 2 (pts.length - 2)) := by
      have := ev_rng2 (m := 2) (j := pts.length) (Γ := [.sh (.lst (pts.map encP)), .sh (.int e), .no, .no, .no]) (fs := aC (gI 2) (aC (gU dLen (gB 0)) aN)) (ev_cs ev_I (ev_cs (ev_U (ev_B rfl) (by rw [d_lenL, List.length_map])) ev_nl)) (by omega) (by omega) (by omega) (by omega)
      have z : ((pts.length : Int) - 2).toNat = pts.length - 2 := by omega
      rw [this, z]
    unfold fitsB
    cases ht : (List.range (pts.length - 2)).all fun k => (List.range (k + 1)).all fun j => (List.range (j + 1)).all fun i => three (pAt pts i) (pAt pts (j + 1)) (pAt pts (k + 2)) e with
    | false => exact sv_rt (sv_for hr (c2 ht))
    | true =>
      obtain ⟨Γ', f1, s2, s3, s4, rfl⟩ := c1 ht
      exact sv_nx (sv_for hr f1) (sv_ret ev_C)
  · rintro k d Γ hd ⟨s2, s3, s4, rfl⟩
    obtain ⟨hk, rfl⟩ := rngD_get hd
    refine ⟨[.sh (.lst (pts.map encP)), .sh (.int e), .sh (.int (2 + (k : Nat))), s3, s4], rfl, ?_⟩
    have hs := forL_chk (gs := gN 3) (F := (sFor (gRng (aC (gV 3) aN)) (gN 4)
  (sIf (gNot (gTru (gCall S__law_three (aC (gIx (gB 0) (gV 4)) (aC (gIx (gB 0) (gV 3)) (aC (gIx (gB 0) (gV 2)) (aC (gV 1) aN)))))))
  (sRet (gC (.bl false)))
  sNil))) (.bl false) (fun Γ => ∃ s3 s4, Γ = [.sh (.lst (pts.map encP)), .sh (.int e), .sh (.int (2 + (k : Nat))), s3, s4]) (rngD 1 (k + 1)) (fun j => (List.range (j + 1)).all fun i => three (pAt pts i) (pAt pts (j + 1)) (pAt pts (k + 2)) e) ?_ [.sh (.lst (pts.map encP)), .sh (.int e), .sh (.int (2 + (k : Nat))), s3, s4] ⟨_, _, rfl⟩
    · obtain ⟨d1, d2⟩ := hs
      rw [rngD_len] at d1 d2
      have hr : gRng (aC (gI 1) (aC (gV 2) aN)) [.sh (.lst (pts.map encP)), .sh (.int e), .sh (.int (2 + (k : Nat))), s3, s4] = some (rngD 1 (k + 1)) := by
        rw [ev_rng2 (m := 1) (j := 2 + (k : Nat)) (ev_cs ev_I (ev_cs (ev_V rfl) ev_nl)) (by omega) (by omega) (by omega) (by omega)]
        congr 2
        omega
      refine ⟨fun ht => ?_, fun ht => sv_for hr (d2 ht)⟩
      obtain ⟨Γ', f1, s3, s4, rfl⟩ := d1 ht
      exact ⟨_, sv_for hr f1, _, _, _, rfl⟩
    · rintro j d Γ hd ⟨s3, s4, rfl⟩
      obtain ⟨hj, rfl⟩ := rngD_get hd
      refine ⟨[.sh (.lst (pts.map encP)), .sh (.int e), .sh (.int (2 + (k : Nat))), .sh (.int (1 + (j : Nat))), s4], rfl, ?_⟩
      have hs := forL_chk (gs := gN 4) (F := (sIf (gNot (gTru (gCall S__law_three (aC (gIx (gB 0) (gV 4)) (aC (gIx (gB 0) (gV 3)) (aC (gIx (gB 0) (gV 2)) (aC (gV 1) aN)))))))
  (sRet (gC (.bl false)))
  sNil)) (.bl false) (fun Γ => ∃ s4, Γ = [.sh (.lst (pts.map encP)), .sh (.int e), .sh (.int (2 + (k : Nat))), .sh (.int (1 + (j : Nat))), s4]) (rngD 0 (j + 1)) (fun i => three (pAt pts i) (pAt pts (j + 1)) (pAt pts (k + 2)) e) ?_ [.sh (.lst (pts.map encP)), .sh (.int e), .sh (.int (2 + (k : Nat))), .sh (.int (1 + (j : Nat))), s4] ⟨_, rfl⟩
      · obtain ⟨d1, d2⟩ := hs
        rw [rngD_len] at d1 d2
        have hr : gRng (aC (gV 3) aN) [.sh (.lst (pts.map encP)), .sh (.int e), .sh (.int (2 + (k : Nat))), .sh (.int (1 + (j : Nat))), s4] = some (rngD 0 (j + 1)) := by
          rw [ev_rng1 (m := 1 + (j : Nat)) (ev_cs (ev_V rfl) ev_nl) (by omega) (by omega)]
          congr 2
          omega
        refine ⟨fun ht => ?_, fun ht => sv_for hr (d2 ht)⟩
        obtain ⟨Γ', f1, s4, rfl⟩ := d1 ht
        exact ⟨_, sv_for hr f1, _, _, rfl⟩
      · rintro i d Γ hd ⟨s4, rfl⟩
        obtain ⟨hi, rfl⟩ := rngD_get hd
        refine ⟨[.sh (.lst (pts.map encP)), .sh (.int e), .sh (.int (2 + (k : Nat))), .sh (.int (1 + (j : Nat))), .sh (.int (0 + (i : Nat)))], rfl, ?_⟩
        have hp := lthree_eq (pAt pts i) (pAt pts (j + 1)) (pAt pts (k + 2)) e (hb _ (pAt_mem (by omega))) (hb _ (pAt_mem (by omega))) (hb _ (pAt_mem (by omega)))
        have ht : gNot (gTru (gCall S__law_three (aC (gIx (gB 0) (gV 4)) (aC (gIx (gB 0) (gV 3)) (aC (gIx (gB 0) (gV 2)) (aC (gV 1) aN)))))) [.sh (.lst (pts.map encP)), .sh (.int e), .sh (.int (2 + (k : Nat))), .sh (.int (1 + (j : Nat))), .sh (.int (0 + (i : Nat)))] = some (!three (pAt pts i) (pAt pts (j + 1)) (pAt pts (k + 2)) e) :=
          ev_not (ev_Tru (ev_call (ev_cs (ev_op (ev_B rfl) (ev_V rfl) (ixp (k := i) (by omega) (by omega))) (ev_cs (ev_op (ev_B rfl) (ev_V rfl) (ixp (k := j + 1) (by omega) (by omega))) (ev_cs (ev_op (ev_B rfl) (ev_V rfl) (ixp (k := k + 2) (by omega) (by omega))) (ev_cs (ev_V rfl) ev_nl)))) hp) rfl)
        refine ⟨fun h => ⟨_, sv_ifF (by rw [ht, h]; rfl) rfl, _, rfl⟩, fun h => sv_ifT (by rw [ht, h]; rfl) (sv_ret ev_C)⟩
/-! the cut of points for all errors -/
def AscI (pts : List (Int × Int)) : Prop := ∀ i j, i < j → j < pts.length → (pAt pts i).1 < (pAt pts j).1
theorem three_up {a b c : Int × Int} {e e' : Int} (h : three a b c e = true) (hx : a.1 ≤ c.1) (he : e ≤ e') : three a b c e' = true := by
  unfold three at h ⊢
  rw [decide_eq_true_eq] at h ⊢
  refine Int.le_trans h ?_
  have : 0 ≤ 2 * (e' - e) * (c.1 - a.1) := Int.mul_nonneg (by omega) (by omega)
  have e1 : 2 * (e' - e) * (c.1 - a.1) = 2 * e' * (c.1 - a.1) - 2 * e * (c.1 - a.1) := by grind
  omega
theorem FitR.up {pts : List (Int × Int)} (ha : AscI pts) {e e' : Int} {s t : Nat} (ht : t ≤ pts.length) (h : FitR pts e s t) (he : e ≤ e') : FitR pts e' s t := fun i j m h1 h2 h3 h4 =>
  three_up (h i j m h1 h2 h3 h4) (by have := ha i m (by omega) (by omega); omega) he
/-- t is the end of the longest piece from s on -/
def StepP (pts : List (Int × Int)) (e : Int) (s t : Nat) : Prop := s < t ∧ t ≤ pts.length ∧ FitR pts e s t ∧ (t = pts.length ∨ ¬ FitR pts e s (t + 1))
def Path (pts : List (Int × Int)) (e : Int) : Nat → List Nat → Nat → Prop
  | s, [], t => s = t
  | s, u :: us, t => StepP pts e s u ∧ Path pts e u us t
theorem Path.snoc {pts : List (Int × Int)} {e : Int} {u t : Nat} : ∀ {us : List Nat} {s : Nat}, Path pts e s (us ++ [t]) u ↔ ∃ v, Path pts e s us v ∧ StepP pts e v t ∧ t = u
  | [], s => by
    constructor
    · rintro ⟨h1, h2⟩
      exact ⟨s, rfl, h1, h2⟩
    · rintro ⟨v, rfl, h1, h2⟩
      exact ⟨h1, h2⟩
  | x :: xs, s => by
    show StepP pts e s x ∧ Path pts e x (xs ++ [t]) u ↔ _
    rw [Path.snoc]
    constructor
    · rintro ⟨h1, v, h2, h3⟩
      exact ⟨v, ⟨h1, h2⟩, h3⟩
    · rintro ⟨v, ⟨h1, h2⟩, h3⟩
      exact ⟨h1, v, h2, h3⟩
theorem Path.last {pts : List (Int × Int)} {e e' : Int} : ∀ {us : List Nat} {s t t' : Nat}, Path pts e s us t → Path pts e' s us t' → t = t'
  | [], _, _, _, h, h' => h.symm.trans h'
  | _ :: _, _, _, _, h, h' => Path.last h.2 h'.2
theorem StepP.uniq {pts : List (Int × Int)} {e : Int} {s t t' : Nat} (h : StepP pts e s t) (h' : StepP pts e s t') : t = t' := by
  obtain ⟨a1, a2, a3, a4⟩ := h
  obtain ⟨b1, b2, b3, b4⟩ := h'
  rcases Nat.lt_trichotomy t t' with z | z | z
  · rcases a4 with y | y
    · omega
    · exact absurd (b3.mono (Nat.le_refl _) (by omega)) y
  · exact z
  · rcases b4 with y | y
    · omega
    · exact absurd (a3.mono (Nat.le_refl _) (by omega)) y
theorem Path.uniq {pts : List (Int × Int)} {e : Int} : ∀ {us us' : List Nat} {s : Nat}, Path pts e s us pts.length → Path pts e s us' pts.length → us = us'
  | [], [], _, _, _ => rfl
  | [], u :: us, s, h, h' => by
    have h : s = pts.length := h
    have := h'.1.1
    have := h'.1.2.1
    omega
  | u :: us, [], s, h, h' => by
    have h' : s = pts.length := h'
    have := h.1.1
    have := h.1.2.1
    omega
  | u :: us, u' :: us', s, h, h' => by
    have e1 := h.1.uniq h'.1
    subst e1
    rw [Path.uniq h.2 h'.2]
theorem Path.fewer {pts : List (Int × Int)} (ha : AscI pts) {e e' : Int} (he : e ≤ e') : ∀ {us us' : List Nat} {s s' : Nat}, s ≤ s' → Path pts e s us pts.length → Path pts e' s' us' pts.length → us'.length ≤ us.length
  | [], [], _, _, _, _, _ => Nat.le_refl _
  | [], u :: us, s, s', hs, h, h' => by
    have h : s = pts.length := h
    have := h'.1.1
    have := h'.1.2.1
    omega
  | u :: us, [], _, _, _, _, _ => Nat.zero_le _
  | u :: us, u' :: us', s, s', hs, h, h' => by
    have le : u ≤ u' := by
      refine Nat.le_of_not_lt fun z => ?_
      obtain ⟨b1, b2, b3, b4⟩ := h'.1
      obtain ⟨a1, a2, a3, a4⟩ := h.1
      rcases b4 with y | y
      · omega
      · exact y ((a3.up ha a2 he).mono hs (by omega))
    have := Path.fewer ha he le h.2 h'.2
    simp only [List.length_cons]
    omega
/-- the number of pieces for an error -/
def Cnt (pts : List (Int × Int)) (e : Int) (c : Int) : Prop := ∃ us : List Nat, Path pts e 0 us pts.length ∧ (us.length : Int) = c
theorem Cnt.mono {pts : List (Int × Int)} (ha : AscI pts) {e e' c c' : Int} (he : e ≤ e') (h : Cnt pts e c) (h' : Cnt pts e' c') : c' ≤ c := by
  obtain ⟨us, h1, rfl⟩ := h
  obtain ⟨us', h2, rfl⟩ := h'
  have := Path.fewer ha he (Nat.le_refl _) h1 h2
  omega
theorem Cnt.uniq {pts : List (Int × Int)} {e c c' : Int} (h : Cnt pts e c) (h' : Cnt pts e c') : c' = c := by
  obtain ⟨us, h1, rfl⟩ := h
  obtain ⟨us', h2, rfl⟩ := h'
  rw [h1.uniq h2]
/-- an error below b, if there is a b -/
def ltO (e : Int) : Option Int → Prop
  | none => True
  | some b => e < b
/-- the errors from l on, up to b, are those with the same pieces, c of them -/
structure Strt (pts : List (Int × Int)) (l : Int) (b : Option Int) (c : Int) : Prop where
  nn : 0 ≤ l
  lt : ltO l b
  ex : ∃ us : List Nat, (us.length : Int) = c ∧ ∀ e, 0 ≤ e → (Path pts e 0 us pts.length ↔ l ≤ e ∧ ltO e b)
theorem Strt.cnt {pts : List (Int × Int)} {l c : Int} {b : Option Int} (h : Strt pts l b c) {e : Int} (h1 : l ≤ e) (h2 : ltO e b) : Cnt pts e c := by
  obtain ⟨us, h3, h4⟩ := h.ex
  exact ⟨us, (h4 e (by have := h.nn; omega)).mpr ⟨h1, h2⟩, h3⟩
theorem Strt.at {pts : List (Int × Int)} {l c : Int} {b : Option Int} (h : Strt pts l b c) : Cnt pts l c := h.cnt (Int.le_refl _) h.lt
/-- of two such ranges the second lies behind the first, or they are the same -/
theorem Strt.sep {pts : List (Int × Int)} {l c l' c' : Int} {b b' : Option Int} (h : Strt pts l b c) (h' : Strt pts l' b' c') (hl : l ≤ l') : (∃ x, b = some x ∧ x ≤ l') ∨ (l = l' ∧ b = b' ∧ c = c') := by
  obtain ⟨us, h1, h2⟩ := h.ex
  obtain ⟨us', h1', h2'⟩ := h'.ex
  have n := h.nn
  have n' := h'.nn
  by_cases hb : ltO l' b
  · right
    have e1 := ((h2 l' n').mpr ⟨hl, hb⟩).uniq ((h2' l' n').mpr ⟨Int.le_refl _, h'.lt⟩)
    subst e1
    have iff : ∀ e, 0 ≤ e → (l ≤ e ∧ ltO e b ↔ l' ≤ e ∧ ltO e b') := fun e he => (h2 e he).symm.trans (h2' e he)
    have ll : l = l' := by
      have := (iff l n).mp ⟨Int.le_refl _, h.lt⟩
      omega
    subst ll
    refine ⟨rfl, ?_, by rw [← h1, h1']⟩
    have t := h.lt
    have t' := h'.lt
    cases b with
    | none =>
      cases b' with
      | none => rfl
      | some y =>
        have t' : l < y := t'
        have := (iff y (by omega)).mp ⟨by omega, trivial⟩
        have : y < y := this.2
        omega
    | some x =>
      have t : l < x := t
      cases b' with
      | none =>
        have := (iff x (by omega)).mpr ⟨by omega, trivial⟩
        have : x < x := this.2
        omega
      | some y =>
        have t' : l < y := t'
        rcases Int.lt_trichotomy x y with z | z | z
        · have := (iff x (by omega)).mpr ⟨by omega, z⟩
          have : x < x := this.2
          omega
        · rw [z]
        · have := (iff y (by omega)).mp ⟨by omega, z⟩
          have : y < y := this.2
          omega
  · left
    cases b with
    | none => exact absurd trivial hb
    | some x => exact ⟨x, rfl, Int.not_lt.mp hb⟩
/-- all points fit for the range of their heights -/
theorem fit_range {pts : List (Int × Int)} (ha : AscI pts) {N : Int} (hy : ∀ i j, i < pts.length → j < pts.length → (pAt pts i).2 - (pAt pts j).2 ≤ N) : FitR pts N 0 pts.length := fun i j m _ h2 h3 h4 => by
  have x1 := ha i j h2 (by omega)
  have x2 := ha j m h3 h4
  have y1 := hy j i (by omega) (by omega)
  have y2 := hy i j (by omega) (by omega)
  have y3 := hy j m (by omega) h4
  have y4 := hy m j h4 (by omega)
  generalize pAt pts i = a at *
  generalize pAt pts j = b at *
  generalize pAt pts m = c at *
  unfold three
  rw [decide_eq_true_eq, absI_le]
  have q1 : 0 ≤ (N - (b.2 - a.2)) * (c.1 - b.1) := Int.mul_nonneg (by omega) (by omega)
  have q2 : 0 ≤ (N + (b.2 - a.2)) * (c.1 - b.1) := Int.mul_nonneg (by omega) (by omega)
  have q3 : 0 ≤ (N - (b.2 - c.2)) * (b.1 - a.1) := Int.mul_nonneg (by omega) (by omega)
  have q4 : 0 ≤ (N + (b.2 - c.2)) * (b.1 - a.1) := Int.mul_nonneg (by omega) (by omega)
  have q5 : 0 ≤ N * (c.1 - a.1) := Int.mul_nonneg (by omega) (by omega)
  constructor <;> grind
/-- the least error for the first k points from s on -/
def IsE (pts : List (Int × Int)) (s k : Nat) (c : Int) : Prop := 0 ≤ c ∧ ∀ e, 0 ≤ e → (FitR pts e s (s + k) ↔ c ≤ e)
theorem ceil_iff {o d e : Int} (hd : 0 < d) : -((-o) / d) ≤ e ↔ o ≤ e * d := by
  have h := @Int.le_ediv_iff_mul_le (-e) (-o) d hd
  rw [Int.neg_mul] at h
  constructor
  · intro z
    have := h.mp (by omega)
    omega
  · intro z
    have := h.mpr (by omega)
    omega
theorem IsE.one {pts : List (Int × Int)} {s : Nat} {c : Int} (h : IsE pts s 1 c) : c = 0 := by
  have := (h.2 0 (Int.le_refl _)).mp fun i j m h1 h2 h3 h4 => by omega
  have := h.1
  omega
theorem IsE.le {pts : List (Int × Int)} {s k k' : Nat} {c c' : Int} (h : IsE pts s k c) (h' : IsE pts s k' c') (hk : k ≤ k') : c ≤ c' :=
  (h.2 c' h'.1).mp (((h'.2 c' h'.1).mpr (Int.le_refl _)).mono (Nat.le_refl _) (by omega))
/-- the errors of a row -/
def RowE (pts : List (Int × Int)) (s : Nat) (es : List Int) : Prop := ∀ i, i < es.length → IsE pts s (i + 1) (es.getD i 0)
theorem getD_app {es : List Int} {c : Int} {i : Nat} (h : i < es.length) : (es ++ [c]).getD i 0 = es.getD i 0 := by
  rw [List.getD_eq_getElem?_getD, List.getD_eq_getElem?_getD, List.getElem?_append_left h]
theorem getD_end {es : List Int} {c : Int} : (es ++ [c]).getD es.length 0 = c := by simp
theorem RowE.snoc {pts : List (Int × Int)} {s : Nat} {es : List Int} {c : Int} (h : RowE pts s es) (hc : IsE pts s (es.length + 1) c) : RowE pts s (es ++ [c]) := fun i hi => by
  rw [List.length_append, List.length_singleton] at hi
  by_cases z : i = es.length
  · subst z; rw [getD_end]; exact hc
  · rw [getD_app (by omega)]; exact h i (by omega)
/-- the row tells how far the error reaches -/
def FullR (pts : List (Int × Int)) (s : Nat) (es : List Int) (e : Int) : Prop := s + es.length = pts.length ∨ (es ≠ [] ∧ e < es.getD (es.length - 1) 0)
def nextO (es : List Int) (L : Nat) : Option Int := if L < es.length then some (es.getD L 0) else none
theorem row_step {pts : List (Int × Int)} {s : Nat} {es : List Int} {e : Int} {L : Nat} (h : RowE pts s es) (hs : s < pts.length) (hn : s + es.length ≤ pts.length) (full : FullR pts s es e) (he : 0 ≤ e) (hL : L ≤ es.length) (lo : ∀ i, i < L → es.getD i 0 ≤ e) (hi : ∀ i, L ≤ i → i < es.length → e < es.getD i 0) :
    0 < L ∧ ltO e (nextO es L) ∧ es.getD (L - 1) 0 ≤ e ∧ 0 ≤ es.getD (L - 1) 0 ∧ ∀ e', 0 ≤ e' → (StepP pts e' s (s + L) ↔ es.getD (L - 1) 0 ≤ e' ∧ ltO e' (nextO es L)) := by
  have ne : 0 < es.length := by
    rcases full with z | z
    · omega
    · exact List.length_pos_iff.mpr z.1
  have L0 : 0 < L := by
    refine Nat.pos_of_ne_zero fun z => ?_
    subst z
    have := hi 0 (Nat.le_refl _) ne
    have := (h 0 ne).one
    omega
  have eL := h (L - 1) (by omega)
  have e1 : L - 1 + 1 = L := by omega
  rw [e1] at eL
  refine ⟨L0, ?_, lo _ (by omega), eL.1, fun e' he' => ?_⟩
  · unfold nextO
    split
    · exact hi L (Nat.le_refl _) (by assumption)
    · trivial
  · unfold StepP nextO
    constructor
    · rintro ⟨_, _, h3, h4⟩
      refine ⟨(eL.2 e' he').mp h3, ?_⟩
      split
      · rename_i lt
        rcases h4 with z | z
        · omega
        · refine Int.not_le.mp fun y => z ?_
          exact ((h L lt).2 e' he').mpr y
      · trivial
    · rintro ⟨h3, h4⟩
      refine ⟨by omega, by omega, (eL.2 e' he').mpr h3, ?_⟩
      split at h4
      · rename_i lt
        right
        intro y
        have := ((h L lt).2 e' he').mp y
        have h4 : e' < es.getD L 0 := h4
        omega
      · rename_i lt
        have e2 : L = es.length := by omega
        left
        rcases full with z | ⟨_, z⟩
        · omega
        · have := lo (es.length - 1) (by omega)
          omega
def minO : Option Int → Option Int → Option Int
  | b, none => b
  | none, some y => some y
  | some b, some y => if y < b then some y else some b
theorem ltO_min {e : Int} {b y : Option Int} : ltO e (minO b y) ↔ ltO e b ∧ ltO e y := by
  cases b with
  | none =>
    cases y with
    | none => simp [ltO, minO]
    | some y => simp [ltO, minO]
  | some b =>
    cases y with
    | none => simp [ltO, minO]
    | some y =>
      unfold minO
      simp only []
      split
      · show e < y ↔ e < b ∧ e < y
        omega
      · show e < b ↔ e < b ∧ e < y
        omega
/-- the way to s is the same for the errors from l on up to b -/
def PInv (pts : List (Int × Int)) (l : Int) (b : Option Int) (c : Int) (s : Nat) : Prop := ∃ us : List Nat, (us.length : Int) = c ∧ ∀ e, 0 ≤ e → (Path pts e 0 us s ↔ l ≤ e ∧ ltO e b)
theorem PInv.zero {pts : List (Int × Int)} : PInv pts 0 none 0 0 := ⟨[], rfl, fun e he => ⟨fun _ => ⟨he, trivial⟩, fun _ => rfl⟩⟩
theorem PInv.step {pts : List (Int × Int)} {l x : Int} {b y : Option Int} {c : Int} {s t : Nat} (h : PInv pts l b c s) (k : ∀ e, 0 ≤ e → (StepP pts e s t ↔ x ≤ e ∧ ltO e y)) (hx : 0 ≤ l) (e0 : Int) (h0 : 0 ≤ e0) (h1 : l ≤ e0 ∧ ltO e0 b) : PInv pts (if l < x then x else l) (minO b y) (c + 1) t := by
  obtain ⟨us, h2, h3⟩ := h
  refine ⟨us ++ [t], by simp; omega, fun e he => ?_⟩
  rw [Path.snoc, ltO_min]
  have p0 := (h3 e0 h0).mpr h1
  constructor
  · rintro ⟨v, a1, a2, _⟩
    have := a1.last p0
    subst this
    have b1 := (h3 e he).mp a1
    have b2 := (k e he).mp a2
    refine ⟨?_, b1.2, b2.2⟩
    split <;> omega
  · rintro ⟨a1, a2, a3⟩
    have : l ≤ e ∧ x ≤ e := by
      split at a1 <;> omega
    exact ⟨s, (h3 e he).mpr ⟨this.1, a2⟩, (k e he).mpr ⟨this.2, a3⟩, rfl⟩
theorem PInv.str {pts : List (Int × Int)} {l : Int} {b : Option Int} {c : Int} (h : PInv pts l b c pts.length) (h0 : 0 ≤ l) {e : Int} (h1 : l ≤ e) (h2 : ltO e b) : Strt pts l b c := by
  refine ⟨h0, ?_, h⟩
  cases b with
  | none => trivial
  | some b => have h2 : e < b := h2; show l < b; omega
/-- for the range of the heights there is one piece -/
theorem Cnt.one {pts : List (Int × Int)} {e : Int} (h : FitR pts e 0 pts.length) (hn : 0 < pts.length) : Cnt pts e 1 := ⟨[pts.length], ⟨⟨hn, Nat.le_refl _, h, .inl rfl⟩, rfl⟩, rfl⟩
theorem desc_len : ∀ (xs : List Int) (lo hi : Int), lo ≤ hi → xs.Pairwise (· > ·) → (∀ x ∈ xs, lo < x ∧ x ≤ hi) → (xs.length : Int) ≤ hi - lo
  | [], lo, hi, h, _, _ => by simp; omega
  | x :: xs, lo, hi, h, hp, hb => by
    rw [List.pairwise_cons] at hp
    have hx := hb x List.mem_cons_self
    have := desc_len xs lo (x - 1) (by omega) hp.2 fun y hy => ⟨(hb y (List.mem_cons_of_mem _ hy)).1, by have := hp.1 y hy; omega⟩
    simp only [List.length_cons]
    omega
/-! rows of least errors -/
theorem W_retM {f : Ex} {Γ : DEnv} {d : D} {s : Sl} {P : Res → Prop} (h : f Γ = some d) (h0 : Γ[0]? = some s) (ho : isOwn s = true) (k : P (.rm d s)) : W (sRetM f) Γ P := ⟨_, by
  unfold sRetM
  rw [h]
  show ((Γ[0]?).bind _) = _
  rw [h0]
  show (if isOwn s = true then _ else _) = _
  rw [if_pos ho], k⟩
theorem run_WM' {N : Nat} {B : Sm} {s0 s' : Sl} {ds : List D} {d : D} (h : W B (s0 :: ds.map Sl.sh ++ List.replicate (N - (ds.length + 1)) .no) (fun r => r = .rm d s')) (ho : isOwn s' = true) : runM N B s0 ds = some (d, s') := by
  obtain ⟨r, h1, rfl⟩ := h
  unfold runM
  rw [h1]
  show (if isOwn s' = true then _ else _) = _
  rw [if_pos ho]
theorem gMM_eq {S : Sl → List D → Option (D × Sl)} {fs : Ag} {ds : List D} {s' : Sl} {Γ : DEnv} {i c : Nat} {vs : List Sl} {d : D} (h0 : Γ[i]? = some (.ob c vs)) (hf : fs Γ = some ds) (h : S (.ob c vs) ds = some (d, s')) : gMM i [] c S fs Γ = some (d, Γ.set i s') := by
  have e : gP i [] Γ = some (.ob c vs) := by unfold gP; rw [h0]; rfl
  unfold gMM
  rw [e]
  show (if c = c then gCM i [] S fs Γ else none) = _
  rw [if_pos rfl]
  unfold gCM
  rw [e]
  show (if isOwn (.ob c vs) = true then (fs Γ).bind fun ds => (S (.ob c vs) ds).bind fun r => (Γ[i]?).bind fun s => (setR [] r.2 s).bind fun s2 => some (r.1, Γ.set i s2) else none) = _
  rw [if_pos (show isOwn (.ob c vs) = true from rfl), hf]
  show ((S (.ob c vs) ds).bind _) = _
  rw [h]
  show ((Γ[i]?).bind _) = _
  rw [h0]
  rfl
theorem wq_setM {f : Mx} {Γ Γ' : DEnv} {d : D} {j : Nat} {F : Sm} {P : Res → Prop} (h : f Γ = some (d, Γ')) (k : W F (Γ'.set j (.sh d)) P) : W (sSeq (sSetM j f) F) Γ P := W_seq ⟨.nx (Γ'.set j (.sh d)), by unfold sSetM; rw [h]; rfl, k⟩
theorem W_setM {f : Mx} {Γ Γ' : DEnv} {d : D} {j : Nat} {P : Res → Prop} (h : f Γ = some (d, Γ')) (k : P (.nx (Γ'.set j (.sh d)))) : W (sSetM j f) Γ P := ⟨.nx (Γ'.set j (.sh d)), by unfold sSetM; rw [h]; rfl, k⟩
theorem wq_expM {f : Mx} {Γ Γ' : DEnv} {d : D} {F : Sm} {P : Res → Prop} (h : f Γ = some (d, Γ')) (k : W F Γ' P) : W (sSeq (sExpM f) F) Γ P := W_seq ⟨.nx Γ', by unfold sExpM; rw [h]; rfl, k⟩
theorem W_appM {f : Mx} {Γ Γ' : DEnv} {d : D} {i : Nat} {xs0 xs : List D} {P : Res → Prop} (h : f Γ = some (d, Γ')) (h0 : Γ[i]? = some (.ow xs0)) (h1 : Γ'[i]? = some (.ow xs)) (hl : xs.length < 1000000) (k : P (.nx (Γ'.set i (.ow (xs ++ [d]))))) : W (sAppM i f) Γ P := ⟨_, by
  unfold sAppM
  rw [h]
  show (match Γ[i]?, Γ'[i]? with
    | some (.ow _), some (.ow xs) => if xs.length < 1000000 then some (Res.nx (Γ'.set i (.ow (xs ++ [d])))) else none
    | _, _ => none) = _
  rw [h0, h1]
  show (if _ then _ else _) = _
  rw [if_pos hl], k⟩
def rowS (es : List Int) (U L : List Vx) (g : D) : Sl := .ob 14 [.ow (es.map D.int), stS U L g]
def rowD (es : List Int) (U L : List Vx) (g : D) : D := .obj 14 [.lst (es.map D.int), stD U L g]
structure RowOk (pts : List (Int × Int)) (s : Nat) (es : List Int) (U L : List Vx) (g : D) : Prop where
  st : StOk (seg pts s es.length) U L g
  er : RowE pts s es
  le : s + es.length ≤ pts.length
theorem rowinit_eq : S_Row___init__ (.ob 14 []) [] = some (.non, rowS [] [] [] .non) := rfl
theorem RowOk.new {pts : List (Int × Int)} {s : Nat} (hs : s ≤ pts.length) : RowOk pts s [] [] [] .non := ⟨.inl ⟨rfl, rfl, rfl, rfl⟩, fun i h => by simp at h, by simpa using hs⟩
theorem leasterr_eq {g : Dv} (hr : 0 < g.run ∧ g.run < 2 ^ 57) : S_least_error_for [encD g] = some (.int (-((-g.over) / (2 * g.run)))) := by
  refine sv_run ?_
  unfold B_least_error_for
  refine sv_ret (ev_U (ev_op (ev_U (ev_op (ev_B rfl) ev_I rfl) rfl) (ev_op ev_I (ev_op (ev_B rfl) ev_I rfl) (d_mul (mulOk_l (by omega) (by omega)))) (d_div (by omega) (log_of (k := 100) (by omega) (by decide) (by decide)))) rfl)
theorem isE_of {pts : List (Int × Int)} {s k : Nat} {g : Dv} {t : Int} (G : Gd (seg pts s k) g t) (asc : AscV (seg pts s k)) (hr : 0 < g.run) : IsE pts s k (-((-g.over) / (2 * g.run))) := by
  have c := fun e => @ceil_iff g.over (2 * g.run) e (by omega)
  constructor
  · refine Int.not_lt.mp fun z => ?_
    have h1 := (c (-1)).mp (by omega)
    have := G.nn
    omega
  · intro e he
    rw [fit_seg G asc he, c]
    have : e * (2 * g.run) = 2 * e * g.run := by grind
    rw [this]
theorem gMM_row {S : Sl → List D → Option (D × Sl)} {fs : Ag} {ds : List D} {es : List Int} {U L U' L' : List Vx} {g g' : D} {Γ : DEnv} (h0 : Γ[0]? = some (rowS es U L g)) (hf : fs Γ = some ds) (h : S (stS U L g) ds = some (.non, stS U' L' g')) : gMM 0 [(14, 1)] 4 S fs Γ = some (.non, Γ.set 0 (rowS es U' L' g')) := by
  have e : gP 0 [(14, 1)] Γ = some (stS U L g) := by unfold gP; rw [h0]; rfl
  have e2 : stS U L g = .ob 4 [.ow (U.map encL), .ow (L.map encL), .sh g] := rfl
  unfold gMM
  rw [e, e2]
  show (if 4 = 4 then gCM 0 [(14, 1)] S fs Γ else none) = _
  rw [if_pos rfl]
  unfold gCM
  rw [e]
  show (if isOwn (stS U L g) = true then (fs Γ).bind fun ds => (S (stS U L g) ds).bind fun r => (Γ[0]?).bind fun s => (setR [(14, 1)] r.2 s).bind fun s2 => some (r.1, Γ.set 0 s2) else none) = _
  rw [if_pos (show isOwn (stS U L g) = true from rfl), hf]
  show ((S (stS U L g) ds).bind _) = _
  rw [h]
  show ((Γ[0]?).bind _) = _
  rw [h0]
  rfl
theorem sapp_row {f : Ex} {es : List Int} {U L : List Vx} {g : D} {c : Int} {Γ : DEnv} (h0 : Γ[0]? = some (rowS es U L g)) (hf : f Γ = some (.int c)) (hl : es.length < 1000000) : sApp 0 [(14, 0)] f Γ = some (.nx (Γ.set 0 (rowS (es ++ [c]) U L g))) := by
  have e : gP 0 [(14, 0)] Γ = some (.ow (es.map D.int)) := by unfold gP; rw [h0]; rfl
  refine (sv_appP e hf (by rw [List.length_map]; exact hl)).trans ?_
  unfold upP
  rw [h0]
  show some (Res.nx (Γ.set 0 (.ob 14 [.ow (es.map D.int ++ [.int c]), stS U L g]))) = _
  unfold rowS
  rw [List.map_append]
  rfl
/-- one more point -/
theorem rowtake_eq {pts : List (Int × Int)} {s : Nat} {es : List Int} {U L : List Vx} {g : D} (R : RowOk pts s es U L g) (hb : ∀ a ∈ pts, SmQ a) (ha : AscI pts) (hn : pts.length < 10000) (hs : s + es.length < pts.length) :
    ∃ (c : Int) (U' L' : List Vx) (g' : D), S_Row_take (rowS es U L g) [encL (vx pts (s + es.length))] = some (.non, rowS (es ++ [c]) U' L' g') ∧ RowOk pts s (es ++ [c]) U' L' g' := by
  have hv : SmV (vx pts (s + es.length)) := hb _ (pAt_mem hs)
  obtain ⟨d, h1, h2, ⟨t, G⟩, asc⟩ := dev_eq R.st (seg_sm hb R.le) hv (seg_lt ha hs)
  rw [← seg_snoc] at h2 G asc
  have bd := G.bounds (seg_sm hb (by omega))
  have len := R.st.len
  rw [seg_len] at len
  have tk := take_eq (U := U) (L := L) (g := g) (d := encD d) (v := vx pts (s + es.length)) (by omega) (by omega)
  refine ⟨_, _, _, _, ?_, ⟨by simp only [List.length_append, List.length_singleton]; exact h2, R.er.snoc (isE_of G asc bd.1), by simp; omega⟩⟩
  have hB : B_Row_take [rowS es U L g, .sh (encL (vx pts (s + es.length))), .no] = some (.nx [rowS (es ++ [-((-d.over) / (2 * d.run))]) (putb 1 U (vx pts (s + es.length))) (putb (-1) L (vx pts (s + es.length))) (encD d), .sh (encL (vx pts (s + es.length))), .sh (stepT U L (vx pts (s + es.length)) (encD d))]) := by
    unfold B_Row_take
    refine sq_set (d := stepT U L (vx pts (s + es.length)) (encD d)) (ev_meth (vs := [.lst (U.map encL), .lst (L.map encL), g]) rfl (ev_cs (ev_V rfl) ev_nl) h1) ?_
    walk_at "ev norm"
    refine sv_nx (Γ1 := [rowS es (putb 1 U (vx pts (s + es.length))) (putb (-1) L (vx pts (s + es.length))) (encD d), .sh (encL (vx pts (s + es.length))), .sh (stepT U L (vx pts (s + es.length)) (encD d))]) ?_ ?_
    · unfold sExpM
      rw [gMM_row (Γ := [rowS es U L g, .sh (encL (vx pts (s + es.length))), .sh (stepT U L (vx pts (s + es.length)) (encD d))]) rfl (ev_cs (ev_V rfl) (ev_cs (ev_V rfl) ev_nl)) tk]
      rfl
    · exact sapp_row rfl (ev_call (ds := [encD d]) (ev_cs (ev_op (ev_B rfl) ev_I rfl) ev_nl) (leasterr_eq ⟨bd.1, bd.2.1⟩)) (by omega)
  show (B_Row_take [rowS es U L g, .sh (encL (vx pts (s + es.length))), .no]).bind _ = _
  rw [hB]
  rfl
theorem ixe {es : List Int} {k : Nat} {i : Int} (h : k < es.length) (e : i = (k : Nat)) : dIx (.lst (es.map D.int)) (.int i) = some (.int (es.getD k 0)) := d_ixC (k := k) (by rw [List.getD_eq_getElem?_getD, List.getElem?_eq_getElem h]; rfl) e
theorem fld_es {es : List Int} {U L : List Vx} {g : D} {i : Nat} {Γ : DEnv} (h : Γ[i]? = some (.bo (rowD es U L g))) : gU (dFld 14 0) (gB i) Γ = some (.lst (es.map D.int)) := ev_U (ev_Bb h) rfl
/-- how many first points fit: by halving -/
theorem rowlen_eq {pts : List (Int × Int)} {s : Nat} {es : List Int} {U L : List Vx} {g : D} {e : Int} (R : RowE pts s es) (hn : es.length < 10000) :
    ∃ n : Nat, S_Row_length [rowD es U L g, .int e] = some (.int n) ∧ n ≤ es.length ∧ (∀ i, i < n → es.getD i 0 ≤ e) ∧ ∀ i, n ≤ i → i < es.length → e < es.getD i 0 := by
  have mono : ∀ i j, i ≤ j → j < es.length → es.getD i 0 ≤ es.getD j 0 := fun i j h1 h2 => (R i (by omega)).le (R j h2) (by omega)
  suffices W B_Row_length [.bo (rowD es U L g), .sh (.int e), .no, .no, .no] (isRt fun d => ∃ n : Nat, d = .int n ∧ n ≤ es.length ∧ (∀ i, i < n → es.getD i 0 ≤ e) ∧ ∀ i, n ≤ i → i < es.length → e < es.getD i 0) by
    obtain ⟨d, h1, n, rfl, h2⟩ := run_WK (ms := [true, false]) (N := 5) (ds := [rowD es U L g, .int e]) this
    exact ⟨n, h1, h2⟩
  unfold B_Row_length
  refine wq_par (ev_cs ev_I (ev_cs (ev_U (fld_es rfl) (by rw [d_lenL, List.length_map])) ev_nl)) ?_
  walk_at "ev norm"
  refine wq_while (fun m Γ => ∃ (a b : Nat) (s4 : Sl), Γ = [.bo (rowD es U L g), .sh (.int e), .sh (.int a), .sh (.int b), s4] ∧ m = b - a ∧ a ≤ b ∧ b ≤ es.length ∧ (∀ i, i < a → es.getD i 0 ≤ e) ∧ ∀ i, b ≤ i → i < es.length → e < es.getD i 0) ⟨_, 0, es.length, .no, rfl, rfl, by omega, Nat.le_refl _, fun i h => by omega, fun i h1 h2 => by omega⟩ ?_
  rintro m Γ ⟨a, b, s4, rfl, rfl, h1, h2, h3, h4⟩
  refine ⟨_, ev_T (ev_op (ev_V rfl) (ev_V rfl) rfl), fun hc => ?_, fun hc => ?_⟩
  · simp only [decide_eq_false_iff_not] at hc
    have : a = b := by omega
    subst this
    exact W_ret (ev_V rfl) ⟨a, rfl, h2, h3, h4⟩
  · simp only [decide_eq_true_eq] at hc
    have em : ((a : Int) + b) / 2 = (((a + b) / 2 : Nat) : Int) := by omega
    refine wq_set (ev_op (ev_op (ev_V rfl) (ev_V rfl) d_add) ev_I (d_div (by decide) (by decide +kernel))) ?_
    walk_at "ev norm"
    rw [em]
    refine W_if (ev_T (ev_op (ev_op (fld_es rfl) (ev_V rfl) (ixe (k := (a + b) / 2) (by omega) rfl)) (ev_V rfl) rfl)) (fun hd => ?_) (fun hd => ?_)
    · simp only [decide_eq_true_eq] at hd
      refine W_set (ev_op (ev_V rfl) ev_I d_add) ?_
      refine ⟨b - ((a + b) / 2 + 1), by omega, (a + b) / 2 + 1, b, .sh (.int ((a + b) / 2 : Nat)), rfl, rfl, by omega, h2, fun i hi => ?_, h4⟩
      have := mono i ((a + b) / 2) (by omega) (by omega)
      omega
    · simp only [decide_eq_false_iff_not] at hd
      refine W_set (ev_V rfl) ?_
      refine ⟨(a + b) / 2 - a, by omega, a, (a + b) / 2, .sh (.int ((a + b) / 2 : Nat)), rfl, rfl, by omega, by omega, h3, fun i hi1 hi2 => ?_⟩
      have := mono ((a + b) / 2) i hi1 hi2
      omega
/-! the rows of all starts -/
def reS (pts : List (Int × Int)) (X : Sl) : Sl := .ob 15 [.sh (.lst (pts.map encP)), X]
def ky (s : Nat) : Key := .inl (s : Int)
structure RsOk (pts : List (Int × Int)) (ks : List Key) (ss : List Sl) : Prop where
  len : ks.length = ss.length
  nd : ks.Nodup
  ok : ∀ (j : Nat) (k : Key) (s' : Sl), ks[j]? = some k → ss[j]? = some s' → ∃ s es U L g, k = ky s ∧ s < pts.length ∧ s' = rowS es U L g ∧ RowOk pts s es U L g
def ROk (pts : List (Int × Int)) (X : Sl) : Prop := ∃ ks ss, asOd X = some (ks, ss) ∧ RsOk pts ks ss
theorem ROk.new {pts : List (Int × Int)} : ROk pts (.dk [] []) := ⟨[], [], rfl, rfl, List.nodup_nil, fun j k s' h => by simp at h⟩
theorem nodup_le : ∀ (n : Nat) (xs : List Nat), xs.Nodup → (∀ x ∈ xs, x < n) → xs.length ≤ n
  | 0, xs, _, h => by
    cases xs with
    | nil => exact Nat.le_refl _
    | cons x xs => exact absurd (h x List.mem_cons_self) (by omega)
  | n + 1, xs, hd, h => by
    by_cases hm : n ∈ xs
    · have := nodup_le n (xs.erase n) (hd.erase n) fun x hx => by
        have h1 := (hd.mem_erase_iff).mp hx
        have := h x h1.2
        omega
      rw [List.length_erase_of_mem hm] at this
      omega
    · have := nodup_le n xs hd fun x hx => by
        have := h x hx
        by_cases z : x = n
        · subst z; exact absurd hx hm
        · omega
      omega
def unky : Key → Nat
  | .inl i => i.toNat
  | .inr _ => 0
theorem unky_ky (s : Nat) : unky (ky s) = s := by simp [unky, ky]
theorem RsOk.small {pts : List (Int × Int)} {ks : List Key} {ss : List Sl} (h : RsOk pts ks ss) : ks.length ≤ pts.length := by
  have key : ∀ k ∈ ks, ∃ s, k = ky s ∧ s < pts.length := fun k hk => by
    obtain ⟨j, hj⟩ := List.getElem?_of_mem hk
    have lt : j < ks.length := by
      refine Nat.lt_of_not_le fun z => ?_
      rw [List.getElem?_eq_none z] at hj
      cases hj
    obtain ⟨s, es, U, L, g, h1, h2, _⟩ := h.ok j k (ss[j]'(by rw [← h.len]; exact lt)) hj (List.getElem?_eq_getElem (by rw [← h.len]; exact lt))
    exact ⟨s, h1, h2⟩
  have := nodup_le pts.length (ks.map unky) ?_ ?_
  · rwa [List.length_map] at this
  · refine List.Pairwise.map _ (fun a b hab => hab) ?_
    refine List.Pairwise.imp_of_mem ?_ h.nd
    intro a b ma mb hab e
    obtain ⟨s, rfl, _⟩ := key a ma
    obtain ⟨t, rfl, _⟩ := key b mb
    rw [unky_ky, unky_ky] at e
    exact hab (by rw [e])
  · intro x hx
    obtain ⟨k, hk, rfl⟩ := List.mem_map.mp hx
    obtain ⟨s, rfl, hs⟩ := key k hk
    rw [unky_ky]
    exact hs
theorem ixK_some {k : Key} : ∀ {ks : List Key}, hasK ks k = true → ∃ j, ixK ks k = some j ∧ ks[j]? = some k
  | [], h => by cases h
  | k' :: ks, h => by
    unfold ixK
    by_cases e : k' = k
    · rw [if_pos e]
      exact ⟨0, rfl, by rw [e]; rfl⟩
    · rw [if_neg e]
      have : hasK ks k = true := by
        unfold hasK at h ⊢
        rw [List.any_cons, decide_eq_false e, Bool.false_or] at h
        exact h
      obtain ⟨j, h1, h2⟩ := ixK_some this
      exact ⟨j + 1, by rw [h1]; rfl, h2⟩
theorem hasK_no {k : Key} {ks : List Key} (h : hasK ks k = false) : k ∉ ks := fun hm => by
  unfold hasK at h
  have : (ks.any fun k' => decide (k' = k)) = true := List.any_eq_true.mpr ⟨k, hm, by simp⟩
  rw [this] at h
  cases h
theorem hasK_end {k : Key} {ks : List Key} : hasK (ks ++ [k]) k = true := by
  unfold hasK
  rw [List.any_append]
  simp
theorem RsOk.set {pts : List (Int × Int)} {ks : List Key} {ss : List Sl} (h : RsOk pts ks ss) {j s : Nat} (hj : ks[j]? = some (ky s)) {es : List Int} {U L : List Vx} {g : D} (R : RowOk pts s es U L g) (hs : s < pts.length) : RsOk pts ks (ss.set j (rowS es U L g)) := by
  refine ⟨by rw [List.length_set]; exact h.len, h.nd, fun i k s' h1 h2 => ?_⟩
  by_cases z : j = i
  · subst z
    rw [hj] at h1
    cases h1
    have lt : j < ss.length := by
      refine Nat.lt_of_not_le fun z => ?_
      rw [List.getElem?_eq_none (by rw [List.length_set]; exact z)] at h2
      cases h2
    rw [List.getElem?_set_self lt] at h2
    cases h2
    exact ⟨s, es, U, L, g, rfl, hs, rfl, R⟩
  · rw [List.getElem?_set_ne z] at h2
    exact h.ok i k s' h1 h2
theorem RsOk.put {pts : List (Int × Int)} {ks : List Key} {ss : List Sl} (h : RsOk pts ks ss) {s : Nat} (hs : s < pts.length) (hk : hasK ks (ky s) = false) : RsOk pts (ks ++ [ky s]) (ss ++ [rowS [] [] [] .non]) := by
  refine ⟨by simp [h.len], ?_, fun i k s' h1 h2 => ?_⟩
  · refine List.pairwise_append.mpr ⟨h.nd, List.pairwise_singleton _ _, fun a ma b mb e => ?_⟩
    rw [List.mem_singleton] at mb
    subst mb
    subst e
    exact hasK_no hk ma
  · by_cases z : i < ks.length
    · rw [List.getElem?_append_left z] at h1
      rw [List.getElem?_append_left (by rw [← h.len]; exact z)] at h2
      exact h.ok i k s' h1 h2
    · rw [List.getElem?_append_right (by omega)] at h1
      rw [List.getElem?_append_right (by rw [← h.len]; omega), ← h.len] at h2
      have e : i - ks.length = 0 := by
        refine Nat.eq_zero_of_not_pos fun p => ?_
        rw [List.getElem?_eq_none (by simp; omega)] at h1
        cases h1
      rw [e] at h1 h2
      cases h1
      cases h2
      exact ⟨s, [], [], [], .non, rfl, hs, rfl, RowOk.new (by omega)⟩
theorem reinit_eq (pts : List (Int × Int)) : S_Reaches___init__ (.ob 15 []) [.lst (pts.map encP)] = some (.non, reS pts (.dk [] [])) := rfl
section
variable {pts : List (Int × Int)} (hb : ∀ a ∈ pts, SmQ a) (ha : AscI pts) (hn : pts.length < 10000)
include hb ha hn
/-- the row of a start is made, if it isn't there -/
theorem reput_eq {X : Sl} {s : Nat} {e : Int} (h : ROk pts X) (hs : s < pts.length) : ∃ ks ss j es U L g, B1_Reaches__row [reS pts X, .sh (.int s), .sh (.int e), .no, .no, .no, .no] = some (.nx [reS pts (.od ks ss), .sh (.int s), .sh (.int e), .no, .no, .no, .no]) ∧ RsOk pts ks ss ∧ ixK ks (ky s) = some j ∧ ks[j]? = some (ky s) ∧ ss[j]? = some (rowS es U L g) ∧ RowOk pts s es U L g := by
  obtain ⟨ks, ss, h1, h2⟩ := h
  have sm := h2.small
  have ht : gNinP 0 [(15, 1)] (gV 1) [reS pts X, .sh (.int s), .sh (.int e), .no, .no, .no, .no] = some (!hasK ks (ky s)) := by
    unfold gNinP
    show (((gP 0 [(15, 1)] [reS pts X, .sh (.int s), .sh (.int e), .no, .no, .no, .no]).bind fun s => (asOd s).map fun r => !hasK r.1 (ky _))) = _
    show ((asOd X).map fun r => !hasK r.1 (ky _)) = _
    rw [h1]
    rfl
  unfold B1_Reaches__row
  cases hk : hasK ks (ky s) with
  | true =>
    obtain ⟨j, j1, j2⟩ := ixK_some hk
    have lt : j < ks.length := by
      refine Nat.lt_of_not_le fun z => ?_
      rw [List.getElem?_eq_none z] at j2
      cases j2
    have j3 : ss[j]? = some (ss[j]'(by rw [← h2.len]; exact lt)) := List.getElem?_eq_getElem (by rw [← h2.len]; exact lt)
    obtain ⟨t, es, U, L, g, e1, e2, e3, e4⟩ := h2.ok j _ _ j2 j3
    have : t = s := by
      have := congrArg unky e1
      rw [unky_ky, unky_ky] at this
      exact this.symm
    subst this
    rw [e3] at j3
    have hX : X = .od ks ss := by
      cases X with
      | od a b => cases h1; rfl
      | dk a b =>
        cases a with
        | nil =>
          cases b with
          | nil => cases h1; cases hk
          | cons => cases h1
        | cons => cases h1
      | _ => cases h1
    subst hX
    exact ⟨ks, ss, j, es, U, L, g, sv_ifF (by rw [ht, hk]; rfl) rfl, h2, j1, j2, j3, e4⟩
  | false =>
    have hE := hasK_end (k := ky s) (ks := ks)
    obtain ⟨j, j1, j2⟩ := ixK_some hE
    have h3 := h2.put hs hk
    have lt : j < (ks ++ [ky s]).length := by
      refine Nat.lt_of_not_le fun z => ?_
      rw [List.getElem?_eq_none z] at j2
      cases j2
    have j3 := List.getElem?_eq_getElem (l := ss ++ [rowS [] [] [] .non]) (i := j) (by rw [← h3.len]; exact lt)
    obtain ⟨t, es, U, L, g, e1, e2, e3, e4⟩ := h3.ok j _ _ j2 j3
    have : t = s := by
      have := congrArg unky e1
      rw [unky_ky, unky_ky] at this
      exact this.symm
    subst this
    rw [e3] at j3
    refine ⟨_, _, j, es, U, L, g, sv_ifT (by rw [ht, hk]; rfl) ?_, h3, j1, j2, j3, e4⟩
    unfold sDPutN
    have hm : gMk 14 S_Row___init__ aN [reS pts X, .sh (.int t), .sh (.int e), .no, .no, .no, .no] = some (rowS [] [] [] .non) := rfl
    rw [hm]
    show ((asOd X).bind fun r => if hasK r.1 (ky t) = false ∧ r.1.length < 1000000 then upP 0 [(15, 1)] (.od (r.1 ++ [ky t]) (r.2 ++ [rowS [] [] [] .non])) [reS pts X, .sh (.int t), .sh (.int e), .no, .no, .no, .no] else none) = _
    rw [h1]
    show (if hasK ks (ky t) = false ∧ ks.length < 1000000 then _ else none) = _
    rw [if_pos ⟨hk, by omega⟩]
    rfl
/-- it is made as far as the error asks -/
theorem reloop_eq {s : Nat} {e : Int} (r0 r1 : Sl) (hs : s < pts.length) {es : List Int} {U L : List Vx} {g : D} (R : RowOk pts s es U L g) :
    ∃ es' U' L' g' s4 s5 s6, (sSeq BA_Reaches__row BB_Reaches__row) [rowS es U L g, .sh (.int s), .sh (.int e), .bo (.obj 15 [.lst (pts.map encP)]), r0, .no, .no] = some (.nx [rowS es' U' L' g', .sh (.int s), .sh (.int e), .bo (.obj 15 [.lst (pts.map encP)]), s4, s5, s6]) ∧ RowOk pts s es' U' L' g' ∧ FullR pts s es' e := by
  suffices W (sSeq BA_Reaches__row BB_Reaches__row) [rowS es U L g, .sh (.int s), .sh (.int e), .bo (.obj 15 [.lst (pts.map encP)]), r0, .no, .no] (fun r => ∃ es' U' L' g' s4 s5 s6, r = .nx [rowS es' U' L' g', .sh (.int s), .sh (.int e), .bo (.obj 15 [.lst (pts.map encP)]), s4, s5, s6] ∧ RowOk pts s es' U' L' g' ∧ FullR pts s es' e) by
    obtain ⟨r, h1, es', U', L', g', s4, s5, s6, rfl, h2⟩ := this
    exact ⟨es', U', L', g', s4, s5, s6, h1, h2⟩
  unfold BA_Reaches__row BB_Reaches__row
  have fl : ∀ (es : List Int) (U L : List Vx) (g : D) (Γ : DEnv), gPB 0 [(14, 0)] (rowS es U L g :: Γ) = some (.lst (es.map D.int)) := fun _ _ _ _ _ => rfl
  have fp : ∀ (a b c : Sl) (Γ : DEnv), gU (dFld 15 0) (gB 3) (a :: b :: c :: .bo (.obj 15 [.lst (pts.map encP)]) :: Γ) = some (.lst (pts.map encP)) := fun _ _ _ _ => rfl
  refine wq_set (ev_op (ev_V rfl) (ev_U (fl ..) (by rw [d_lenL, List.length_map])) d_add) ?_
  walk_at "ev norm"
  refine W_while (fun m Γ => ∃ (es : List Int) (U L : List Vx) (g : D) (s5 s6 : Sl), Γ = [rowS es U L g, .sh (.int s), .sh (.int e), .bo (.obj 15 [.lst (pts.map encP)]), .sh (.int ((s : Int) + es.length)), s5, s6] ∧ RowOk pts s es U L g ∧ m = pts.length - (s + es.length)) ⟨_, es, U, L, g, .no, .no, rfl, R, rfl⟩ ?_
  rintro m Γ ⟨es, U, L, g, s5, s6, rfl, R, rfl⟩
  have le := R.le
  have t1 : gT (gOp dLt (gV 4) (gU dLen (gU (dFld 15 0) (gB 3)))) [rowS es U L g, .sh (.int s), .sh (.int e), .bo (.obj 15 [.lst (pts.map encP)]), .sh (.int ((s : Int) + es.length)), s5, s6] = some (decide ((s : Int) + es.length < pts.length)) := ev_T (ev_op (ev_V rfl) (ev_U (fp ..) (by rw [d_lenL, List.length_map])) rfl)
  have t2 : gOr (gNot (gTru (gPB 0 [(14, 0)]))) (gT (gOp dLe (gIx (gPB 0 [(14, 0)]) (gU dNeg (gI 1))) (gV 2))) [rowS es U L g, .sh (.int s), .sh (.int e), .bo (.obj 15 [.lst (pts.map encP)]), .sh (.int ((s : Int) + es.length)), s5, s6] = some (es.isEmpty || decide (es.getD (es.length - 1) 0 ≤ e)) := by
    by_cases z : es = []
    · subst z
      exact ev_orT (ev_not (b := false) (ev_Tru (fl ..) rfl))
    · have p : 0 < es.length := List.length_pos_iff.mpr z
      have ie : es.isEmpty = false := by
        cases es with
        | nil => exact absurd rfl z
        | cons => rfl
      rw [ie]
      have ix : dIx (.lst (es.map D.int)) (.int (-1)) = some (.int (es.getD (es.length - 1) 0)) := by
        show atI (es.map D.int) (-1) = _
        unfold atI ixN
        rw [if_neg (by omega), List.length_map, if_pos (by omega)]
        show (es.map D.int)[(-1 + (es.length : Int)).toNat]? = _
        have e1 : (-1 + (es.length : Int)).toNat = es.length - 1 := by omega
        rw [e1, List.getElem?_map, List.getD_eq_getElem?_getD, List.getElem?_eq_getElem (by omega)]
        rfl
      refine ev_or (b := false) (ev_not (b := true) (ev_Tru (fl ..) ?_)) (ev_T (ev_op (ev_op (fl ..) (ev_U ev_I rfl) ix) (ev_V rfl) rfl))
      show some (!(es.map D.int).isEmpty) = _
      cases es with
      | nil => exact absurd rfl z
      | cons => rfl
  refine ⟨_, ev_and t1 t2, fun hc => ?_, fun hc => ?_⟩
  · refine ⟨es, U, L, g, _, s5, s6, rfl, R, ?_⟩
    rw [Bool.and_eq_false_iff] at hc
    rcases hc with hc | hc
    · simp only [decide_eq_false_iff_not] at hc
      left
      omega
    · rw [Bool.or_eq_false_iff] at hc
      right
      refine ⟨fun z => ?_, ?_⟩
      · rw [z] at hc; cases hc.1
      · have := hc.2
        simp only [decide_eq_false_iff_not] at this
        omega
  · rw [Bool.and_eq_true, decide_eq_true_eq] at hc
    have lt : s + es.length < pts.length := by omega
    refine wq_unp (ev_op (fp ..) (ev_V rfl) (ixp (k := s + es.length) lt (by omega))) (Γ1 := [rowS es U L g, .sh (.int s), .sh (.int e), .bo (.obj 15 [.lst (pts.map encP)]), .sh (.int ((s : Int) + es.length)), .sh (.int (pAt pts (s + es.length)).1), .sh (.int (pAt pts (s + es.length)).2)]) rfl ?_
    obtain ⟨c, U', L', g', h1, h2⟩ := rowtake_eq R hb ha hn lt
    have ev : encL (vx pts (s + es.length)) = .tup [.int (pAt pts (s + es.length)).1, .int (pAt pts (s + es.length)).2, .int ((s : Int) + es.length)] := by
      show D.tup [.int _, .int _, .int ((s + es.length : Nat) : Int)] = _
      rw [Int.natCast_add]
      rfl
    rw [ev] at h1
    refine wq_expM (gMM_eq (d := .non) (s' := rowS (es ++ [c]) U' L' g') rfl (ev_cs (ev_tu (ev_cs (ev_V rfl) (ev_cs (ev_V rfl) (ev_cs (ev_V rfl) ev_nl)))) ev_nl) h1) ?_
    walk_at "ev norm"
    refine W_aug (d := .int ((s : Int) + (es ++ [c]).length)) rfl ev_I (by show some (D.int _) = _; simp; omega) ?_
    refine ⟨pts.length - (s + (es ++ [c]).length), by simp; omega, es ++ [c], U', L', g', _, _, rfl, h2, rfl⟩
/-- the row of a start, as far as the error asks -/
theorem row_eq {X : Sl} {s : Nat} {e : Int} (h : ROk pts X) (hs : s < pts.length) : ∃ X' es U L g, S_Reaches__row (reS pts X) [.int s, .int e] = some (rowD es U L g, reS pts X') ∧ ROk pts X' ∧ RowOk pts s es U L g ∧ FullR pts s es e := by
  obtain ⟨ks, ss, j, es, U, L, g, h1, h2, h3, h4, h5, h6⟩ := reput_eq hb ha hn (e := e) h hs
  obtain ⟨es', U', L', g', s4, s5, s6, l1, l2, l3⟩ := reloop_eq hb ha hn (e := e) .no .no hs h6
  refine ⟨.od ks (ss.set j (rowS es' U' L' g')), es', U', L', g', ?_, ⟨ks, _, rfl, h2.set h4 l2 hs⟩, l2, l3⟩
  show gRow B1_Reaches__row BA_Reaches__row BB_Reaches__row [reS pts X, .sh (.int s), .sh (.int e), .no, .no, .no, .no] = _
  unfold gRow
  rw [h1]
  show gRow1 BA_Reaches__row BB_Reaches__row [reS pts (.od ks ss), .sh (.int s), .sh (.int e), .no, .no, .no, .no] (some (.ob 15 [.sh (.lst (pts.map encP)), .od ks ss])) (some (.sh (.int s))) = _
  unfold gRow1
  show (if 15 = 15 then _ else none) = _
  rw [if_pos rfl]
  show ((ixK ks (ky s)).bind _) = _
  rw [h3]
  show ((ss[j]?).bind _) = _
  rw [h5]
  show (if isOwn (rowS es U L g) = true ∧ (List.drop 1 [reS pts (.od ks ss), .sh (.int s), .sh (.int e), .no, .no, .no, .no]).all flat1 = true ∧ 4 ≤ [reS pts (.od ks ss), .sh (.int s), .sh (.int e), .no, .no, .no, .no].length then _ else none) = _
  rw [if_pos ⟨rfl, rfl, (show 4 ≤ 7 by decide)⟩]
  show (((sSeq BA_Reaches__row BB_Reaches__row) [rowS es U L g, .sh (.int s), .sh (.int e), .bo (.obj 15 [.lst (pts.map encP)]), .no, .no, .no]).bind _) = _
  rw [l1]
  rfl
end
/-! the errors for which the cut is the same -/
def optD : Option Int → D
  | none => .non
  | some x => .int x
theorem W_look {c j : Nat} {S : Sl → List D → Option (D × Sl)} {fs : Ag} {F : Sm} {Γ : DEnv} {P : Res → Prop} {fl fl2 : List Sl} {ds : List D} {d : D} (h0 : Γ[0]? = some (.ob c fl)) (hf : (Γ.drop 1).all flat1 = true) (hj : j ≠ 0) (hl : j < Γ.length) (he : fs Γ = some ds) (hS : S (.ob c fl) ds = some (d, .ob c fl2))
    (k : W F ((Γ.set 0 (.bo (.obj c []))).set j (.bo d)) fun r => ∃ Γ' x, r = .nx Γ' ∧ Γ'[0]? = some (.bo x) ∧ ((Γ'.set j .no).drop 1).all flat1 = true ∧ P (.nx ((Γ'.set 0 (.ob c fl2)).set j .no))) : W (sLook c j S fs F) Γ P := by
  obtain ⟨r, h1, Γ', x, rfl, h2, h3, h4⟩ := k
  refine ⟨_, ?_, h4⟩
  unfold sLook
  rw [h0]
  show (if c = c ∧ (Γ.drop 1).all flat1 = true ∧ j ≠ 0 ∧ j < Γ.length then _ else none) = _
  rw [if_pos ⟨rfl, hf, hj, hl⟩, he]
  show ((S (.ob c fl) ds).bind _) = _
  rw [hS]
  show (if c = c then _ else none) = _
  rw [if_pos rfl, h1]
  show (match (Γ'[0]? : Option Sl) with
    | some (.bo _) => if ((Γ'.set j .no).drop 1).all flat1 = true then some (Res.nx ((Γ'.set 0 (.ob c fl2)).set j .no)) else none
    | _ => none) = _
  rw [h2]
  show (if ((Γ'.set j .no).drop 1).all flat1 = true then _ else none) = _
  rw [if_pos h3]
section
variable {pts : List (Int × Int)} (hb : ∀ a ∈ pts, SmQ a) (ha : AscI pts) (hn : pts.length < 10000)
include hb ha hn
theorem stretch_eq {X : Sl} {e : Int} (h : ROk pts X) (he : 0 ≤ e) : ∃ X' l b c, S_Reaches_stretch (reS pts X) [.int e] = some (.tup [.int l, optD b, .int c], reS pts X') ∧ ROk pts X' ∧ Strt pts l b c ∧ l ≤ e ∧ ltO e b := by
  suffices W B_Reaches_stretch [reS pts X, .sh (.int e), .no, .no, .no, .no, .no, .no] (fun r => ∃ X' l b c, r = .rm (.tup [.int l, optD b, .int c]) (reS pts X') ∧ ROk pts X' ∧ Strt pts l b c ∧ l ≤ e ∧ ltO e b) by
    obtain ⟨r, h1, X', l, b, c, rfl, h2⟩ := this
    exact ⟨X', l, b, c, run_WM' ⟨_, h1, rfl⟩ rfl, h2⟩
  unfold B_Reaches_stretch
  refine wq_set ev_I ?_
  refine wq_set ev_C ?_
  refine wq_set ev_I ?_
  refine wq_set ev_I ?_
  walk_at "ev norm"
  have pl : ∀ (X : Sl) (Γ : DEnv), gPB 0 [(15, 0)] (reS pts X :: Γ) = some (.lst (pts.map encP)) := fun _ _ => rfl
  refine wq_while (fun m Γ => ∃ (X : Sl) (l c : Int) (b : Option Int) (s : Nat) (s7 : Sl), Γ = [reS pts X, .sh (.int e), .sh (.int l), .sh (optD b), .sh (.int c), .sh (.int s), .no, s7] ∧ flat1 s7 = true ∧ ROk pts X ∧ PInv pts l b c s ∧ 0 ≤ l ∧ l ≤ e ∧ ltO e b ∧ s ≤ pts.length ∧ m = pts.length - s) ⟨_, X, 0, 0, none, 0, .no, rfl, rfl, h, PInv.zero, Int.le_refl _, he, trivial, Nat.zero_le _, rfl⟩ ?_
  rintro m Γ ⟨X, l, c, b, s, s7, rfl, f7, hX, hI, l0, le, lb, hs, rfl⟩
  refine ⟨decide ((s : Int) < pts.length), ev_T (ev_op (ev_V rfl) (ev_U (pl ..) (by rw [d_lenL, List.length_map])) rfl), fun hc => ?_, fun hc => ?_⟩
  · simp only [decide_eq_false_iff_not] at hc
    have : s = pts.length := by omega
    subst this
    exact W_retM (ev_tu (ev_cs (ev_V rfl) (ev_cs (ev_V rfl) (ev_cs (ev_V rfl) ev_nl)))) rfl rfl ⟨X, l, b, c, rfl, hX, hI.str l0 le lb, le, lb⟩
  · simp only [decide_eq_true_eq] at hc
    have lt : s < pts.length := by omega
    obtain ⟨X', es, U, L, g, r1, r2, r3, r4⟩ := row_eq hb ha hn (e := e) hX lt
    obtain ⟨n, k1, k2, k3, k4⟩ := rowlen_eq (U := U) (L := L) (g := g) (e := e) r3.er (by have := r3.le; omega)
    obtain ⟨n0, q1, q2, q3, q4⟩ := row_step r3.er lt r3.le r4 he k2 k3 k4
    refine W_look (d := rowD es U L g) (fl2 := [.sh (.lst (pts.map encP)), X']) rfl (by show (flat1 (.sh _) && (flat1 (.sh _) && (flat1 (.sh _) && (flat1 (.sh _) && (flat1 (.sh _) && (flat1 .no && (flat1 s7 && true))))))) = true; rw [f7]; rfl) (by decide) (show 6 < 8 by decide) (ev_cs (ev_V rfl) (ev_cs (ev_V rfl) ev_nl)) r1 ?_
    show W _ [.bo (.obj 15 []), .sh (.int e), .sh (.int l), .sh (optD b), .sh (.int c), .sh (.int s), .bo (rowD es U L g), s7] _
    refine wq_set (ev_meth (vs := [.lst (es.map D.int), stD U L g]) (ev_Bb rfl) (ev_cs (ev_V rfl) ev_nl) k1) ?_
    walk_at "ev norm"
    have i1 : ((n : Int) - 1) = ((n - 1 : Nat) : Int) := by omega
    refine wq_set (ev_A (ev_cs (ev_V rfl) (ev_cs (ev_op (fld_es rfl) (ev_op (ev_V rfl) ev_I d_sub) (ixe (k := n - 1) (by omega) i1)) ev_nl)) rfl) ?_
    walk_at "ev norm"
    have t1 : gT (gOp dLt (gV 7) (gU dLen (gU (dFld 14 0) (gB 6)))) [.bo (.obj 15 []), .sh (.int e), .sh (.int (if es.getD (n - 1) 0 > l then es.getD (n - 1) 0 else l)), .sh (optD b), .sh (.int c), .sh (.int s), .bo (rowD es U L g), .sh (.int n)] = some (decide (n < es.length)) := by
      refine (ev_T (ev_op (ev_V rfl) (ev_U (fld_es rfl) (by rw [d_lenL, List.length_map])) rfl)).trans ?_
      congr 1
      rw [decide_eq_decide]
      omega
    have hif : sIf (gAnd (gT (gOp dLt (gV 7) (gU dLen (gU (dFld 14 0) (gB 6))))) (gOr (gT (gOp dIsN (gB 3) (gC .non))) (gT (gOp dLt (gIx (gU (dFld 14 0) (gB 6)) (gV 7)) (gV 3)))))
        (sSet 3 (gIx (gU (dFld 14 0) (gB 6)) (gV 7)))
        sNil [.bo (.obj 15 []), .sh (.int e), .sh (.int (if es.getD (n - 1) 0 > l then es.getD (n - 1) 0 else l)), .sh (optD b), .sh (.int c), .sh (.int s), .bo (rowD es U L g), .sh (.int n)] = some (.nx [.bo (.obj 15 []), .sh (.int e), .sh (.int (if es.getD (n - 1) 0 > l then es.getD (n - 1) 0 else l)), .sh (optD (minO b (nextO es n))), .sh (.int c), .sh (.int s), .bo (rowD es U L g), .sh (.int n)]) := by
      unfold nextO
      by_cases z : n < es.length
      · rw [if_pos z]
        rw [decide_eq_true z] at t1
        have ix := ixe (es := es) (i := (n : Int)) z rfl
        cases b with
        | none => exact sv_ifT (ev_and t1 (ev_orT (ev_T (ev_op (ev_B rfl) ev_C rfl)))) (sv_set (ev_op (fld_es rfl) (ev_V rfl) ix))
        | some b =>
          have lt2 : dLt (D.int (es.getD n 0)) (optD (some b)) = some (.bl (decide (es.getD n 0 < b))) := rfl
          have t2 := ev_and t1 (ev_or (b := false) (ev_T (ev_op (ev_B (Γ := [.bo (.obj 15 []), .sh (.int e), .sh (.int (if es.getD (n - 1) 0 > l then es.getD (n - 1) 0 else l)), .sh (optD (some b)), .sh (.int c), .sh (.int s), .bo (rowD es U L g), .sh (.int n)]) (i := 3) rfl) ev_C (show dIsN (optD (some b)) .non = some (.bl false) from rfl))) (ev_T (ev_op (ev_op (fld_es (i := 6) rfl) (ev_V (i := 7) rfl) ix) (ev_V (i := 3) rfl) lt2)))
          have em : minO (some b) (some (es.getD n 0)) = if es.getD n 0 < b then some (es.getD n 0) else some b := rfl
          rw [em]
          by_cases y : es.getD n 0 < b
          · rw [if_pos y]
            exact sv_ifT (t2.trans (by rw [decide_eq_true y]; rfl)) (sv_set (ev_op (fld_es rfl) (ev_V rfl) ix))
          · rw [if_neg y]
            exact sv_ifF (t2.trans (by rw [decide_eq_false y]; rfl)) rfl
      · rw [if_neg z]
        rw [decide_eq_false z] at t1
        cases b with
        | none => exact sv_ifF (ev_andF t1) rfl
        | some b => exact sv_ifF (ev_andF t1) rfl
    refine W_seq ⟨_, hif, ?_⟩
    refine W_seq (W_aug rfl (ev_V rfl) rfl ?_)
    refine W_aug rfl ev_I rfl ?_
    have st := hI.step q4 l0 e he ⟨le, lb⟩
    refine ⟨_, _, rfl, rfl, rfl, pts.length - (s + n), by omega, X', if es.getD (n - 1) 0 > l then es.getD (n - 1) 0 else l, c + 1, minO b (nextO es n), s + n, .sh (.int n), ?_, rfl, r2, st, ?_, ?_, ltO_min.mpr ⟨lb, q1⟩, by have := r3.le; omega, rfl⟩
    · rw [Int.natCast_add]
      rfl
    · split <;> omega
    · split <;> omega
theorem enough_eq (h0 : 0 < pts.length) : ∃ N : Int, S_enough_error [.lst (pts.map encP)] = some (.int N) ∧ 0 ≤ N ∧ N < 2 ^ 58 ∧ FitR pts N 0 pts.length := by
  have ne : (pts.map fun a => a.2) ≠ [] := by
    intro z
    rw [List.map_eq_nil_iff] at z
    rw [z] at h0
    exact absurd h0 (by decide)
  have em : ∀ i, i < pts.length → (pAt pts i).2 ∈ pts.map fun a => a.2 := fun i hi => List.mem_map.mpr ⟨_, pAt_mem hi, rfl⟩
  refine ⟨maxI (pts.map fun a => a.2) - minI (pts.map fun a => a.2), ?_, ?_, ?_, ?_⟩
  · refine sv_run ?_
    unfold B_enough_error
    refine sq_set (ev_L (ev_lc (ev_it (ev_V rfl)) (by rw [List.length_map]; omega) (compL_map pts encP (fun a => D.int a.2) fun a _ => ⟨_, rfl, ev_V rfl⟩))) ?_
    walk_at "ev norm"
    have e : (pts.map fun a => D.int a.2) = (pts.map fun a => a.2).map D.int := by rw [List.map_map]; rfl
    rw [e]
    exact sv_ret (ev_op (ev_U (ev_B rfl) (d_max ne)) (ev_U (ev_B rfl) (d_min ne)) rfl)
  · have h1 := (maxI_mem ne).2 _ (em 0 h0)
    have h2 := (minI_mem ne).2 _ (em 0 h0)
    omega
  · obtain ⟨a, m1, h1⟩ := List.mem_map.mp (maxI_mem ne).1
    obtain ⟨c, m2, h2⟩ := List.mem_map.mp (minI_mem ne).1
    have q1 := hb a m1
    have q2 := hb c m2
    rw [← h1, ← h2]
    omega
  · refine fit_range ha fun i j hi hj => ?_
    have h1 := (maxI_mem ne).2 _ (em i hi)
    have h2 := (minI_mem ne).2 _ (em j hj)
    omega
end
theorem W_setN {Γ : DEnv} {sx : Sx} {s : Sl} {i : Nat} {P : Res → Prop} (h : sx Γ = some s) (k : P (.nx (Γ.set i s))) : W (sSetN i sx) Γ P := ⟨_, by unfold sSetN; rw [h]; rfl, k⟩
theorem wq_setN {Γ : DEnv} {sx : Sx} {s : Sl} {i : Nat} {P : Res → Prop} {F' : Sm} (h : sx Γ = some s) (k : W F' (Γ.set i s) P) : W (sSeq (sSetN i sx) F') Γ P := W_seq (W_setN h k)
/-! the law's starts are the cut's -/
theorem Path.len {pts : List (Int × Int)} {e : Int} : ∀ {us : List Nat} {s t : Nat}, Path pts e s us t → s + us.length ≤ t
  | [], s, t, h => by have h : s = t := h; simp; omega
  | u :: us, s, t, h => by
    have := h.1.1
    have := Path.len h.2
    simp only [List.length_cons]
    omega
section
variable {pts : List (Int × Int)} (hb : ∀ a ∈ pts, SmQ a) (ha : AscI pts) (hn : pts.length < 10000)
include hb ha hn
theorem lcount_eq (e : Int) : ∃ c : Int, S__law_count [.lst (pts.map encP), .int e] = some (.int c) ∧ Cnt pts e c ∧ 0 ≤ c ∧ c ≤ pts.length := by
  suffices ∃ sts : List Int, S__law_starts [.lst (pts.map encP), .int e] = some (.lst (sts.map D.int)) ∧ Cnt pts e sts.length by
    obtain ⟨sts, h1, h2⟩ := this
    refine ⟨sts.length, sv_run (sv_ret (ev_U (ev_call (ev_cs (ev_V rfl) (ev_cs (ev_V rfl) ev_nl)) h1) (by rw [d_lenL, List.length_map]))), h2, by omega, ?_⟩
    obtain ⟨us, h3, h4⟩ := h2
    have := h3.len
    omega
  suffices W B__law_starts [.sh (.lst (pts.map encP)), .sh (.int e), .no, .no] (isRt fun d => ∃ sts : List Int, d = .lst (sts.map D.int) ∧ Cnt pts e sts.length) by
    obtain ⟨d, h1, sts, rfl, h2⟩ := run_W (N := 4) (ds := [.lst (pts.map encP), .int e]) this
    exact ⟨sts, h1, h2⟩
  unfold B__law_starts
  refine wq_setO ev_nl ?_
  walk_at "ev norm"
  refine wq_rng (lo := 0) (n := pts.length) (fun k Γ => ∃ (sts : List Int) (s3 : Sl), Γ = [.sh (.lst (pts.map encP)), .sh (.int e), .ow (sts.map D.int), s3] ∧ sts.length ≤ k ∧ ((k = 0 ∧ sts = []) ∨ ∃ (us : List Nat) (s : Nat) (pre : List Int), sts = pre ++ [(s : Int)] ∧ us.length = pre.length ∧ Path pts e 0 us s ∧ s < k ∧ FitR pts e s k)) ?_ ⟨[], .no, rfl, by simp, .inl ⟨rfl, rfl⟩⟩ ?_ ?_
  · have := ev_rng1 (m := (pts.map encP).length) (fs := aC (gU dLen (gB 0)) aN) (Γ := [.sh (.lst (pts.map encP)), .sh (.int e), .ow [], .no]) (ev_cs (ev_U (ev_B rfl) d_lenL) ev_nl) (by omega) (by simp; omega)
    rw [this]
    simp
  · rintro k Γ hk ⟨sts, s3, rfl, hl, hst⟩
    have ek : (0 + (k : Int)) = k := by omega
    rw [ek]
    refine ⟨_, rfl, ?_⟩
    walk_at "ev norm"
    have app : sApp 2 [] (gV 3) [.sh (.lst (pts.map encP)), .sh (.int e), .ow (sts.map D.int), .sh (.int k)] = some (.nx [.sh (.lst (pts.map encP)), .sh (.int e), .ow ((sts ++ [(k : Int)]).map D.int), .sh (.int k)]) := by
      have := sv_app0 (xs := sts.map D.int) (i := 2) (f := gV 3) (d := .int k) (Γ := [.sh (.lst (pts.map encP)), .sh (.int e), .ow (sts.map D.int), .sh (.int k)]) (ev_V rfl) rfl (by rw [List.length_map]; omega)
      rw [this]
      simp
    rcases hst with ⟨rfl, rfl⟩ | ⟨us, s, pre, rfl, h1, h2, h3, h4⟩
    · refine ⟨_, sv_ifT (ev_orT (ev_T (ev_op (ev_U (ev_Bo rfl) d_lenL) ev_I (d_eq eqOk_int eqOk_int eqd_int)))) app, [(0 : Int)], _, rfl, by simp, .inr ⟨[], 0, [], rfl, rfl, rfl, by omega, fun i j m h1 h2 h3 h4 => by omega⟩⟩
    · have hfit := lfits_eq (cutD pts (some (s : Int)) (some ((k : Int) + 1))) e (by have := cutD_len pts (some (s : Int)) (some ((k : Int) + 1)); omega) (fun a ha => hb a (cutD_mem ha))
      have fs : fitsB (cutD pts (some (s : Int)) (some ((k : Int) + 1))) e = true ↔ FitR pts e s (k + 1) := by
        have e1 : ((k : Int) + 1) = ((k + 1 : Nat) : Int) := by omega
        rw [e1]
        exact fit_slice (by omega)
      have hlast : dIx (.lst ((pre ++ [(s : Int)]).map D.int)) (.int (((pre ++ [(s : Int)]).length : Int) - 1)) = some (.int s) := d_ixC (k := pre.length) (by simp) (by simp)
      have ht : gOr (gT (gOp dEq (gU dLen (gB 2)) (gI 0))) (gNot (gTru (gCall S__law_fits (aC (gL (gSl (gB 0) (gSo (gIx (gB 2) (gOp dSub (gU dLen (gB 2)) (gI 1)))) (gSo (gOp dAdd (gV 3) (gI 1))))) (aC (gV 1) aN))))) [.sh (.lst (pts.map encP)), .sh (.int e), .ow ((pre ++ [(s : Int)]).map D.int), .sh (.int k)]
          = some (((((pre ++ [(s : Int)]).map D.int).length : Int) == 0) || !fitsB (cutD pts (some (s : Int)) (some ((k : Int) + 1))) e) :=
        ev_or (ev_T (ev_op (ev_U (ev_Bo rfl) d_lenL) ev_I (d_eq eqOk_int eqOk_int eqd_int))) (ev_not (ev_Tru (ev_call (ev_cs (ev_L (ev_Sl (ev_B rfl) (ev_So (ev_op (ev_Bo rfl) (ev_op (ev_U (ev_Bo rfl) (by rw [d_lenL, List.length_map])) ev_I d_sub) hlast)) (ev_So (ev_op (ev_V rfl) ev_I d_add)) d_cut)) (ev_cs (ev_V rfl) ev_nl)) hfit) rfl))
      have z : (((((pre ++ [(s : Int)]).map D.int).length : Int) == 0)) = false := by
        rw [beq_eq_false_iff_ne]
        simp
        omega
      rw [z, Bool.false_or] at ht
      by_cases hf : FitR pts e s (k + 1)
      · rw [fs.mpr hf] at ht
        exact ⟨_, sv_ifF ht rfl, _, _, rfl, by omega, .inr ⟨us, s, pre, rfl, h1, h2, by omega, hf⟩⟩
      · have : fitsB (cutD pts (some (s : Int)) (some ((k : Int) + 1))) e = false := by
          cases q : fitsB (cutD pts (some (s : Int)) (some ((k : Int) + 1))) e with
          | true => exact absurd (fs.mp q) hf
          | false => rfl
        rw [this] at ht
        refine ⟨_, sv_ifT ht app, pre ++ [(s : Int)] ++ [(k : Int)], _, rfl, by simp at hl ⊢; omega, .inr ⟨us ++ [k], k, pre ++ [(s : Int)], rfl, by simp [h1], ?_, by omega, fun i j m a1 a2 a3 a4 => by omega⟩⟩
        exact Path.snoc.mpr ⟨s, h2, ⟨h3, by omega, h4, .inr hf⟩, rfl⟩
  · rintro Γ ⟨sts, s3, rfl, hl, hst⟩
    refine W_frz (W_ret (ev_V rfl) ⟨sts, rfl, ?_⟩)
    rcases hst with ⟨h0, rfl⟩ | ⟨us, s, pre, rfl, h1, h2, h3, h4⟩
    · exact ⟨[], h0.symm, rfl⟩
    · refine ⟨us ++ [pts.length], Path.snoc.mpr ⟨s, h2, ⟨h3, Nat.le_refl _, h4, .inl rfl⟩, rfl⟩, by simp [h1]⟩
def encS (t : Int × Option Int × Int) : D := .tup [.int t.1, optD t.2.1, .int t.2.2]
def StrT (pts : List (Int × Int)) (t : Int × Option Int × Int) : Prop := Strt pts t.1 t.2.1 t.2.2
/-- asked in a slot -/
theorem ask_eq {X : Sl} {i : Nat} {f : Ex} {e : Int} {Γ : DEnv} (h0 : Γ[i]? = some (reS pts X)) (h : ROk pts X) (he : 0 ≤ e) (hf : f Γ = some (.int e)) : ∃ X' t, gMM i [] 15 S_Reaches_stretch (aC f aN) Γ = some (encS t, Γ.set i (reS pts X')) ∧ ROk pts X' ∧ StrT pts t ∧ t.1 ≤ e ∧ ltO e t.2.1 := by
  obtain ⟨X', l, b, c, h1, h2, h3, h4, h5⟩ := stretch_eq hb ha hn h he
  exact ⟨X', (l, b, c), gMM_eq h0 (ev_cs hf ev_nl) h1, h2, h3, h4, h5⟩
theorem least_eq (ps : Int) (hp : 1 ≤ ps) : ∃ E : Int, S_least_error [.lst (pts.map encP), .int ps] = some (.int E) ∧ 0 ≤ E ∧ (∃ c, Cnt pts E c ∧ c ≤ ps) ∧ (0 < E → ∃ c, Cnt pts (E - 1) c ∧ ps < c) := by
  suffices W B_least_error [.sh (.lst (pts.map encP)), .sh (.int ps), .no, .no, .no, .no] (isRt fun d => ∃ E : Int, d = .int E ∧ 0 ≤ E ∧ (∃ c, Cnt pts E c ∧ c ≤ ps) ∧ (0 < E → ∃ c, Cnt pts (E - 1) c ∧ ps < c)) by
    obtain ⟨d, h1, E, rfl, h2⟩ := run_W (N := 6) (ds := [.lst (pts.map encP), .int ps]) this
    exact ⟨E, h1, h2⟩
  have ht : gNot (gTru (gB 0)) [.sh (.lst (pts.map encP)), .sh (.int ps), .no, .no, .no, .no] = some (!!(pts.map encP).isEmpty) := ev_not (ev_Tru (ev_B rfl) rfl)
  unfold B_least_error
  refine wq_ifR ht (fun h0 => ⟨_, ev_I, 0, rfl, Int.le_refl _, ⟨0, ⟨[], ?_, rfl⟩, by omega⟩, fun z => absurd z (by decide)⟩) (fun h0 => ?_)
  · cases pts with
    | nil => rfl
    | cons => cases h0
  have hne : 0 < pts.length := by
    cases pts with
    | nil => cases h0
    | cons => simp
  obtain ⟨N, n1, n2, _, n3⟩ := enough_eq hb ha hn hne
  refine wq_setN (s := reS pts (.dk [] [])) rfl ?_
  walk_at "ev norm"
  obtain ⟨X1, below, a1, a2, a3, a4, a5⟩ := ask_eq hb ha hn (i := 2) (f := gI 0) (Γ := [.sh (.lst (pts.map encP)), .sh (.int ps), reS pts (.dk [] []), .no, .no, .no]) rfl ROk.new (Int.le_refl 0) ev_I
  refine wq_setM a1 ?_
  walk_at "ev norm"
  refine wq_ifR (ev_T (ev_op (ev_op (ev_B rfl) ev_I rfl) (ev_V rfl) rfl)) (fun h1 => ⟨_, ev_I, 0, rfl, Int.le_refl _, ⟨below.2.2, a3.cnt a4 a5, by simpa using h1⟩, fun z => absurd z (by decide)⟩) (fun h1 => ?_)
  simp only [decide_eq_false_iff_not] at h1
  obtain ⟨X2, above, b1, b2, b3, b4, b5⟩ := ask_eq hb ha hn (i := 2) (f := gCall S_enough_error (aC (gV 0) aN)) (Γ := [.sh (.lst (pts.map encP)), .sh (.int ps), reS pts X1, .sh (encS below), .no, .no]) rfl a2 n2 (ev_call (ev_cs (ev_V rfl) ev_nl) n1)
  refine wq_setM b1 ?_
  walk_at "ev norm"
  have c1 : above.2.2 = 1 := (Cnt.one n3 hne).uniq (b3.cnt b4 b5)
  refine wq_while (fun m Γ => ∃ (X : Sl) (u v : Int × Option Int × Int) (s5 : Sl), Γ = [.sh (.lst (pts.map encP)), .sh (.int ps), reS pts X, .sh (encS u), .sh (encS v), s5] ∧ ROk pts X ∧ StrT pts u ∧ StrT pts v ∧ ps < u.2.2 ∧ v.2.2 ≤ ps ∧ ∀ x, u.2.1 = some x → (m : Int) = max 0 (v.1 - x)) ⟨match below.2.1 with | none => 0 | some x => (above.1 - x).toNat, X2, below, above, .no, rfl, b2, a3, b3, by omega, by omega, fun x hx => by rw [hx]; show ((above.1 - x).toNat : Int) = _; omega⟩ ?_
  rintro m Γ ⟨X, u, v, s5, rfl, hX, hu, hv, pu, pv, hm⟩
  have uv : u.1 < v.1 := by
    refine Int.not_le.mp fun z => ?_
    have := Cnt.mono ha z hv.at hu.at
    omega
  obtain ⟨lu, bu, cu⟩ := u
  obtain ⟨lv, bv, cv⟩ := v
  simp only [] at uv pu pv hm
  obtain ⟨x, rfl⟩ : ∃ x, bu = some x := by
    cases bu with
    | some x => exact ⟨x, rfl⟩
    | none =>
      have h1 : Cnt pts lv cu := hu.cnt (by show lu ≤ lv; omega) trivial
      have h2 : Cnt pts lv cv := hv.at
      have := h1.uniq h2
      omega
  have hm := hm x rfl
  have ux : lu < x := hu.lt
  have nu : 0 ≤ lu := hu.nn
  refine ⟨_, ev_T (ev_op (ev_op (ev_B rfl) ev_I (show dIx (encS (lu, some x, cu)) (.int 1) = some (.int x) from rfl)) (ev_op (ev_B rfl) ev_I (show dIx (encS (lv, bv, cv)) (.int 0) = some (.int lv) from rfl)) (show dLt (.int x) (.int lv) = some (.bl (decide (x < lv))) from rfl)), fun hc => ?_, fun hc => ?_⟩
  · simp only [decide_eq_false_iff_not] at hc
    exact W_ret (ev_op (ev_B rfl) ev_I rfl) ⟨lv, rfl, hv.nn, ⟨cv, hv.at, pv⟩, fun _ => ⟨cu, hu.cnt (by show lu ≤ lv - 1; omega) (show lv - 1 < x by omega), pu⟩⟩
  · simp only [decide_eq_true_eq] at hc
    have em : (0 : Int) ≤ (x + lv) / 2 := by omega
    obtain ⟨X', t, d1, d2, d3, d4, d5⟩ := ask_eq hb ha hn (i := 2) (e := (x + lv) / 2) (f := gOp dDiv (gOp dAdd (gIx (gB 3) (gI 1)) (gIx (gB 4) (gI 0))) (gI 2)) (Γ := [.sh (.lst (pts.map encP)), .sh (.int ps), reS pts X, .sh (encS (lu, some x, cu)), .sh (encS (lv, bv, cv)), s5]) rfl hX em (ev_op (ev_op (ev_op (ev_B rfl) ev_I rfl) (ev_op (ev_B rfl) ev_I rfl) rfl) ev_I (d_div (by decide) (by decide +kernel)))
    refine wq_setM d1 ?_
    walk_at "ev norm"
    obtain ⟨lt, bt, ct⟩ := t
    refine W_if (ev_T (ev_op (ev_op (ev_B rfl) ev_I (show dIx (encS (lt, bt, ct)) (.int 2) = some (.int ct) from rfl)) (ev_V rfl) (show dLe (.int ct) (.int ps) = some (.bl (decide (ct ≤ ps))) from rfl))) (fun h1 => ?_) (fun h1 => ?_)
    · simp only [decide_eq_true_eq] at h1
      refine W_set (ev_V rfl) ⟨(max 0 (lt - x)).toNat, ?_, X', (lu, some x, cu), (lt, bt, ct), .sh (encS (lt, bt, ct)), rfl, d2, hu, d3, pu, h1, fun y hy => ?_⟩
      · have : lt ≤ (x + lv) / 2 := d4
        omega
      · cases hy
        show ((max 0 (lt - x)).toNat : Int) = max 0 (lt - x)
        omega
    · simp only [decide_eq_false_iff_not] at h1
      refine W_set (ev_V rfl) ⟨match bt with | none => 0 | some y => (lv - y).toNat, ?_, X', (lt, bt, ct), (lv, bv, cv), .sh (encS (lt, bt, ct)), rfl, d2, d3, hv, by show ps < ct; omega, pv, fun y hy => ?_⟩
      · cases bt with
        | none => show 0 < m; omega
        | some y =>
          have d5 : (x + lv) / 2 < y := d5
          show (lv - y).toNat < m
          omega
      · have hy : bt = some y := hy
        subst hy
        show ((lv - y).toNat : Int) = max 0 (lv - y)
        omega
end
theorem asc_at {pts : List (Int × Int)} (h : Asc pts) {i j : Nat} (hij : i < j) (hj : j < pts.length) : (pAt pts i).1 < (pAt pts j).1 := by
  have := List.pairwise_iff_getElem.mp h i j (by omega) hj hij
  unfold pAt
  rw [List.getD_eq_getElem?_getD, List.getD_eq_getElem?_getD, List.getElem?_eq_getElem (by omega), List.getElem?_eq_getElem hj]
  exact this
/-! the staircase -/
/-- the stretches ahead, the nearest one first: each lies at most half as far behind b as the next -/
def Half (b : Int) : List (Int × Option Int × Int) → Prop
  | [] => True
  | x :: r => b ≤ x.1 ∧ (∀ y ∈ r.head?, 2 * (x.1 - b) ≤ y.1 - b ∧ x.1 < y.1) ∧ Half b r
theorem Half.up {b b' : Int} (hb : b ≤ b') : ∀ {r : List (Int × Option Int × Int)}, Half b r → (∀ y ∈ r.head?, b' ≤ y.1) → Half b' r
  | [], _, _ => trivial
  | x :: r, h, hy => by
    have h1 := hy x rfl
    refine ⟨h1, fun y m => ?_, Half.up hb h.2.2 fun y m => ?_⟩
    · have := h.2.1 y m
      omega
    · have := h.2.1 y m
      omega
theorem Half.pow {b N : Int} : ∀ {r : List (Int × Option Int × Int)} {x : Int × Option Int × Int}, Half b (x :: r) → (∀ y ∈ x :: r, y.1 ≤ N) → b < x.1 → (2 : Int) ^ r.length ≤ N - b
  | [], x, h, hN, hx => by
    have := hN x List.mem_cons_self
    simp only [List.length_nil, Int.pow_zero]
    omega
  | y :: r, x, h, hN, hx => by
    have h1 := h.2.1 y rfl
    -- the distance doubles
    suffices ∀ (r : List (Int × Option Int × Int)) (x : Int × Option Int × Int) (g : Int), Half b (x :: r) → (∀ y ∈ x :: r, y.1 ≤ N) → g ≤ x.1 - b → 0 ≤ g → g * 2 ^ r.length ≤ N - b by
      have := this (y :: r) x 1 h hN (by omega) (by omega)
      rwa [Int.one_mul] at this
    intro r
    induction r with
    | nil =>
      intro x g h hN h1 h2
      have := hN x List.mem_cons_self
      simp only [List.length_nil, Int.pow_zero]
      omega
    | cons z r ih =>
      intro x g h hN h1 h2
      have h3 := h.2.1 z rfl
      have := ih z (2 * g) h.2.2 (fun y m => hN y (List.mem_cons_of_mem _ m)) (by omega) (by omega)
      rw [List.length_cons, Int.pow_succ]
      have e : g * (2 ^ r.length * 2) = 2 * g * 2 ^ r.length := by grind
      omega
theorem Half.len {b N : Int} {A : List (Int × Option Int × Int)} (h : Half b A) (hN : ∀ y ∈ A, y.1 ≤ N) (hb : 0 ≤ b) (hs : N < 2 ^ 60) : A.length < 1000 := by
  have key : ∀ (r : List (Int × Option Int × Int)) (x : Int × Option Int × Int), Half b (x :: r) → (∀ y ∈ x :: r, y.1 ≤ N) → b < x.1 → r.length < 60 := fun r x h hN hx => by
    have h1 := h.pow hN hx
    refine Nat.lt_of_not_le fun z => ?_
    have : (2 : Int) ^ 60 ≤ 2 ^ r.length := by
      have := Nat.pow_le_pow_right (show 2 > 0 by decide) z
      have e : ∀ k : Nat, (2 : Int) ^ k = ((2 ^ k : Nat) : Int) := fun k => by simp
      rw [e, e]
      omega
    omega
  cases A with
  | nil => simp
  | cons x r =>
    by_cases hx : b < x.1
    · have := key r x h hN hx
      simp only [List.length_cons]
      omega
    · cases r with
      | nil => simp
      | cons y r =>
        have h1 := h.2.1 y rfl
        have := key r y h.2.2 (fun z m => hN z (List.mem_cons_of_mem _ m)) (by have := h.1; omega)
        simp only [List.length_cons]
        omega
/-- the last one's number of pieces -/
def lastC : Int × Option Int × Int → List (Int × Option Int × Int) → Int
  | h, [] => h.2.2
  | _, x :: r => lastC x r
/-- steps as they must be -/
structure StepsOk (pts : List (Int × Int)) (ss : List (Int × Int)) : Prop where
  fst : ∃ c, ss[0]? = some (0, c) ∧ Cnt pts 0 c
  ok : ∀ k, k + 1 < ss.length → (pAt ss k).1 < (pAt ss (k + 1)).1 ∧ Cnt pts (pAt ss (k + 1)).1 (pAt ss (k + 1)).2 ∧ (pAt ss (k + 1)).2 < (pAt ss k).2 ∧ Cnt pts ((pAt ss (k + 1)).1 - 1) (pAt ss k).2
theorem pAt_app {ss : List (Int × Int)} {a : Int × Int} {k : Nat} (h : k < ss.length) : pAt (ss ++ [a]) k = pAt ss k := by
  unfold pAt
  rw [List.getD_eq_getElem?_getD, List.getD_eq_getElem?_getD, List.getElem?_append_left h]
theorem pAt_end {ss : List (Int × Int)} {a : Int × Int} : pAt (ss ++ [a]) ss.length = a := by simp [pAt]
theorem StepsOk.snoc {pts ss : List (Int × Int)} {a : Int × Int} (h : StepsOk pts ss) (hl : 0 < ss.length) (h1 : (pAt ss (ss.length - 1)).1 < a.1) (h2 : Cnt pts a.1 a.2) (h3 : a.2 < (pAt ss (ss.length - 1)).2) (h4 : Cnt pts (a.1 - 1) (pAt ss (ss.length - 1)).2) : StepsOk pts (ss ++ [a]) := by
  obtain ⟨c, f1, f2⟩ := h.fst
  refine ⟨⟨c, by rw [List.getElem?_append_left hl]; exact f1, f2⟩, fun k hk => ?_⟩
  rw [List.length_append, List.length_singleton] at hk
  by_cases z : k + 1 < ss.length
  · rw [pAt_app z, pAt_app (by omega)]
    exact h.ok k z
  · have e : k = ss.length - 1 := by omega
    subst e
    have e2 : ss.length - 1 + 1 = ss.length := by omega
    rw [e2, pAt_end, pAt_app (by omega)]
    exact ⟨h1, h2, h3, h4⟩
/-- what the loop keeps -/
structure StIv (pts ss : List (Int × Int)) (here : Int × Option Int × Int) (A : List (Int × Option Int × Int)) (N : Int) : Prop where
  hst : StrT pts here
  all : ∀ a ∈ A, StrT pts a ∧ a.1 ≤ N
  ok : StepsOk pts ss
  len : 0 < ss.length
  cnt : here.2.2 + ss.length ≤ pts.length + 1
  lst : (pAt ss (ss.length - 1)).2 = here.2.2 ∧ 0 ≤ (pAt ss (ss.length - 1)).1 ∧ (pAt ss (ss.length - 1)).1 ≤ here.1 ∧ ∀ e, (pAt ss (ss.length - 1)).1 ≤ e → ltO e here.2.1 → Cnt pts e here.2.2
  one : lastC here A = 1
/-- how far the loop is -/
def stM (N : Int) (here : Int × Option Int × Int) : List (Int × Option Int × Int) → Nat → Prop
  | [], m => m = 0
  | x :: r, m => (∃ b, here.2.1 = some b ∧ Half b (x :: r) ∧ (m : Int) = (N - b) * (N + 2) + (x.1 - b) + 1) ∨ (r = [] ∧ here = x ∧ (m : Int) = 1)
section
variable {pts ss : List (Int × Int)} (ha : AscI pts) (hE : ∀ e, 0 ≤ e → ∃ c, Cnt pts e c)
include ha
theorem StIv.near {here x : Int × Option Int × Int} {A : List (Int × Option Int × Int)} {N : Int} {m : Nat} (I : StIv pts ss here (x :: A) N) (M : stM N here (x :: A) m) : here.1 ≤ x.1 ∧ x.2.2 ≤ here.2.2 := by
  have le : here.1 ≤ x.1 := by
    rcases M with ⟨b, h1, h2, _⟩ | ⟨_, h, _⟩
    · have := I.hst.lt
      rw [h1] at this
      have this : here.1 < b := this
      have := h2.1
      omega
    · rw [h]; exact Int.le_refl _
  exact ⟨le, Cnt.mono ha le I.hst.at (I.all x List.mem_cons_self).1.at⟩
/-- the nearest one becomes the one here: what is left of the way -/
theorem stM_pop {here x : Int × Option Int × Int} {A : List (Int × Option Int × Int)} {N : Int} {m : Nat} (I : StIv pts ss here (x :: A) N) (M : stM N here (x :: A) m) : ∃ m', m' < m ∧ stM N x A m' := by
  cases A with
  | nil =>
    refine ⟨0, ?_, rfl⟩
    rcases M with ⟨b, h1, h2, h3⟩ | ⟨_, _, h⟩
    · have q1 := h2.1
      have q2 := (I.all x List.mem_cons_self).2
      have q3 := I.hst.lt
      rw [h1] at q3
      have q3 : here.1 < b := q3
      have q4 := I.hst.nn
      have : 0 ≤ (N - b) * (N + 2) := Int.mul_nonneg (by omega) (by omega)
      omega
    · omega
  | cons y r =>
    rcases M with ⟨b, h1, h2, h3⟩ | ⟨h, _, _⟩
    · have q1 := h2.1
      have q2 := I.all x List.mem_cons_self
      have q5 := I.all y (List.mem_cons_of_mem _ List.mem_cons_self)
      have q3 := I.hst.lt
      rw [h1] at q3
      have q3 : here.1 < b := q3
      have q4 := I.hst.nn
      have q6 := h2.2.1 y rfl
      rcases q2.1.sep q5.1 (by omega) with ⟨b', e1, e2⟩ | ⟨e, _⟩
      · have q7 := q2.1.lt
        rw [e1] at q7
        have q7 : x.1 < b' := q7
        have k1 : 0 ≤ (N - b') * (N + 2) := Int.mul_nonneg (by omega) (by omega)
        have k2 : (N - b') * (N + 2) + (N + 2) ≤ (N - b) * (N + 2) := by
          have : 0 ≤ (b' - b - 1) * (N + 2) := Int.mul_nonneg (by omega) (by omega)
          have e : (b' - b - 1) * (N + 2) = (N - b) * (N + 2) - (N - b') * (N + 2) - (N + 2) := by grind
          omega
        refine ⟨((N - b') * (N + 2) + (y.1 - b') + 1).toNat, by omega, .inl ⟨b', e1, h2.2.2.up (by omega) fun z m => ?_, by omega⟩⟩
        cases m
        exact e2
      · omega
    · cases h
theorem StIv.drop {here x : Int × Option Int × Int} {A : List (Int × Option Int × Int)} {N : Int} {m : Nat} (I : StIv pts ss here (x :: A) N) (M : stM N here (x :: A) m) (he : here.2.2 = x.2.2) (hE : ∀ e, 0 ≤ e → ∃ c, Cnt pts e c) : StIv pts ss x A N := by
  have nr := I.near ha M
  have X := I.all x List.mem_cons_self
  obtain ⟨l1, l2, l3, l4⟩ := I.lst
  refine ⟨X.1, fun a m => I.all a (List.mem_cons_of_mem _ m), I.ok, I.len, by rw [← he]; exact I.cnt, ⟨by rw [← he]; exact l1, l2, by omega, fun e h1 h2 => ?_⟩, I.one⟩
  by_cases z : x.1 ≤ e
  · exact X.1.cnt z h2
  · by_cases y : here.1 ≤ e
    · obtain ⟨c, hc⟩ := hE e (by have := I.hst.nn; omega)
      have k1 := Cnt.mono ha y I.hst.at hc
      have k2 := Cnt.mono ha (by omega) hc X.1.at
      have : c = x.2.2 := by omega
      rw [← this]
      exact hc
    · rw [← he]
      refine l4 e h1 ?_
      have := I.hst.lt
      cases q : here.2.1 with
      | none => trivial
      | some b =>
        rw [q] at this
        have this : here.1 < b := this
        show e < b
        omega
theorem StIv.step {here x : Int × Option Int × Int} {A : List (Int × Option Int × Int)} {N : Int} {m : Nat} (I : StIv pts ss here (x :: A) N) (M : stM N here (x :: A) m) (he : here.2.2 ≠ x.2.2) (hb : here.2.1 = some x.1) : StIv pts (ss ++ [(x.1, x.2.2)]) x A N := by
  have nr := I.near ha M
  have X := I.all x List.mem_cons_self
  obtain ⟨l1, l2, l3, l4⟩ := I.lst
  have q3 := I.hst.lt
  rw [hb] at q3
  have q3 : here.1 < x.1 := q3
  have c0 : 0 ≤ x.2.2 := by
    obtain ⟨us, _, h⟩ := X.1.at
    omega
  refine ⟨X.1, fun a m => I.all a (List.mem_cons_of_mem _ m), I.ok.snoc I.len (by show _ < x.1; omega) X.1.at (by show x.2.2 < _; omega) ?_, by simp, ?_, ?_, I.one⟩
  · rw [l1]
    exact l4 _ (by show _ ≤ x.1 - 1; omega) (by rw [hb]; show x.1 - 1 < x.1; omega)
  · have := I.cnt
    rw [List.length_append, List.length_singleton]
    omega
  · have e : (ss ++ [(x.1, x.2.2)]).length - 1 = ss.length := by simp
    rw [e, pAt_end]
    exact ⟨rfl, X.1.nn, Int.le_refl _, fun e h1 h2 => X.1.cnt h1 h2⟩
theorem StIv.mid {here x t : Int × Option Int × Int} {A : List (Int × Option Int × Int)} {N b : Int} {m : Nat} (I : StIv pts ss here (x :: A) N) (M : stM N here (x :: A) m) (he : here.2.2 ≠ x.2.2) (hb : here.2.1 = some b) (hx : b ≠ x.1) (ht : StrT pts t) (h1 : t.1 ≤ (b + x.1) / 2) (h2 : ltO ((b + x.1) / 2) t.2.1) : StIv pts ss here (t :: x :: A) N ∧ ∃ m', m' < m ∧ stM N here (t :: x :: A) m' := by
  rcases M with ⟨b', e1, e2, e3⟩ | ⟨_, h, _⟩
  · rw [hb] at e1
    cases e1
    have q1 := e2.1
    have q2 := (I.all x List.mem_cons_self).2
    have q3 := I.hst.lt
    rw [hb] at q3
    have q3 : here.1 < b := q3
    have bt : b ≤ t.1 := by
      by_cases z : here.1 ≤ t.1
      · rcases I.hst.sep ht z with ⟨y, y1, y2⟩ | ⟨_, y, _⟩
        · rw [hb] at y1
          cases y1
          exact y2
        · rw [← y, hb] at h2
          have h2 : (b + x.1) / 2 < b := h2
          omega
      · rcases ht.sep I.hst (by omega) with ⟨y, y1, y2⟩ | ⟨y, _, _⟩
        · rw [y1] at h2
          have h2 : (b + x.1) / 2 < y := h2
          omega
        · omega
    have pos : 0 ≤ (N - b) * (N + 2) := Int.mul_nonneg (by omega) (by have := I.hst.nn; omega)
    refine ⟨⟨I.hst, fun a m => ?_, I.ok, I.len, I.cnt, I.lst, I.one⟩, ((N - b) * (N + 2) + (t.1 - b) + 1).toNat, by omega, .inl ⟨b, hb, ⟨bt, fun y hy => ?_, e2⟩, ?_⟩⟩
    · rcases List.mem_cons.mp m with rfl | m
      · exact ⟨ht, by omega⟩
      · exact I.all a m
    · cases hy
      omega
    · omega
  · rw [h] at he
    exact absurd rfl he
end
/-! data that are equal to themselves -/
def Okd (n : Nat) (d : D) : Prop := pyOk d = true ∧ (toPy d).canLay0 = true ∧ (toPy d).depth ≤ n
theorem okd_int (i : Int) : Okd 1 (.int i) := ⟨by simp [pyOk], by simp [toPy, PyData.canLay0], by simp [toPy, PyData.depth]⟩
theorem okd_non : Okd 1 .non := ⟨by simp [pyOk], by simp [toPy, PyData.canLay0], by simp [toPy, PyData.depth]⟩
theorem okd_all {n : Nat} : ∀ {xs : List D}, (∀ d ∈ xs, Okd n d) → pyOks xs = true ∧ PyData.canLayAll0 (toPys xs) = true ∧ PyData.depthAll (toPys xs) ≤ n
  | [], _ => ⟨rfl, rfl, by simp [toPys, PyData.depthAll]⟩
  | x :: xs, h => by
    obtain ⟨h1, h2, h3⟩ := h x List.mem_cons_self
    obtain ⟨k1, k2, k3⟩ := okd_all (xs := xs) fun d hd => h d (List.mem_cons_of_mem _ hd)
    refine ⟨?_, ?_, ?_⟩
    · rw [pyOks, h1, k1]; rfl
    · rw [toPys, PyData.canLayAll0, h2, k2]; rfl
    · rw [toPys, PyData.depthAll]; omega
theorem okd_lst {n : Nat} {xs : List D} (h : ∀ d ∈ xs, Okd n d) : Okd (n + 1) (.lst xs) := by
  obtain ⟨k1, k2, k3⟩ := okd_all h
  refine ⟨by rw [pyOk]; exact k1, by rw [toPy, PyData.canLay0]; exact k2, by rw [toPy, PyData.depth]; omega⟩
theorem okd_tup {n : Nat} {xs : List D} (h : ∀ d ∈ xs, Okd n d) : Okd (n + 1) (.tup xs) := by
  obtain ⟨k1, k2, k3⟩ := okd_all h
  refine ⟨by rw [pyOk]; exact k1, by rw [toPy, PyData.canLay0]; exact k2, by rw [toPy, PyData.depth]; omega⟩
theorem okd_map {α : Type} {n : Nat} {f : α → D} (h : ∀ a, Okd n (f a)) (xs : List α) : Okd (n + 1) (.lst (xs.map f)) := okd_lst fun d hd => by
  obtain ⟨a, _, rfl⟩ := List.mem_map.mp hd
  exact h a
theorem okd_eq {n : Nat} {d : D} (h : Okd n d) (hn : n < 60) : eqOk d = true ∧ eqd d d = true := by
  obtain ⟨h1, h2, h3⟩ := h
  refine ⟨?_, ?_⟩
  · unfold eqOk SeqAt.shaped
    rw [h2, h1]
    simp
    omega
  · unfold eqd
    exact SeqAt.eqv_refl _ h2
theorem ne_same {n : Nat} {d : D} (h : Okd n d) (hn : n < 60) : dNe d d = some (.bl false) := by
  obtain ⟨h1, h2⟩ := okd_eq h hn
  exact d_ne (bb := true) h1 h1 h2
theorem eq_same {n : Nat} {d : D} (h : Okd n d) (hn : n < 60) : dEq d d = some (.bl true) := by
  obtain ⟨h1, h2⟩ := okd_eq h hn
  exact d_eq (bb := true) h1 h1 h2
/-! the law of least errors -/
theorem W_setL1M {f : Mx} {Γ Γ' : DEnv} {d : D} {j : Nat} {F : Sm} {P : Res → Prop} (h : f Γ = some (d, Γ')) (k : W F (Γ'.set j (.ow [d])) P) : W (sSeq (sSetL1M j f) F) Γ P := W_seq ⟨.nx (Γ'.set j (.ow [d])), by unfold sSetL1M; rw [h]; rfl, k⟩
theorem pop_eq {Γ : DEnv} {i : Nat} {xs : List D} {d : D} (h : Γ[i]? = some (.ow (xs ++ [d]))) : gMPop i [] Γ = some (d, Γ.set i (.ow xs)) := by
  have e : gP i [] Γ = some (.ow (xs ++ [d])) := by unfold gP; rw [h]; rfl
  unfold gMPop
  rw [e]
  show (((xs ++ [d])[(xs ++ [d]).length - 1]?).bind _) = _
  have e2 : (xs ++ [d])[(xs ++ [d]).length - 1]? = some d := by simp
  rw [e2]
  show ((Γ[i]?).bind _) = _
  rw [h]
  show some (d, Γ.set i (.ow (xs ++ [d]).dropLast)) = _
  rw [List.dropLast_concat]
section
variable {pts : List (Int × Int)} (hb : ∀ a ∈ pts, SmQ a) (ha : AscI pts) (hn : pts.length < 10000)
include hb ha hn
theorem stair_eq : ∃ ss : List (Int × Int), S_staircase [.lst (pts.map encP)] = some (.lst (ss.map encP)) ∧ 0 < ss.length ∧ StepsOk pts ss ∧ (pAt ss (ss.length - 1)).2 = (if pts.length = 0 then 0 else 1) ∧ ss.length ≤ pts.length + 1 := by
  suffices W B_staircase [.sh (.lst (pts.map encP)), .no, .no, .no, .no, .no] (isRt fun d => ∃ ss : List (Int × Int), d = .lst (ss.map encP) ∧ 0 < ss.length ∧ StepsOk pts ss ∧ (pAt ss (ss.length - 1)).2 = (if pts.length = 0 then 0 else 1) ∧ ss.length ≤ pts.length + 1) by
    obtain ⟨d, h1, ss, rfl, h2⟩ := run_W (N := 6) (ds := [.lst (pts.map encP)]) this
    exact ⟨ss, h1, h2⟩
  have ht : gNot (gTru (gB 0)) [.sh (.lst (pts.map encP)), .no, .no, .no, .no, .no] = some (!!(pts.map encP).isEmpty) := ev_not (ev_Tru (ev_B rfl) rfl)
  unfold B_staircase
  refine wq_ifR ht (fun h0 => ⟨_, ev_L (ev_cs (ev_tu (ev_cs ev_I (ev_cs ev_I ev_nl))) ev_nl), [(0, 0)], rfl, by decide, ?_, ?_, ?_⟩) (fun h0 => ?_)
  · cases pts with
    | nil => exact ⟨⟨0, rfl, [], rfl, rfl⟩, fun k hk => by simp at hk⟩
    | cons => cases h0
  · cases pts with
    | nil => rfl
    | cons => cases h0
  · simp
  have hne : 0 < pts.length := by
    cases pts with
    | nil => cases h0
    | cons => simp
  have hE : ∀ e, 0 ≤ e → ∃ c, Cnt pts e c := fun e _ => by
    obtain ⟨c, _, h, _⟩ := lcount_eq hb ha hn e
    exact ⟨c, h⟩
  obtain ⟨N, n1, n2, n3, n4⟩ := enough_eq hb ha hn hne
  refine wq_setN (s := reS pts (.dk [] [])) rfl ?_
  walk_at "ev norm"
  obtain ⟨X1, here, a1, a2, a3, a4, a5⟩ := ask_eq hb ha hn (i := 1) (f := gI 0) (Γ := [.sh (.lst (pts.map encP)), reS pts (.dk [] []), .no, .no, .no, .no]) rfl ROk.new (Int.le_refl 0) ev_I
  refine wq_setM a1 ?_
  walk_at "ev norm"
  refine wq_setO (ev_cs (ev_tu (ev_cs ev_I (ev_cs (ev_op (ev_B rfl) ev_I (show dIx (encS here) (.int 2) = some (.int here.2.2) from rfl)) ev_nl))) ev_nl) ?_
  walk_at "ev norm"
  obtain ⟨X2, far, b1, b2, b3, b4, b5⟩ := ask_eq hb ha hn (i := 1) (f := gCall S_enough_error (aC (gV 0) aN)) (Γ := [.sh (.lst (pts.map encP)), reS pts X1, .sh (encS here), .ow [.tup [.int 0, .int here.2.2]], .no, .no]) rfl a2 n2 (ev_call (ev_cs (ev_V rfl) ev_nl) n1)
  refine W_setL1M b1 ?_
  walk_at "ev norm"
  have c1 : far.2.2 = 1 := (Cnt.one n4 hne).uniq (b3.cnt b4 b5)
  have h0' : here.1 = 0 := by
    have := a3.nn
    omega
  have cn : here.2.2 ≤ pts.length := by
    obtain ⟨us, k1, k2⟩ := a3.at
    have := k1.len
    omega
  have I0 : StIv pts [(0, here.2.2)] here [far] N := by
    refine ⟨a3, fun a m => ?_, ⟨⟨here.2.2, rfl, a3.cnt a4 a5⟩, fun k hk => by simp at hk⟩, Nat.succ_pos _, by simp; omega, ⟨rfl, Int.le_refl _, by show 0 ≤ here.1; omega, fun e h1 h2 => a3.cnt (by rw [h0']; exact h1) h2⟩, c1⟩
    rw [List.mem_singleton] at m
    subst m
    exact ⟨b3, b4⟩
  have M0 : ∃ m, stM N here [far] m := by
    rcases a3.sep b3 (by rw [h0']; exact b3.nn) with ⟨b, e1, e2⟩ | ⟨e1, e2, e3⟩
    · have := a3.lt
      rw [e1] at this
      have this : here.1 < b := this
      have pos : 0 ≤ (N - b) * (N + 2) := Int.mul_nonneg (by omega) (by omega)
      exact ⟨((N - b) * (N + 2) + (far.1 - b) + 1).toNat, .inl ⟨b, e1, ⟨e2, (fun y hy => by cases hy), trivial⟩, by omega⟩⟩
    · exact ⟨1, .inr ⟨rfl, Prod.ext e1 (Prod.ext e2 e3), rfl⟩⟩
  refine wq_while (fun m Γ => ∃ (X : Sl) (ss : List (Int × Int)) (here : Int × Option Int × Int) (A : List (Int × Option Int × Int)) (s5 : Sl), Γ = [.sh (.lst (pts.map encP)), reS pts X, .sh (encS here), .ow (ss.map encP), .ow (A.reverse.map encS), s5] ∧ ROk pts X ∧ StIv pts ss here A N ∧ stM N here A m) (M0.imp fun m M => ⟨X2, [(0, here.2.2)], here, [far], .no, rfl, b2, I0, M⟩) ?_
  rintro m Γ ⟨X, ss, here, A, s5, rfl, hX, I, M⟩
  refine ⟨_, ev_Tru (ev_Bo rfl) rfl, fun hc => ?_, fun hc => ?_⟩
  · have hA : A = [] := by
      cases A with
      | nil => rfl
      | cons x A =>
        rw [List.reverse_cons, List.map_append] at hc
        cases hq : A.reverse.map encS with
        | nil => rw [hq] at hc; cases hc
        | cons => rw [hq] at hc; cases hc
    subst hA
    refine W_frz (W_ret (ev_V rfl) ⟨ss, rfl, I.len, I.ok, ?_, ?_⟩)
    · rw [if_neg (by omega), I.lst.1]
      exact I.one
    · have := I.cnt
      obtain ⟨us, _, h⟩ := I.hst.at
      omega
  · obtain ⟨x, A, rfl⟩ : ∃ x A', A = x :: A' := by
      cases A with
      | nil => cases hc
      | cons x A => exact ⟨x, A, rfl⟩
    have eA : ((x :: A).reverse.map encS) = A.reverse.map encS ++ [encS x] := by rw [List.reverse_cons, List.map_append]; rfl
    rw [eA]
    have ixl : dIx (.lst (A.reverse.map encS ++ [encS x])) (.int (-1)) = some (encS x) := by
      show atI (A.reverse.map encS ++ [encS x]) (-1) = _
      unfold atI ixN
      rw [if_neg (by omega), if_pos (by simp; omega)]
      show (A.reverse.map encS ++ [encS x])[(-1 + ((A.reverse.map encS ++ [encS x]).length : Int)).toNat]? = _
      have e1 : (-1 + ((A.reverse.map encS ++ [encS x]).length : Int)).toNat = (A.reverse.map encS).length := by rw [List.length_append, List.length_singleton]; omega
      rw [e1, List.getElem?_append_right (Nat.le_refl _), Nat.sub_self]
      rfl
    refine wq_set (ev_op (ev_Bo rfl) (ev_U ev_I rfl) ixl) ?_
    walk_at "ev norm"
    have i2 : ∀ t : Int × Option Int × Int, dIx (encS t) (.int 2) = some (.int t.2.2) := fun _ => rfl
    have i1 : ∀ t : Int × Option Int × Int, dIx (encS t) (.int 1) = some (optD t.2.1) := fun _ => rfl
    have i0 : ∀ t : Int × Option Int × Int, dIx (encS t) (.int 0) = some (.int t.1) := fun _ => rfl
    refine W_if (ev_T (ev_op (ev_op (ev_B rfl) ev_I (i2 here)) (ev_op (ev_B rfl) ev_I (i2 x)) (d_eq eqOk_int eqOk_int eqd_int))) (fun h1 => ?_) (fun h1 => ?_)
    · have h1 : here.2.2 = x.2.2 := by simpa using h1
      obtain ⟨m', m1, m2⟩ := stM_pop ha I M
      refine W_setM (pop_eq rfl) ⟨m', m1, X, ss, x, A, .sh (encS x), rfl, hX, I.drop ha M h1 hE, m2⟩
    · have h1 : here.2.2 ≠ x.2.2 := by simpa using h1
      obtain ⟨b, e1⟩ : ∃ b, here.2.1 = some b := by
        rcases M with ⟨b, e1, _⟩ | ⟨_, e1, _⟩
        · exact ⟨b, e1⟩
        · rw [e1] at h1; exact absurd rfl h1
      have j1 := i1 here
      rw [e1] at j1
      have j1 : dIx (encS here) (.int 1) = some (.int b) := j1
      refine W_if (ev_T (ev_op (ev_op (ev_B rfl) ev_I j1) (ev_op (ev_B rfl) ev_I (i0 x)) (d_eq eqOk_int eqOk_int eqd_int))) (fun h2 => ?_) (fun h2 => ?_)
      · have h2 : b = x.1 := by simpa using h2
        subst h2
        obtain ⟨m', m1, m2⟩ := stM_pop ha I M
        have I' := I.step ha M h1 e1
        refine W_seq (W_setM (pop_eq rfl) ?_)
        have hss : ss.length < 1000000 := by
          have := I.cnt
          obtain ⟨us, _, h⟩ := I.hst.at
          omega
        refine W_app (ev_tu (ev_cs (ev_op (ev_B rfl) ev_I (i0 x)) (ev_cs (ev_op (ev_B rfl) ev_I (i2 x)) ev_nl))) rfl (by rw [List.length_map]; exact hss) ⟨m', m1, X, ss ++ [(x.1, x.2.2)], x, A, .sh (encS x), ?_, hX, I', m2⟩
        rw [List.map_append]
        rfl
      · have h2 : b ≠ x.1 := by simpa using h2
        have near := I.near ha M
        have hl := I.hst.lt
        rw [e1] at hl
        have hl : here.1 < b := hl
        have n0 := I.hst.nn
        have xn := (I.all x List.mem_cons_self).1.nn
        obtain ⟨X', t, d1, d2, d3, d4, d5⟩ := ask_eq hb ha hn (i := 1) (e := (b + x.1) / 2) (f := gOp dDiv (gOp dAdd (gIx (gB 2) (gI 1)) (gIx (gB 5) (gI 0))) (gI 2)) (Γ := [.sh (.lst (pts.map encP)), reS pts X, .sh (encS here), .ow (ss.map encP), .ow (A.reverse.map encS ++ [encS x]), .sh (encS x)]) rfl hX (by omega) (ev_op (ev_op (ev_op (ev_B rfl) ev_I j1) (ev_op (ev_B rfl) ev_I (i0 x)) rfl) ev_I (d_div (by decide) (by decide +kernel)))
        obtain ⟨I', m', m1, m2⟩ := I.mid ha M h1 e1 h2 d3 d4 d5
        have hlen : (x :: A).length < 1000 := by
          rcases M with ⟨b', q1, q2, _⟩ | ⟨q1, _, _⟩
          · rw [e1] at q1
            cases q1
            exact q2.len (fun y hy => (I.all y hy).2) (by omega) (by omega)
          · rw [q1]; exact (show 1 < 1000 by decide)
        refine W_appM d1 rfl rfl (by simp at hlen ⊢; omega) ⟨m', m1, X', ss, here, t :: x :: A, .sh (encS x), ?_, d2, I', m2⟩
        rw [List.reverse_cons, List.map_append, eA]
        rfl
end
theorem okd_pts (pts : List (Int × Int)) : Okd 3 (.lst (pts.map encP)) := okd_map (fun a => okd_tup fun d hd => by
  simp at hd
  rcases hd with rfl | rfl
  · exact okd_int _
  · exact okd_int _) pts
theorem law_true : ∀ ns : List Int, ns.length ≤ 63 → S_law [.scr ns] = some (.bl true) := by
  intro ns hns
  obtain ⟨pt0, p1, p2, p3, p4⟩ := points_eq ns 0 9 (by decide) (by decide) (by decide)
  have c5 := cell_eq ns 5 (by decide)
  have c4 := cell_eq ns 4 (by decide)
  have asc0 : ∀ f : Int → Int, AscI (pt0.map fun a => (a.1, f a.2)) := fun f i j hij hj => by
    rw [List.length_map] at hj
    have e : ∀ k, k < pt0.length → pAt (pt0.map fun a => (a.1, f a.2)) k = ((pAt pt0 k).1, f (pAt pt0 k).2) := fun k hk => by
      unfold pAt
      rw [List.getD_eq_getElem?_getD, List.getD_eq_getElem?_getD, List.getElem?_map, List.getElem?_eq_getElem hk]
      rfl
    rw [e i (by omega), e j hj]
    exact asc_at p3 hij hj
  obtain ⟨pts, q1, hb, ha, hn⟩ : ∃ pts : List (Int × Int), sIf (gT (gOp dEq (gOp dMod (gU dInt (gCall S__law_cell (aC (gV 0) (aC (gI 5) aN)))) (gI 4)) (gI 3)))
      (sSet 1 (gL (gLc [8, 9] (gIt (gV 1)) (gTg 2 (gTo (gN 8) (gTo (gN 9) gEnd))) gYes (gTu 2 (aC (gV 8) (aC (gOp dMul (gV 9) (gOp dPow (gI 10) (gI 6))) aN))))))
      sNil [.sh (.scr ns), .sh (.lst (pt0.map encP)), .no, .no, .no, .no, .no, .no, .no, .no] = some (.nx [.sh (.scr ns), .sh (.lst (pts.map encP)), .no, .no, .no, .no, .no, .no, .no, .no]) ∧ (∀ a ∈ pts, SmQ a) ∧ AscI pts ∧ (pts.length : Int) ≤ 9 := by
    have ht : gT (gOp dEq (gOp dMod (gU dInt (gCall S__law_cell (aC (gV 0) (aC (gI 5) aN)))) (gI 4)) (gI 3)) [.sh (.scr ns), .sh (.lst (pt0.map encP)), .no, .no, .no, .no, .no, .no, .no, .no] = some (cell ns 5 % 4 == 3) :=
      ev_T (ev_op (ev_op (ev_U (ev_call (ev_cs (ev_V rfl) (ev_cs ev_I ev_nl)) c5) rfl) ev_I (d_mod (by decide))) ev_I (d_eq eqOk_int eqOk_int eqd_int))
    cases hc : cell ns 5 % 4 == 3 with
    | false =>
      refine ⟨pt0, sv_ifF (ht.trans (congrArg some hc)) rfl, fun a m => ?_, ?_, p2⟩
      · have := p4 a m
        exact ⟨⟨by omega, by omega⟩, by omega, by omega⟩
      · have := asc0 id
        simpa using this
    | true =>
      refine ⟨pt0.map fun a => (a.1, a.2 * 1000000), sv_ifT (ht.trans (congrArg some hc)) ?_, fun a m => ?_, asc0 (· * 1000000), by rw [List.length_map]; exact p2⟩
      · refine (sv_set (ev_L (ev_lc (ev_it (ev_V rfl)) (by rw [List.length_map]; omega) (compL_map pt0 encP (fun a => encP (a.1, a.2 * 1000000)) fun a m => ⟨_, rfl, ?_⟩)))).trans ?_
        · have := p4 a m
          exact ev_tu (ev_cs (ev_V rfl) (ev_cs (ev_op (ev_V rfl) (ev_op ev_I ev_I (d_pow (by decide))) (d_mul (mulOk_l (by omega) (by omega)))) ev_nl))
        · rw [List.map_map]
          rfl
      · obtain ⟨c, m', rfl⟩ := List.mem_map.mp m
        have := p4 c m'
        show SmQ (c.1, c.2 * 1000000)
        exact ⟨⟨by show _ < c.1; omega, by show c.1 < _; omega⟩, by show _ < c.2 * 1000000; omega, by show c.2 * 1000000 < _; omega⟩
  have hn' : pts.length < 10000 := by omega
  have m0 := Int.emod_nonneg (cell ns 4) (show (6 : Int) ≠ 0 by decide)
  obtain ⟨E, e1, e2, ⟨c, e3, e4⟩, e5⟩ := least_eq hb ha hn' (1 + cell ns 4 % 6) (by omega)
  obtain ⟨ss, s1, s2, s3, s4, s5⟩ := stair_eq hb ha hn'
  obtain ⟨cE, f1, f2, f3, f4⟩ := lcount_eq hb ha hn' E
  have cc : cE = c := e3.uniq f2
  subst cc
  refine run_Weq ?_
  show W B_law [.sh (.scr ns), .no, .no, .no, .no, .no, .no, .no, .no, .no] _
  unfold B_law
  refine wq_set (ev_call (ev_cs (ev_V rfl) (ev_cs ev_I (ev_cs ev_I ev_nl))) p1) ?_
  walk_at "ev norm"
  refine W_seq ⟨_, q1, ?_⟩
  show W _ [.sh (.scr ns), .sh (.lst (pts.map encP)), .no, .no, .no, .no, .no, .no, .no, .no] _
  refine wq_set (ev_op ev_I (ev_op (ev_U (ev_call (ev_cs (ev_V rfl) (ev_cs ev_I ev_nl)) c4) rfl) ev_I (d_mod (by decide))) d_add) ?_
  walk_at "ev norm"
  refine wq_set (ev_L (ev_UL (ev_B rfl) rfl)) ?_
  walk_at "ev norm"
  refine wq_set (ev_call (ev_cs (ev_V rfl) (ev_cs (ev_V rfl) ev_nl)) e1) ?_
  walk_at "ev norm"
  have lc : ∀ (Γ : DEnv) (f : Ex) (e k : Int), Γ[1]? = some (.sh (.lst (pts.map encP))) → f Γ = some (.int e) → S__law_count [.lst (pts.map encP), .int e] = some (.int k) → gCall S__law_count (aC (gV 1) (aC f aN)) Γ = some (.int k) := fun Γ f e k h1 h2 h3 => ev_call (ev_cs (ev_V h1) (ev_cs h2 ev_nl)) h3
  refine wq_ifN (ev_or (b := false) (c := false) (ev_not (b := true) (ev_Tru (ev_U (ev_B rfl) rfl) rfl)) ((ev_or (ev_T (ev_op (ev_V rfl) ev_I rfl)) (ev_T (ev_op (lc _ _ _ _ rfl (ev_V rfl) f1) (ev_V rfl) rfl))).trans ?_)) rfl ?_
  · have h1 : ¬ E < 0 := by omega
    have h2 : ¬ cE > 1 + cell ns (Int.toNat 4) % 6 := by
      show ¬ cE > 1 + cell ns 4 % 6
      omega
    rw [decide_eq_false h1, decide_eq_false h2]
    rfl
  have hT : gAnd (gT (gOp dGt (gV 4) (gI 0))) (gT (gOp dLe (gCall S__law_count (aC (gV 1) (aC (gOp dSub (gV 4) (gI 1)) aN))) (gV 2))) [.sh (.scr ns), .sh (.lst (pts.map encP)), .sh (.int (1 + cell ns 4 % 6)), .sh (.lst (pts.map encP)), .sh (.int E), .no, .no, .no, .no, .no] = some false := by
    by_cases z : 0 < E
    · obtain ⟨c', g1, g2⟩ := e5 z
      obtain ⟨k, k1, k2, _⟩ := lcount_eq hb ha hn' (E - 1)
      have : k = c' := g1.uniq k2
      subst this
      refine (ev_and (ev_T (ev_op (ev_V rfl) ev_I rfl)) (ev_T (ev_op (lc _ _ _ _ rfl (ev_op (ev_V rfl) ev_I d_sub) k1) (ev_V rfl) rfl))).trans ?_
      rw [decide_eq_false (show ¬ k ≤ 1 + cell ns 4 % 6 by omega), Bool.and_false]
    · refine ev_andF (ev_T (b := false) ((ev_op (ev_V rfl) ev_I rfl).trans ?_))
      rw [decide_eq_false (show ¬ E > 0 by omega)]
  refine wq_ifN hT rfl ?_
  refine wq_set (ev_call (ev_cs (ev_V rfl) ev_nl) s1) ?_
  walk_at "ev norm"
  obtain ⟨c0, g1, g2⟩ := s3.fst
  obtain ⟨k0, k1, k2, _⟩ := lcount_eq hb ha hn' 0
  have : k0 = c0 := g2.uniq k2
  subst this
  have ix0 : dIx (.lst (ss.map encP)) (.int 0) = some (.tup [.int 0, .int k0]) := d_ixC (f := encP) (k := 0) g1 rfl
  have okt : Okd 2 (.tup [.int 0, .int k0]) := okd_tup fun d hd => by
    simp at hd
    rcases hd with rfl | rfl
    · exact okd_int _
    · exact okd_int _
  refine wq_ifN (ev_or (b := false) (c := false) (ev_T (ev_op (ev_B rfl) (ev_B rfl) (ne_same (okd_pts pts) (by decide)))) (ev_or (b := false) (c := false) (ev_not (b := true) (ev_Tru (ev_U (ev_B rfl) rfl) rfl)) (ev_or (b := false) (c := false) (ev_T ((ev_op (ev_U (ev_B rfl) (by rw [d_lenL, List.length_map])) ev_I (d_eq eqOk_int eqOk_int eqd_int)).trans ?_)) (ev_T (ev_op (ev_op (ev_B rfl) ev_I ix0) (ev_tu (ev_cs ev_I (ev_cs (lc _ _ _ _ rfl ev_I k1) ev_nl))) (ne_same okt (by decide))))))) rfl ?_
  · have : ((ss.length : Int) == 0) = false := by
      rw [beq_eq_false_iff_ne]
      omega
    rw [this]
  have ixs : ∀ k, k < ss.length → dIx (.lst (ss.map encP)) (.int (k : Nat)) = some (encP (pAt ss k)) := fun k hk => ixp hk rfl
  refine wq_ifN (b := false) (ev_T ((ev_op (ev_op (ev_op (ev_B rfl) (ev_op (ev_U (ev_B rfl) (by rw [d_lenL, List.length_map])) ev_I d_sub) (ixp (k := ss.length - 1) (by omega) (by omega))) ev_I (show dIx (encP (pAt ss (ss.length - 1))) (.int 1) = some (.int (pAt ss (ss.length - 1)).2) from rfl)) (ev_A (ev_cs ev_I (ev_cs (ev_U (ev_B rfl) (by rw [d_lenL, List.length_map])) ev_nl)) (show dMin2 [.int 1, .int pts.length] = some (.int (if (pts.length : Int) < 1 then (pts.length : Int) else 1)) from rfl)) (d_ne eqOk_int eqOk_int eqd_int)).trans ?_)) rfl ?_
  · rw [s4]
    have : (if pts.length = 0 then (0 : Int) else 1) = if (pts.length : Int) < 1 then (pts.length : Int) else 1 := by
      split <;> split <;> omega
    rw [this]
    simp
  refine wq_rng (lo := 1) (n := ss.length - 1) (fun k Γ => ∃ s4 s6 s7, Γ = [.sh (.scr ns), .sh (.lst (pts.map encP)), .sh (.int (1 + cell ns 4 % 6)), .sh (.lst (pts.map encP)), s4, .sh (.lst (ss.map encP)), s6, s7, .no, .no]) ?_ ⟨_, _, _, rfl⟩ ?_ ?_
  · refine (ev_rng2 (m := 1) (j := ss.length) (ev_cs ev_I (ev_cs (ev_U (ev_B rfl) (by rw [d_lenL, List.length_map])) ev_nl)) (by omega) (by omega) (by omega) (by omega)).trans ?_
    have z : ((ss.length : Int) - 1).toNat = ss.length - 1 := by omega
    rw [z]
  · rintro k Γ hk ⟨t4, t6, t7, rfl⟩
    refine ⟨_, rfl, ?_⟩
    walk_at "ev norm"
    obtain ⟨o1, o2, o3, o4⟩ := s3.ok k (by omega)
    obtain ⟨a, a1, a2, _⟩ := lcount_eq hb ha hn' (pAt ss (k + 1)).1
    have ea : a = (pAt ss (k + 1)).2 := o2.uniq a2
    subst ea
    obtain ⟨b, b1, b2, _⟩ := lcount_eq hb ha hn' ((pAt ss (k + 1)).1 - 1)
    have eb : b = (pAt ss k).2 := o4.uniq b2
    subst eb
    refine wq_unp (ev_op (ev_B rfl) (ev_V rfl) (ixp (k := k + 1) (by omega) (by omega))) (Γ1 := [.sh (.scr ns), .sh (.lst (pts.map encP)), .sh (.int (1 + cell ns 4 % 6)), .sh (.lst (pts.map encP)), .sh (.int (pAt ss (k + 1)).1), .sh (.lst (ss.map encP)), .sh (.int (1 + (k : Nat))), .sh (.int (pAt ss (k + 1)).2), .no, .no]) rfl ?_
    have prev : ∀ j, dIx (encP (pAt ss k)) (.int j) = dIx (encP (pAt ss k)) (.int j) → gIx (gB 5) (gOp dSub (gV 6) (gI 1)) [.sh (.scr ns), .sh (.lst (pts.map encP)), .sh (.int (1 + cell ns 4 % 6)), .sh (.lst (pts.map encP)), .sh (.int (pAt ss (k + 1)).1), .sh (.lst (ss.map encP)), .sh (.int (1 + (k : Nat))), .sh (.int (pAt ss (k + 1)).2), .no, .no] = some (encP (pAt ss k)) := fun _ _ => ev_op (ev_B rfl) (ev_op (ev_V rfl) ev_I d_sub) (ixp (k := k) (by omega) (by omega))
    have prev := prev 0 rfl
    refine wq_ifN (ev_or (b := false) (c := false) (ev_T ((ev_op (ev_V rfl) (ev_op prev ev_I (show dIx (encP (pAt ss k)) (.int 0) = some (.int (pAt ss k).1) from rfl)) rfl).trans ?_)) (ev_or (b := false) (c := false) (ev_T (ev_op (lc _ _ _ _ rfl (ev_V rfl) a1) (ev_B rfl) (ne_same (okd_int _) (by decide)))) (ev_T ((ev_op (ev_V rfl) (ev_op prev ev_I (show dIx (encP (pAt ss k)) (.int 1) = some (.int (pAt ss k).2) from rfl)) rfl).trans ?_)))) rfl ?_
    · rw [decide_eq_false (show ¬ (pAt ss (k + 1)).1 ≤ (pAt ss k).1 by omega)]
    · rw [decide_eq_false (show ¬ (pAt ss (k + 1)).2 ≥ (pAt ss k).2 by omega)]
    refine W_ifR (ev_T (b := false) (ev_op (lc _ _ _ _ rfl (ev_op (ev_V rfl) ev_I d_sub) b1) (ev_op prev ev_I (show dIx (encP (pAt ss k)) (.int 1) = some (.int (pAt ss k).2) from rfl)) (ne_same (okd_int _) (by decide)))) (fun z => by cases z) fun _ => ⟨_, _, _, rfl⟩
  · rintro Γ ⟨t4, t6, t7, rfl⟩
    exact W_ret ev_C rfl
end K08

namespace K08
open PySem L2 DL
def spLaw (K : PySem.W.Frag) : Sp := fun vs H Q _ => ∃ (a : Addr) (ns : List Int), vs = [.ref a] ∧ SqL K H a (ns.map V.int) ∧ ns.length ≤ 63 ∧ ∀ H', Q (.bl true) H'
theorem all_mk {P : Program} {w : World} {K : PySem.W.Frag} {h : Heap} {mg : Str → Option Value} {fa : Addr} (X : K.In h) (G : h.Ns mainGlobals mg) (hfa : mg "law" = some (.ref fa))
    {C4 : Addr} (gC4 : PySem.W.nsIn K mainGlobals "Strip" = some (some (.ref C4))) (pg4 : PySem.W.plainGet K C4 Str.empty = true) (hd4 : PySem.W.hasDictIn K C4 = true) (po4 : PySem.W.plainOver K C4 = true) (sa4 : PySem.W.findIn K (.ref C4) "__setattr__" = some (some (.builtin "object.__setattr__")))
    (nf4_0 : PySem.W.findIn K (.ref C4) "_upper" = some none)
    (nf4_1 : PySem.W.findIn K (.ref C4) "_lower" = some none)
    (nf4_2 : PySem.W.findIn K (.ref C4) "_greatest" = some none)
    (mk4 : PySem.W.makesIn K C4 = true) (kc4 : PySem.W.keepIn K (.ref C4) = true)
    {C14 : Addr} (gC14 : PySem.W.nsIn K mainGlobals "Row" = some (some (.ref C14))) (pg14 : PySem.W.plainGet K C14 Str.empty = true) (hd14 : PySem.W.hasDictIn K C14 = true) (po14 : PySem.W.plainOver K C14 = true) (sa14 : PySem.W.findIn K (.ref C14) "__setattr__" = some (some (.builtin "object.__setattr__")))
    (nf14_0 : PySem.W.findIn K (.ref C14) "errors" = some none)
    (nf14_1 : PySem.W.findIn K (.ref C14) "_strip" = some none)
    (mk14 : PySem.W.makesIn K C14 = true) (kc14 : PySem.W.keepIn K (.ref C14) = true)
    {C15 : Addr} (gC15 : PySem.W.nsIn K mainGlobals "Reaches" = some (some (.ref C15))) (pg15 : PySem.W.plainGet K C15 Str.empty = true) (hd15 : PySem.W.hasDictIn K C15 = true) (po15 : PySem.W.plainOver K C15 = true) (sa15 : PySem.W.findIn K (.ref C15) "__setattr__" = some (some (.builtin "object.__setattr__")))
    (nf15_0 : PySem.W.findIn K (.ref C15) "_points" = some none)
    (nf15_1 : PySem.W.findIn K (.ref C15) "_rows" = some none)
    (mk15 : PySem.W.makesIn K C15 = true) (kc15 : PySem.W.keepIn K (.ref C15) = true)
    {f1 : Addr} {od1 an1 : Option Addr} {sl1 : Array (Option Value)} {oc1 kV1 dc1 pm1 cd1 ct1 : Value} (a1 : PySem.W.nsIn K mainGlobals "kept" = some (some (.ref f1))) (l1 : K.lookup f1 = some ⟨oc1, od1, .func (PySem.W.fnOf "kept" "kept" (defArgs s_kept) (defBody s_kept) (defScope s_kept) .none kV1 dc1 pm1 an1 cd1 ct1), sl1⟩) (c1 : PySem.W.codeIn K cd1 "kept" = true) (k1 : PySem.W.keepIn K (.ref f1) = true)
    {f2 : Addr} {od2 an2 : Option Addr} {sl2 : Array (Option Value)} {oc2 kV2 dc2 pm2 cd2 ct2 : Value} (a2 : PySem.W.nsIn K mainGlobals "farthest" = some (some (.ref f2))) (l2 : K.lookup f2 = some ⟨oc2, od2, .func (PySem.W.fnOf "farthest" "farthest" (defArgs s_farthest) (defBody s_farthest) (defScope s_farthest) .none kV2 dc2 pm2 an2 cd2 ct2), sl2⟩) (c2 : PySem.W.codeIn K cd2 "farthest" = true) (k2 : PySem.W.keepIn K (.ref f2) = true)
    {f3 : Addr} {od3 an3 : Option Addr} {sl3 : Array (Option Value)} {oc3 kV3 dc3 pm3 cd3 ct3 : Value} (a3 : PySem.W.nsIn K mainGlobals "reduced" = some (some (.ref f3))) (l3 : K.lookup f3 = some ⟨oc3, od3, .func (PySem.W.fnOf "reduced" "reduced" (defArgs s_reduced) (defBody s_reduced) (defScope s_reduced) .none kV3 dc3 pm3 an3 cd3 ct3), sl3⟩) (c3 : PySem.W.codeIn K cd3 "reduced" = true) (k3 : PySem.W.keepIn K (.ref f3) = true)
    {f4 : Addr} {od4 an4 : Option Addr} {sl4 : Array (Option Value)} {oc4 kV4 dc4 pm4 cd4 ct4 : Value} (a4 : PySem.W.nsIn K mainGlobals "least_error_for" = some (some (.ref f4))) (l4 : K.lookup f4 = some ⟨oc4, od4, .func (PySem.W.fnOf "least_error_for" "least_error_for" (defArgs s_least_error_for) (defBody s_least_error_for) (defScope s_least_error_for) .none kV4 dc4 pm4 an4 cd4 ct4), sl4⟩) (c4 : PySem.W.codeIn K cd4 "least_error_for" = true) (k4 : PySem.W.keepIn K (.ref f4) = true)
    {f5 : Addr} {od5 an5 : Option Addr} {sl5 : Array (Option Value)} {oc5 kV5 dc5 pm5 cd5 ct5 : Value} (a5 : PySem.W.nsIn K mainGlobals "middle_line" = some (some (.ref f5))) (l5 : K.lookup f5 = some ⟨oc5, od5, .func (PySem.W.fnOf "middle_line" "middle_line" (defArgs s_middle_line) (defBody s_middle_line) (defScope s_middle_line) .none kV5 dc5 pm5 an5 cd5 ct5), sl5⟩) (c5 : PySem.W.codeIn K cd5 "middle_line" = true) (k5 : PySem.W.keepIn K (.ref f5) = true)
    {f6 : Addr} {od6 an6 : Option Addr} {sl6 : Array (Option Value)} {oc6 kV6 dc6 pm6 cd6 ct6 : Value} (a6 : PySem.W.nsIn K mainGlobals "deviation_under" = some (some (.ref f6))) (l6 : K.lookup f6 = some ⟨oc6, od6, .func (PySem.W.fnOf "deviation_under" "deviation_under" (defArgs s_deviation_under) (defBody s_deviation_under) (defScope s_deviation_under) .none kV6 dc6 pm6 an6 cd6 ct6), sl6⟩) (c6 : PySem.W.codeIn K cd6 "deviation_under" = true) (k6 : PySem.W.keepIn K (.ref f6) = true)
    {f7 : Addr} {od7 an7 : Option Addr} {sl7 : Array (Option Value)} {oc7 kV7 dc7 pm7 cd7 ct7 : Value} (a7 : PySem.W.findIn K (.ref C15) "__init__" = some (some (.ref f7))) (i7 : PySem.W.isFn K (.ref f7) = true) (l7 : K.lookup f7 = some ⟨oc7, od7, .func (PySem.W.fnOf "__init__" "Reaches.__init__" (defArgs s_Reaches___init__) (defBody s_Reaches___init__) (defScope s_Reaches___init__) .none kV7 dc7 pm7 an7 cd7 ct7), sl7⟩) (c7 : PySem.W.codeIn K cd7 "Reaches.__init__" = true) (k7 : PySem.W.keepIn K (.ref f7) = true)
    {f8 : Addr} {od8 an8 : Option Addr} {sl8 : Array (Option Value)} {oc8 kV8 dc8 pm8 cd8 ct8 : Value} (a8 : PySem.W.findIn K (.ref C4) "__init__" = some (some (.ref f8))) (i8 : PySem.W.isFn K (.ref f8) = true) (l8 : K.lookup f8 = some ⟨oc8, od8, .func (PySem.W.fnOf "__init__" "Strip.__init__" (defArgs s_Strip___init__) (defBody s_Strip___init__) (defScope s_Strip___init__) .none kV8 dc8 pm8 an8 cd8 ct8), sl8⟩) (c8 : PySem.W.codeIn K cd8 "Strip.__init__" = true) (k8 : PySem.W.keepIn K (.ref f8) = true)
    {f9 : Addr} {od9 an9 : Option Addr} {sl9 : Array (Option Value)} {oc9 kV9 dc9 pm9 cd9 ct9 : Value} (a9 : PySem.W.findIn K (.ref C14) "__init__" = some (some (.ref f9))) (i9 : PySem.W.isFn K (.ref f9) = true) (l9 : K.lookup f9 = some ⟨oc9, od9, .func (PySem.W.fnOf "__init__" "Row.__init__" (defArgs s_Row___init__) (defBody s_Row___init__) (defScope s_Row___init__) .none kV9 dc9 pm9 an9 cd9 ct9), sl9⟩) (c9 : PySem.W.codeIn K cd9 "Row.__init__" = true) (k9 : PySem.W.keepIn K (.ref f9) = true)
    {f10 : Addr} {od10 an10 : Option Addr} {sl10 : Array (Option Value)} {oc10 kV10 dc10 pm10 cd10 ct10 : Value} (a10 : PySem.W.findIn K (.ref C4) "take" = some (some (.ref f10))) (i10 : PySem.W.isFn K (.ref f10) = true) (l10 : K.lookup f10 = some ⟨oc10, od10, .func (PySem.W.fnOf "take" "Strip.take" (defArgs s_Strip_take) (defBody s_Strip_take) (defScope s_Strip_take) .none kV10 dc10 pm10 an10 cd10 ct10), sl10⟩) (c10 : PySem.W.codeIn K cd10 "Strip.take" = true) (k10 : PySem.W.keepIn K (.ref f10) = true)
    {f11 : Addr} {od11 an11 : Option Addr} {sl11 : Array (Option Value)} {oc11 kV11 dc11 pm11 cd11 ct11 : Value} (a11 : PySem.W.findIn K (.ref C4) "step_with" = some (some (.ref f11))) (i11 : PySem.W.isFn K (.ref f11) = true) (l11 : K.lookup f11 = some ⟨oc11, od11, .func (PySem.W.fnOf "step_with" "Strip.step_with" (defArgs s_Strip_step_with) (defBody s_Strip_step_with) (defScope s_Strip_step_with) .none kV11 dc11 pm11 an11 cd11 ct11), sl11⟩) (c11 : PySem.W.codeIn K cd11 "Strip.step_with" = true) (k11 : PySem.W.keepIn K (.ref f11) = true)
    {f12 : Addr} {od12 an12 : Option Addr} {sl12 : Array (Option Value)} {oc12 kV12 dc12 pm12 cd12 ct12 : Value} (a12 : PySem.W.findIn K (.ref C14) "take" = some (some (.ref f12))) (i12 : PySem.W.isFn K (.ref f12) = true) (l12 : K.lookup f12 = some ⟨oc12, od12, .func (PySem.W.fnOf "take" "Row.take" (defArgs s_Row_take) (defBody s_Row_take) (defScope s_Row_take) .none kV12 dc12 pm12 an12 cd12 ct12), sl12⟩) (c12 : PySem.W.codeIn K cd12 "Row.take" = true) (k12 : PySem.W.keepIn K (.ref f12) = true)
    {f13 : Addr} {od13 an13 : Option Addr} {sl13 : Array (Option Value)} {oc13 kV13 dc13 pm13 cd13 ct13 : Value} (a13 : PySem.W.findIn K (.ref C15) "_row" = some (some (.ref f13))) (i13 : PySem.W.isFn K (.ref f13) = true) (l13 : K.lookup f13 = some ⟨oc13, od13, .func (PySem.W.fnOf "_row" "Reaches._row" (defArgs s_Reaches__row) (defBody s_Reaches__row) (defScope s_Reaches__row) .none kV13 dc13 pm13 an13 cd13 ct13), sl13⟩) (c13 : PySem.W.codeIn K cd13 "Reaches._row" = true) (k13 : PySem.W.keepIn K (.ref f13) = true)
    {f14 : Addr} {od14 an14 : Option Addr} {sl14 : Array (Option Value)} {oc14 kV14 dc14 pm14 cd14 ct14 : Value} (a14 : PySem.W.findIn K (.ref C14) "length" = some (some (.ref f14))) (i14 : PySem.W.isFn K (.ref f14) = true) (l14 : K.lookup f14 = some ⟨oc14, od14, .func (PySem.W.fnOf "length" "Row.length" (defArgs s_Row_length) (defBody s_Row_length) (defScope s_Row_length) .none kV14 dc14 pm14 an14 cd14 ct14), sl14⟩) (c14 : PySem.W.codeIn K cd14 "Row.length" = true) (k14 : PySem.W.keepIn K (.ref f14) = true)
    {f15 : Addr} {od15 an15 : Option Addr} {sl15 : Array (Option Value)} {oc15 kV15 dc15 pm15 cd15 ct15 : Value} (a15 : PySem.W.findIn K (.ref C15) "stretch" = some (some (.ref f15))) (i15 : PySem.W.isFn K (.ref f15) = true) (l15 : K.lookup f15 = some ⟨oc15, od15, .func (PySem.W.fnOf "stretch" "Reaches.stretch" (defArgs s_Reaches_stretch) (defBody s_Reaches_stretch) (defScope s_Reaches_stretch) .none kV15 dc15 pm15 an15 cd15 ct15), sl15⟩) (c15 : PySem.W.codeIn K cd15 "Reaches.stretch" = true) (k15 : PySem.W.keepIn K (.ref f15) = true)
    {f16 : Addr} {od16 an16 : Option Addr} {sl16 : Array (Option Value)} {oc16 kV16 dc16 pm16 cd16 ct16 : Value} (a16 : PySem.W.nsIn K mainGlobals "enough_error" = some (some (.ref f16))) (l16 : K.lookup f16 = some ⟨oc16, od16, .func (PySem.W.fnOf "enough_error" "enough_error" (defArgs s_enough_error) (defBody s_enough_error) (defScope s_enough_error) .none kV16 dc16 pm16 an16 cd16 ct16), sl16⟩) (c16 : PySem.W.codeIn K cd16 "enough_error" = true) (k16 : PySem.W.keepIn K (.ref f16) = true)
    {f17 : Addr} {od17 an17 : Option Addr} {sl17 : Array (Option Value)} {oc17 kV17 dc17 pm17 cd17 ct17 : Value} (a17 : PySem.W.nsIn K mainGlobals "least_error" = some (some (.ref f17))) (l17 : K.lookup f17 = some ⟨oc17, od17, .func (PySem.W.fnOf "least_error" "least_error" (defArgs s_least_error) (defBody s_least_error) (defScope s_least_error) .none kV17 dc17 pm17 an17 cd17 ct17), sl17⟩) (c17 : PySem.W.codeIn K cd17 "least_error" = true) (k17 : PySem.W.keepIn K (.ref f17) = true)
    {f18 : Addr} {od18 an18 : Option Addr} {sl18 : Array (Option Value)} {oc18 kV18 dc18 pm18 cd18 ct18 : Value} (a18 : PySem.W.nsIn K mainGlobals "staircase" = some (some (.ref f18))) (l18 : K.lookup f18 = some ⟨oc18, od18, .func (PySem.W.fnOf "staircase" "staircase" (defArgs s_staircase) (defBody s_staircase) (defScope s_staircase) .none kV18 dc18 pm18 an18 cd18 ct18), sl18⟩) (c18 : PySem.W.codeIn K cd18 "staircase" = true) (k18 : PySem.W.keepIn K (.ref f18) = true)
    {f19 : Addr} {od19 an19 : Option Addr} {sl19 : Array (Option Value)} {oc19 kV19 dc19 pm19 cd19 ct19 : Value} (a19 : PySem.W.nsIn K mainGlobals "_law_cell" = some (some (.ref f19))) (l19 : K.lookup f19 = some ⟨oc19, od19, .func (PySem.W.fnOf "_law_cell" "_law_cell" (defArgs s__law_cell) (defBody s__law_cell) (defScope s__law_cell) .none kV19 dc19 pm19 an19 cd19 ct19), sl19⟩) (c19 : PySem.W.codeIn K cd19 "_law_cell" = true) (k19 : PySem.W.keepIn K (.ref f19) = true)
    {f20 : Addr} {od20 an20 : Option Addr} {sl20 : Array (Option Value)} {oc20 kV20 dc20 pm20 cd20 ct20 : Value} (a20 : PySem.W.nsIn K mainGlobals "_law_digits" = some (some (.ref f20))) (l20 : K.lookup f20 = some ⟨oc20, od20, .func (PySem.W.fnOf "_law_digits" "_law_digits" (defArgs s__law_digits) (defBody s__law_digits) (defScope s__law_digits) .none kV20 dc20 pm20 an20 cd20 ct20), sl20⟩) (c20 : PySem.W.codeIn K cd20 "_law_digits" = true) (k20 : PySem.W.keepIn K (.ref f20) = true)
    {f21 : Addr} {od21 an21 : Option Addr} {sl21 : Array (Option Value)} {oc21 kV21 dc21 pm21 cd21 ct21 : Value} (a21 : PySem.W.nsIn K mainGlobals "_law_points" = some (some (.ref f21))) (l21 : K.lookup f21 = some ⟨oc21, od21, .func (PySem.W.fnOf "_law_points" "_law_points" (defArgs s__law_points) (defBody s__law_points) (defScope s__law_points) .none kV21 dc21 pm21 an21 cd21 ct21), sl21⟩) (c21 : PySem.W.codeIn K cd21 "_law_points" = true) (k21 : PySem.W.keepIn K (.ref f21) = true)
    {f22 : Addr} {od22 an22 : Option Addr} {sl22 : Array (Option Value)} {oc22 kV22 dc22 pm22 cd22 ct22 : Value} (a22 : PySem.W.nsIn K mainGlobals "_law_three" = some (some (.ref f22))) (l22 : K.lookup f22 = some ⟨oc22, od22, .func (PySem.W.fnOf "_law_three" "_law_three" (defArgs s__law_three) (defBody s__law_three) (defScope s__law_three) .none kV22 dc22 pm22 an22 cd22 ct22), sl22⟩) (c22 : PySem.W.codeIn K cd22 "_law_three" = true) (k22 : PySem.W.keepIn K (.ref f22) = true)
    {f23 : Addr} {od23 an23 : Option Addr} {sl23 : Array (Option Value)} {oc23 kV23 dc23 pm23 cd23 ct23 : Value} (a23 : PySem.W.nsIn K mainGlobals "_law_fits" = some (some (.ref f23))) (l23 : K.lookup f23 = some ⟨oc23, od23, .func (PySem.W.fnOf "_law_fits" "_law_fits" (defArgs s__law_fits) (defBody s__law_fits) (defScope s__law_fits) .none kV23 dc23 pm23 an23 cd23 ct23), sl23⟩) (c23 : PySem.W.codeIn K cd23 "_law_fits" = true) (k23 : PySem.W.keepIn K (.ref f23) = true)
    {f24 : Addr} {od24 an24 : Option Addr} {sl24 : Array (Option Value)} {oc24 kV24 dc24 pm24 cd24 ct24 : Value} (a24 : PySem.W.nsIn K mainGlobals "_law_starts" = some (some (.ref f24))) (l24 : K.lookup f24 = some ⟨oc24, od24, .func (PySem.W.fnOf "_law_starts" "_law_starts" (defArgs s__law_starts) (defBody s__law_starts) (defScope s__law_starts) .none kV24 dc24 pm24 an24 cd24 ct24), sl24⟩) (c24 : PySem.W.codeIn K cd24 "_law_starts" = true) (k24 : PySem.W.keepIn K (.ref f24) = true)
    {f25 : Addr} {od25 an25 : Option Addr} {sl25 : Array (Option Value)} {oc25 kV25 dc25 pm25 cd25 ct25 : Value} (a25 : PySem.W.nsIn K mainGlobals "_law_count" = some (some (.ref f25))) (l25 : K.lookup f25 = some ⟨oc25, od25, .func (PySem.W.fnOf "_law_count" "_law_count" (defArgs s__law_count) (defBody s__law_count) (defScope s__law_count) .none kV25 dc25 pm25 an25 cd25 ct25), sl25⟩) (c25 : PySem.W.codeIn K cd25 "_law_count" = true) (k25 : PySem.W.keepIn K (.ref f25) = true)
    {f26 : Addr} {od26 an26 : Option Addr} {sl26 : Array (Option Value)} {oc26 kV26 dc26 pm26 cd26 ct26 : Value} (a26 : PySem.W.nsIn K mainGlobals "law" = some (some (.ref f26))) (l26 : K.lookup f26 = some ⟨oc26, od26, .func (PySem.W.fnOf "law" "law" (defArgs s_law) (defBody s_law) (defScope s_law) .none kV26 dc26 pm26 an26 cd26 ct26), sl26⟩) (c26 : PySem.W.codeIn K cd26 "law" = true) (k26 : PySem.W.keepIn K (.ref f26) = true)
    {f27 : Addr} {od27 an27 : Option Addr} {sl27 : Array (Option Value)} {oc27 kV27 dc27 pm27 cd27 ct27 : Value} (a27 : PySem.W.findIn K (.ref C4) "line" = some (some (.ref f27))) (i27 : PySem.W.isFn K (.ref f27) = true) (l27 : K.lookup f27 = some ⟨oc27, od27, .func (PySem.W.fnOf "line" "Strip.line" (defArgs s_Strip_line) (defBody s_Strip_line) (defScope s_Strip_line) .none kV27 dc27 pm27 an27 cd27 ct27), sl27⟩) (c27 : PySem.W.codeIn K cd27 "Strip.line" = true) (k27 : PySem.W.keepIn K (.ref f27) = true)
    (z_len : PySem.W.nsIn K mainGlobals "len" = some none)
    (z_gcd : PySem.W.nsIn K mainGlobals "gcd" = some (some (.builtin "math.gcd")))
    (z_list : PySem.W.nsIn K mainGlobals "list" = some none)
    (z_max : PySem.W.nsIn K mainGlobals "max" = some none)
    (z_min : PySem.W.nsIn K mainGlobals "min" = some none)
    (z_range : PySem.W.nsIn K mainGlobals "range" = some none)
    (z_int : PySem.W.nsIn K mainGlobals "int" = some none)
    (z_abs : PySem.W.nsIn K mainGlobals "abs" = some none)
    (z_isinstance : PySem.W.nsIn K mainGlobals "isinstance" = some none) :
    ∃ fd : FuncData, (∀ (s : Shared) (v : Value), BindsTo s fd ⟨[v], []⟩ [("script", v)]) ∧ ∀ base : Heap, K.In base → base.Ns mainGlobals mg → FnOk P w K mg base CX0 8 fa fd ["script"] (spLaw K) := by
  have e := hfa.symm.trans (PySem.W.mg_of X G a26)
  cases e
  have M_len := PySem.W.mg_none_of X G z_len
  have M_gcd := PySem.W.mg_of X G z_gcd
  have M_list := PySem.W.mg_none_of X G z_list
  have M_max := PySem.W.mg_none_of X G z_max
  have M_min := PySem.W.mg_none_of X G z_min
  have M_range := PySem.W.mg_none_of X G z_range
  have M_int := PySem.W.mg_none_of X G z_int
  have M_abs := PySem.W.mg_none_of X G z_abs
  have M_isinstance := PySem.W.mg_none_of X G z_isinstance
  have M_ck4 : CK K mg 4 C4 := ⟨PySem.W.mg_of X G gC4, ⟨pg4, hd4, po4, sa4⟩, by
    intro x hx
    replace hx : x ∈ (["_upper", "_lower", "_greatest"] : List Str) := hx
    simp only [List.mem_cons, List.not_mem_nil, or_false] at hx
    rcases hx with hx | hx | hx
    all_goals (subst hx; assumption)⟩
  have M_ck14 : CK K mg 14 C14 := ⟨PySem.W.mg_of X G gC14, ⟨pg14, hd14, po14, sa14⟩, by
    intro x hx
    replace hx : x ∈ (["errors", "_strip"] : List Str) := hx
    simp only [List.mem_cons, List.not_mem_nil, or_false] at hx
    rcases hx with hx | hx
    all_goals (subst hx; assumption)⟩
  have M_ck15 : CK K mg 15 C15 := ⟨PySem.W.mg_of X G gC15, ⟨pg15, hd15, po15, sa15⟩, by
    intro x hx
    replace hx : x ∈ (["_points", "_rows"] : List Str) := hx
    simp only [List.mem_cons, List.not_mem_nil, or_false] at hx
    rcases hx with hx | hx
    all_goals (subst hx; assumption)⟩
  have F1 := fun_mk (st := s_kept) l1 c1 k1
  have b1 := F1.binds (ps := ["chain", "vertex", "side"]) fun _ _ _ _ _ _ us hl => match us, hl with | [_, _, _], _ => rfl
  have C_kept : ∀ base : Heap, CalK P w K mg base "kept" 1 ["chain", "vertex", "side"] [true, false, false] S_kept := fun base => ⟨f1, _, ok_kept F1 M_len, PySem.W.mg_of X G a1, k1, b1⟩
  have F2 := fun_mk (st := s_farthest) l2 c2 k2
  have b2 := F2.binds (ps := ["chain", "rise", "run"]) fun _ _ _ _ _ _ us hl => match us, hl with | [_, _, _], _ => rfl
  have C_farthest : ∀ base : Heap, CalK P w K mg base "farthest" 1 ["chain", "rise", "run"] [true, false, false] S_farthest := fun base => ⟨f2, _, ok_farthest F2 M_len, PySem.W.mg_of X G a2, k2, b2⟩
  have F3 := fun_mk (st := s_reduced) l3 c3 k3
  have b3 := F3.binds (ps := ["line"]) fun _ _ _ _ _ _ us hl => match us, hl with | [_], _ => rfl
  have C_reduced : ∀ base : Heap, Cal P w K mg base "reduced" 1 ["line"] S_reduced := fun base => ⟨f3, _, ok_reduced F3 M_gcd, PySem.W.mg_of X G a3, k3, b3⟩
  have F4 := fun_mk (st := s_least_error_for) l4 c4 k4
  have b4 := F4.binds (ps := ["deviation"]) fun _ _ _ _ _ _ us hl => match us, hl with | [_], _ => rfl
  have C_least_error_for : ∀ base : Heap, Cal P w K mg base "least_error_for" 1 ["deviation"] S_least_error_for := fun base => ⟨f4, _, ok_least_error_for F4, PySem.W.mg_of X G a4, k4, b4⟩
  have F5 := fun_mk (st := s_middle_line) l5 c5 k5
  have b5 := F5.binds (ps := ["deviation"]) fun _ _ _ _ _ _ us hl => match us, hl with | [_], _ => rfl
  have C_middle_line : ∀ base : Heap, Cal P w K mg base "middle_line" 2 ["deviation"] S_middle_line := fun base => ⟨f5, _, ok_middle_line F5 (C_reduced base), PySem.W.mg_of X G a5, k5, b5⟩
  have F6 := fun_mk (st := s_deviation_under) l6 c6 k6
  have b6 := F6.binds (ps := ["first", "vertex", "other", "side"]) fun _ _ _ _ _ _ us hl => match us, hl with | [_, _, _, _], _ => rfl
  have C_deviation_under : ∀ base : Heap, CalK P w K mg base "deviation_under" 2 ["first", "vertex", "other", "side"] [false, false, true, false] S_deviation_under := fun base => ⟨f6, _, ok_deviation_under F6 (C_farthest base), PySem.W.mg_of X G a6, k6, b6⟩
  have F7 := fun_mk (st := s_Reaches___init__) l7 c7 k7
  have b7 := F7.binds (ps := ["self", "points"]) fun _ _ _ _ _ _ us hl => match us, hl with | [_, _], _ => rfl
  have K_Reaches : ∀ base : Heap, Mak P w K mg base 15 1 ["self", "points"] S_Reaches___init__ := fun base => ⟨C15, f7, _, _, _, rfl, PySem.W.mg_of X G gC15, ⟨mk15, a7, i7, kc15⟩, ok_Reaches___init__ F7 M_list M_ck15, b7⟩
  have F8 := fun_mk (st := s_Strip___init__) l8 c8 k8
  have b8 := F8.binds (ps := ["self"]) fun _ _ _ _ _ _ us hl => match us, hl with | [_], _ => rfl
  have K_Strip : ∀ base : Heap, Mak P w K mg base 4 1 ["self"] S_Strip___init__ := fun base => ⟨C4, f8, _, _, _, rfl, PySem.W.mg_of X G gC4, ⟨mk4, a8, i8, kc4⟩, ok_Strip___init__ F8 M_ck4, b8⟩
  have F9 := fun_mk (st := s_Row___init__) l9 c9 k9
  have b9 := F9.binds (ps := ["self"]) fun _ _ _ _ _ _ us hl => match us, hl with | [_], _ => rfl
  have K_Row : ∀ base : Heap, Mak P w K mg base 14 3 ["self"] S_Row___init__ := fun base => ⟨C14, f9, _, _, _, rfl, PySem.W.mg_of X G gC14, ⟨mk14, a9, i9, kc14⟩, ok_Row___init__ F9 M_ck14 (K_Strip base), b9⟩
  have F10 := fun_mk (st := s_Strip_take) l10 c10 k10
  have b10 := F10.binds (ps := ["self", "vertex", "step"]) fun _ _ _ _ _ _ us hl => match us, hl with | [_, _, _], _ => rfl
  have C_Strip_take : ∀ base : Heap, MetM P w K mg base 4 "take" 1 ["self", "vertex", "step"] S_Strip_take := fun base => ⟨C4, f10, _, _, rfl, M_ck4, ⟨a10, i10, k10⟩, ok_Strip_take F10 M_ck4, b10⟩
  have F11 := fun_mk (st := s_Strip_step_with) l11 c11 k11
  have b11 := F11.binds (ps := ["self", "vertex"]) fun _ _ _ _ _ _ us hl => match us, hl with | [_, _], _ => rfl
  have C_Strip_step_with : ∀ base : Heap, MetK P w K mg base 4 "step_with" 3 ["self", "vertex"] [true, false] S_Strip_step_with := fun base => ⟨C4, f11, _, M_ck4, ⟨a11, i11, k11⟩, ok_Strip_step_with F11 M_ck4 (C_kept base) (C_deviation_under base), b11⟩
  have F12 := fun_mk (st := s_Row_take) l12 c12 k12
  have b12 := F12.binds (ps := ["self", "vertex"]) fun _ _ _ _ _ _ us hl => match us, hl with | [_, _], _ => rfl
  have C_Row_take : ∀ base : Heap, MetM P w K mg base 14 "take" 4 ["self", "vertex"] S_Row_take := fun base => ⟨C14, f12, _, _, rfl, M_ck14, ⟨a12, i12, k12⟩, ok_Row_take F12 M_ck14 (C_Strip_step_with base) (C_Strip_take base) (C_least_error_for base), b12⟩
  have F13 := fun_mk (st := s_Reaches__row) l13 c13 k13
  have b13 := F13.binds (ps := ["self", "start", "error"]) fun _ _ _ _ _ _ us hl => match us, hl with | [_, _, _], _ => rfl
  have C_Reaches__row : ∀ base : Heap, MetA P w K mg base 15 "_row" 5 ["self", "start", "error"] S_Reaches__row := fun base => ⟨C15, f13, _, _, rfl, M_ck15, ⟨a13, i13, k13⟩, ok_Reaches__row F13 M_ck15 (K_Row base) M_ck14 M_len (C_Row_take base), b13⟩
  have F14 := fun_mk (st := s_Row_length) l14 c14 k14
  have b14 := F14.binds (ps := ["self", "error"]) fun _ _ _ _ _ _ us hl => match us, hl with | [_, _], _ => rfl
  have C_Row_length : ∀ base : Heap, MetK P w K mg base 14 "length" 1 ["self", "error"] [true, false] S_Row_length := fun base => ⟨C14, f14, _, M_ck14, ⟨a14, i14, k14⟩, ok_Row_length F14 M_ck14 M_len, b14⟩
  have F15 := fun_mk (st := s_Reaches_stretch) l15 c15 k15
  have b15 := F15.binds (ps := ["self", "error"]) fun _ _ _ _ _ _ us hl => match us, hl with | [_, _], _ => rfl
  have C_Reaches_stretch : ∀ base : Heap, MetM P w K mg base 15 "stretch" 6 ["self", "error"] S_Reaches_stretch := fun base => ⟨C15, f15, _, _, rfl, M_ck15, ⟨a15, i15, k15⟩, ok_Reaches_stretch F15 M_ck15 M_len (C_Reaches__row base) (C_Row_length base) M_ck14 M_max, b15⟩
  have F16 := fun_mk (st := s_enough_error) l16 c16 k16
  have b16 := F16.binds (ps := ["points"]) fun _ _ _ _ _ _ us hl => match us, hl with | [_], _ => rfl
  have C_enough_error : ∀ base : Heap, Cal P w K mg base "enough_error" 1 ["points"] S_enough_error := fun base => ⟨f16, _, ok_enough_error F16 M_max M_min, PySem.W.mg_of X G a16, k16, b16⟩
  have F17 := fun_mk (st := s_least_error) l17 c17 k17
  have b17 := F17.binds (ps := ["points", "pieces"]) fun _ _ _ _ _ _ us hl => match us, hl with | [_, _], _ => rfl
  have C_least_error : ∀ base : Heap, Cal P w K mg base "least_error" 7 ["points", "pieces"] S_least_error := fun base => ⟨f17, _, ok_least_error F17 (K_Reaches base) (C_Reaches_stretch base) (C_enough_error base), PySem.W.mg_of X G a17, k17, b17⟩
  have F18 := fun_mk (st := s_staircase) l18 c18 k18
  have b18 := F18.binds (ps := ["points"]) fun _ _ _ _ _ _ us hl => match us, hl with | [_], _ => rfl
  have C_staircase : ∀ base : Heap, Cal P w K mg base "staircase" 7 ["points"] S_staircase := fun base => ⟨f18, _, ok_staircase F18 (K_Reaches base) (C_Reaches_stretch base) (C_enough_error base), PySem.W.mg_of X G a18, k18, b18⟩
  have F19 := fun_mk (st := s__law_cell) l19 c19 k19
  have b19 := F19.binds (ps := ["script", "k"]) fun _ _ _ _ _ _ us hl => match us, hl with | [_, _], _ => rfl
  have C__law_cell : ∀ base : Heap, Cal P w K mg base "_law_cell" 1 ["script", "k"] S__law_cell := fun base => ⟨f19, _, ok__law_cell F19 M_len, PySem.W.mg_of X G a19, k19, b19⟩
  have F20 := fun_mk (st := s__law_digits) l20 c20 k20
  have b20 := F20.binds (ps := ["cell", "many", "count"]) fun _ _ _ _ _ _ us hl => match us, hl with | [_, _, _], _ => rfl
  have C__law_digits : ∀ base : Heap, Cal P w K mg base "_law_digits" 1 ["cell", "many", "count"] S__law_digits := fun base => ⟨f20, _, ok__law_digits F20 M_range M_int, PySem.W.mg_of X G a20, k20, b20⟩
  have F21 := fun_mk (st := s__law_points) l21 c21 k21
  have b21 := F21.binds (ps := ["script", "place", "most"]) fun _ _ _ _ _ _ us hl => match us, hl with | [_, _, _], _ => rfl
  have C__law_points : ∀ base : Heap, Cal P w K mg base "_law_points" 2 ["script", "place", "most"] S__law_points := fun base => ⟨f21, _, ok__law_points F21 (C__law_cell base) M_int (C__law_digits base) M_range, PySem.W.mg_of X G a21, k21, b21⟩
  have F22 := fun_mk (st := s__law_three) l22 c22 k22
  have b22 := F22.binds (ps := ["one", "two", "three", "error"]) fun _ _ _ _ _ _ us hl => match us, hl with | [_, _, _, _], _ => rfl
  have C__law_three : ∀ base : Heap, Cal P w K mg base "_law_three" 1 ["one", "two", "three", "error"] S__law_three := fun base => ⟨f22, _, ok__law_three F22 M_abs, PySem.W.mg_of X G a22, k22, b22⟩
  have F23 := fun_mk (st := s__law_fits) l23 c23 k23
  have b23 := F23.binds (ps := ["points", "error"]) fun _ _ _ _ _ _ us hl => match us, hl with | [_, _], _ => rfl
  have C__law_fits : ∀ base : Heap, Cal P w K mg base "_law_fits" 2 ["points", "error"] S__law_fits := fun base => ⟨f23, _, ok__law_fits F23 M_len M_range (C__law_three base), PySem.W.mg_of X G a23, k23, b23⟩
  have F24 := fun_mk (st := s__law_starts) l24 c24 k24
  have b24 := F24.binds (ps := ["points", "error"]) fun _ _ _ _ _ _ us hl => match us, hl with | [_, _], _ => rfl
  have C__law_starts : ∀ base : Heap, Cal P w K mg base "_law_starts" 3 ["points", "error"] S__law_starts := fun base => ⟨f24, _, ok__law_starts F24 M_len M_range (C__law_fits base), PySem.W.mg_of X G a24, k24, b24⟩
  have F25 := fun_mk (st := s__law_count) l25 c25 k25
  have b25 := F25.binds (ps := ["points", "error"]) fun _ _ _ _ _ _ us hl => match us, hl with | [_, _], _ => rfl
  have C__law_count : ∀ base : Heap, Cal P w K mg base "_law_count" 4 ["points", "error"] S__law_count := fun base => ⟨f25, _, ok__law_count F25 (C__law_starts base) M_len, PySem.W.mg_of X G a25, k25, b25⟩
  have F26 := fun_mk (st := s_law) l26 c26 k26
  have F27 := fun_mk (st := s_Strip_line) l27 c27 k27
  have b27 := F27.binds (ps := ["self"]) fun _ _ _ _ _ _ us hl => match us, hl with | [_], _ => rfl
  have C_Strip_line : ∀ base : Heap, MetK P w K mg base 4 "line" 3 ["self"] [true] S_Strip_line := fun base => ⟨C4, f27, _, M_ck4, ⟨a27, i27, k27⟩, ok_Strip_line F27 M_ck4 (C_middle_line base), b27⟩
  exact ⟨PySem.W.fnOf "law" "law" (defArgs s_law) (defBody s_law) (defScope s_law) .none kV26 dc26 pm26 an26 cd26 ct26, fun s v => .of_eq rfl, fun base _ _ => (ok_law (P := P) (w := w) (base := base) F26 (C__law_points base) (C__law_cell base) M_int M_list (C_least_error base) (C__law_count base) M_isinstance (C_staircase base) M_len M_min M_range).imp fun vs H Q E ⟨a, ns, e, hS, hl, k⟩ => ⟨H, [.scr ns], .bl true, by rw [e]; rfl, Same.refl _, trivial, by rw [e]; exact .cons (.scr hS) .nil, law_true ns hl, fun G' H' v x r => by cases r; exact k H'⟩⟩
end K08
open PySem PySem.W PyProof.Rows
set_option maxHeartbeats 0 in
theorem PySem.Challenge.cw_fewestlines_k08_least_errors_holds : PySem.Challenge.rw_fewestlines_k08_least_errors.Holds := by
  w_on; o_law; k_head; (case hw => w_witness2)
  k_fill
  refine L2.walk_of (l := PySem.Challenge.rw_fewestlines_k08_least_errors) (n := 63) (k := 8) (x := "script") (CX := fun _ => L2.CX0) (sp := fun w => K08.spLaw _) rfl (by decide) rfl ⟨rfl, by decide, by decide⟩ (fun w h Y => PySem.W.kIn_of Y) ?F (fun _ _ a ns hl _ hS => ⟨a, ns, rfl, hS, hl, fun _ => rfl⟩) (fun _ _ _ _ _ h => h)
  case F =>
    intro w mg fa h KX G hmg
    refine' K08.all_mk KX G hmg ?gC4 ?pg4 ?hd4 ?po4 ?sa4 ?nf4_0 ?nf4_1 ?nf4_2 ?mk4 ?kc4 ?gC14 ?pg14 ?hd14 ?po14 ?sa14 ?nf14_0 ?nf14_1 ?mk14 ?kc14 ?gC15 ?pg15 ?hd15 ?po15 ?sa15 ?nf15_0 ?nf15_1 ?mk15 ?kc15 ?a1 ?l1 ?c1 ?k1 ?a2 ?l2 ?c2 ?k2 ?a3 ?l3 ?c3 ?k3 ?a4 ?l4 ?c4 ?k4 ?a5 ?l5 ?c5 ?k5 ?a6 ?l6 ?c6 ?k6 ?a7 ?i7 ?l7 ?c7 ?k7 ?a8 ?i8 ?l8 ?c8 ?k8 ?a9 ?i9 ?l9 ?c9 ?k9 ?a10 ?i10 ?l10 ?c10 ?k10 ?a11 ?i11 ?l11 ?c11 ?k11 ?a12 ?i12 ?l12 ?c12 ?k12 ?a13 ?i13 ?l13 ?c13 ?k13 ?a14 ?i14 ?l14 ?c14 ?k14 ?a15 ?i15 ?l15 ?c15 ?k15 ?a16 ?l16 ?c16 ?k16 ?a17 ?l17 ?c17 ?k17 ?a18 ?l18 ?c18 ?k18 ?a19 ?l19 ?c19 ?k19 ?a20 ?l20 ?c20 ?k20 ?a21 ?l21 ?c21 ?k21 ?a22 ?l22 ?c22 ?k22 ?a23 ?l23 ?c23 ?k23 ?a24 ?l24 ?c24 ?k24 ?a25 ?l25 ?c25 ?k25 ?a26 ?l26 ?c26 ?k26 ?a27 ?i27 ?l27 ?c27 ?k27 ?z_len ?z_gcd ?z_list ?z_max ?z_min ?z_range ?z_int ?z_abs ?z_isinstance
    (case gC4 => k_is); (case pg4 => k_is); (case hd4 => k_is); (case po4 => k_is); (case sa4 => k_is); (case nf4_0 => k_is); (case nf4_1 => k_is); (case nf4_2 => k_is); (case mk4 => k_is); (case kc4 => k_is); (case gC14 => k_is); (case pg14 => k_is); (case hd14 => k_is); (case po14 => k_is); (case sa14 => k_is); (case nf14_0 => k_is); (case nf14_1 => k_is); (case mk14 => k_is); (case kc14 => k_is); (case gC15 => k_is); (case pg15 => k_is); (case hd15 => k_is); (case po15 => k_is); (case sa15 => k_is); (case nf15_0 => k_is); (case nf15_1 => k_is); (case mk15 => k_is); (case kc15 => k_is); (case a1 => k_is); (case l1 => k_is); (case c1 => k_is); (case k1 => k_is); (case a2 => k_is); (case l2 => k_is); (case c2 => k_is); (case k2 => k_is); (case a3 => k_is); (case l3 => k_is); (case c3 => k_is); (case k3 => k_is); (case a4 => k_is); (case l4 => k_is); (case c4 => k_is); (case k4 => k_is); (case a5 => k_is); (case l5 => k_is); (case c5 => k_is); (case k5 => k_is); (case a6 => k_is); (case l6 => k_is); (case c6 => k_is); (case k6 => k_is); (case a7 => k_is); (case i7 => k_is); (case l7 => k_is); (case c7 => k_is); (case k7 => k_is); (case a8 => k_is); (case i8 => k_is); (case l8 => k_is); (case c8 => k_is); (case k8 => k_is); (case a9 => k_is); (case i9 => k_is); (case l9 => k_is); (case c9 => k_is); (case k9 => k_is); (case a10 => k_is); (case i10 => k_is); (case l10 => k_is); (case c10 => k_is); (case k10 => k_is); (case a11 => k_is); (case i11 => k_is); (case l11 => k_is); (case c11 => k_is); (case k11 => k_is); (case a12 => k_is); (case i12 => k_is); (case l12 => k_is); (case c12 => k_is); (case k12 => k_is); (case a13 => k_is); (case i13 => k_is); (case l13 => k_is); (case c13 => k_is); (case k13 => k_is); (case a14 => k_is); (case i14 => k_is); (case l14 => k_is); (case c14 => k_is); (case k14 => k_is); (case a15 => k_is); (case i15 => k_is); (case l15 => k_is); (case c15 => k_is); (case k15 => k_is); (case a16 => k_is); (case l16 => k_is); (case c16 => k_is); (case k16 => k_is); (case a17 => k_is); (case l17 => k_is); (case c17 => k_is); (case k17 => k_is); (case a18 => k_is); (case l18 => k_is); (case c18 => k_is); (case k18 => k_is); (case a19 => k_is); (case l19 => k_is); (case c19 => k_is); (case k19 => k_is); (case a20 => k_is); (case l20 => k_is); (case c20 => k_is); (case k20 => k_is); (case a21 => k_is); (case l21 => k_is); (case c21 => k_is); (case k21 => k_is); (case a22 => k_is); (case l22 => k_is); (case c22 => k_is); (case k22 => k_is); (case a23 => k_is); (case l23 => k_is); (case c23 => k_is); (case k23 => k_is); (case a24 => k_is); (case l24 => k_is); (case c24 => k_is); (case k24 => k_is); (case a25 => k_is); (case l25 => k_is); (case c25 => k_is); (case k25 => k_is); (case a26 => k_is); (case l26 => k_is); (case c26 => k_is); (case k26 => k_is); (case a27 => k_is); (case i27 => k_is); (case l27 => k_is); (case c27 => k_is); (case k27 => k_is); (case z_len => k_is); (case z_gcd => k_is); (case z_list => k_is); (case z_max => k_is); (case z_min => k_is); (case z_range => k_is); (case z_int => k_is); (case z_abs => k_is); (case z_isinstance => k_is)

